import PyProof.Rows.All
import Wide.All
import OpenK.AllK
import Wide.FinOn
import HandS.ForMost
import HandS.IsInst
import HandS.Defaults
import HandS.Replace
import HandS.TupMul
import HandS.More
import KE.IntTextLaws
import HandS.ForExc
import HandS.ExcInit
import HandS.Lambda
import HandS.ExcIs
import HandS.EndTab
import KE.KExcIs
import HandS.ExcField
import HandS.WrittenGet
import PyProof.TypeEq
import HandS.TupAny
import HandS.FStr
import KE.DataEq
import PyProof.P3Eq
import KE.KIntText
import HandS.Text
import PyProof.Rows.StrFin3
import HandS.Style
import KE.GoesMore
import HandS.Iter
import HandS.MakeKw
import HandS.SortInts
import HandS.SortKw
import KE.DataMinMax
import KE.KExcInit
import HandS.NamedTupGet
import PyProof.EqKinds
import PyProof.InstEq
import HandS.OwnEq
import PySem.Challenge.RW_bindbench_k30_rounds_made
set_option Elab.async false
set_option linter.all false
set_option maxRecDepth 100000
set_option maxHeartbeats 2000000
namespace Gd
open PySem PySem.Spec PyProof.Rows L2

/-! ### a promise of a def that holds where no repr is under way -/
structure FnG (P : Program) (w : World) (K : PySem.W.Frag) (mg : Str → Option Value) (base : Heap) (k : Nat) (f : Addr) (fd : FuncData) (ps : List Str) (sp : Sp) : Prop where
  args : ∀ {vs H Q E}, sp vs H Q E → vs.length = ps.length
  runs : ∀ {A : Around} {out : List Env} {s : Shared} {H : Hp} {ar : Args} {us : List Value} {vs : List V} {Q : VK} {E : XK},
    A.guards = some [] → Room k A → Env0 P w K mg base A out s H → BindsTo s fd ar (ps.zip us) → Vals vs us → sp vs H Q E →
    codeAny (model P w) A (.call (.ref f) ar) (CR CX0 out P w H s Q E) s

variable {P : Program} {w : World} {K : PySem.W.Frag} {mg : Str → Option Value} {base : Heap}

theorem FnG.of {k : Nat} {f : Addr} {fd : FuncData} {ps : List Str} {sp : Sp} (F : FnOk P w K mg base CX0 k f fd ps sp) : FnG P w K mg base k f fd ps sp :=
  ⟨fun h => F.len _ _ _ _ h, fun _ hr e hb r h => F.run _ _ _ _ _ _ _ _ _ hr e hb r h⟩

/-- what CR CX0 says of a result -/
theorem cr_out {out : List Env} {H : Hp} {s s' : Shared} {Q : VK} {E : XK} {r : Result} (h : CR CX0 out P w H s Q E r s') : ∃ u, r = .ok (.ret u) ∧ CE out P w H s Q u s' := by
  match r, h with
  | .ok (.ret u), h => exact ⟨u, rfl, h⟩
  | .ok .next, h => exact False.elim h
  | .ok .brk, h => exact False.elim h
  | .ok .cont, h => exact False.elim h
  | .error _, h => exact False.elim h

theorem deeper_guards {A : Around} {env : Env} : (A.deeper env).guards = A.guards := rfl

/-- a def, from its body, where no repr is under way -/
theorem fn_okC {x qual : Str} {st : Stmt} {f : Addr} {fd : FuncData} {N ps : List Str} {k : Nat} {sp : Sp} (F : Fun K x qual st f fd) (S : FnScope N ps (defScope st)) (len : ∀ vs H Q E, sp vs H Q E → vs.length = ps.length)
    (hbody : ∀ (cdv : Value) (A : Around) (out : List Env) (s : Shared) (H : Hp) (vs : List V) (Q : VK) (E : XK), (∃ oc od kV doc pm an ct osl, K.lookup f = some ⟨oc, od, .func (PySem.W.fnOf x qual (defArgs st) (defBody st) (defScope st) .none kV doc pm an cdv ct), osl⟩) → A.guards = some [] → Room k (A.deeper (envOfC qual (defScope st) s.heap.objs.size f cdv)) → sp vs H Q E →
      ∃ t, PSs (cxOf CX0 P w K mg base N qual (defScope st) f cdv A out s H E).nox (defBody st) t ∧ t { nx := fun _ H' => Q .non H', rt := Q } (start N vs) H) : FnG P w K mg base (k + 1) f fd ps sp := by
  obtain ⟨oc, od, kV, doc, pm, an, cdv, ct, osl, rfl, lk, hcd⟩ := F.ex
  refine ⟨fun h => len _ _ _ _ h, ?_⟩
  intro A out s H ar us vs Q E hA room e0 bnd rel pr
  obtain ⟨t, body, start'⟩ := hbody cdv A out s H vs Q E ⟨oc, od, kV, doc, pm, an, ct, osl, lk⟩ hA (room.deeper _) pr
  have inK : K.In s.heap := e0.mod.kin.keeps (fun b o q => (e0.bs b o q).1)
  have nolim : s.heap.NoLimit := e0.mod.nolimit.keeps (fun b o q => (e0.bs b o q).1)
  refine codeAny_call_function room.depth (inK _ _ lk) rfl S.co S.gen rfl (PySem.W.codeRec_of inK hcd) (bnd _ _ _ _ ?_)
  have kinds : ∀ y ∈ ps.zip us, (defScope st).names.lookup y.1 = some .local ∨ ((defScope st).names.lookup y.1 = some .cell ∧ ((cellsFrom (s.heap.objs.size + 1) (defScope st).names []).lookup y.1).isSome = true) := by
    rintro ⟨nm, val⟩ hy
    have m := (List.of_mem_zip hy).1
    exact (S.par nm m).imp id fun q => ⟨q, PySem.W.cellsFrom_some _ _ _ (.inl q)⟩
  refine wpAny_newFunctionEnv_cells S.kind kinds ?_
  rintro env rfl s1 made
  refine ⟨nolim.keeps made.toInCall.keep, codeAny_func ?_⟩
  have inv0 := inv_start (CX := CX0) (mg := mg) (qual := qual) (cd := cdv) (E := E) S room.hd e0 (len _ _ _ _ pr) rel made
  refine wpAny_mono ((body.nox).run [] s1 (start N vs) H _ inv0 start') ?_ fun e s' z => z
  intro fl s' z
  match fl, z with
  | .ret u, ⟨v, σ', H', J, rv, q⟩ => exact ⟨v, H', J.os, J.bare, J.base, J.hok, rv, q⟩
  | .next, ⟨σ', H', J, q⟩ => exact ⟨.non, H', J.os, J.bare, J.base, J.hok, rfl, q⟩
  | .brk, ⟨_, _, _, q⟩ => exact False.elim q
  | .cont, ⟨_, _, _, q⟩ => exact False.elim q

theorem fn_okG {x qual : Str} {st : Stmt} {f : Addr} {fd : FuncData} {N ps : List Str} {k : Nat} {sp : Sp} (F : Fun K x qual st f fd) (S : FnScope N ps (defScope st)) (len : ∀ vs H Q E, sp vs H Q E → vs.length = ps.length)
    (hbody : ∀ (cdv : Value) (A : Around) (out : List Env) (s : Shared) (H : Hp) (vs : List V) (Q : VK) (E : XK), A.guards = some [] → Room k (A.deeper (envOfC qual (defScope st) s.heap.objs.size f cdv)) → sp vs H Q E →
      ∃ t, PSs (cxOf CX0 P w K mg base N qual (defScope st) f cdv A out s H E).nox (defBody st) t ∧ t { nx := fun _ H' => Q .non H', rt := Q } (start N vs) H) : FnG P w K mg base (k + 1) f fd ps sp :=
  fn_okC F S len fun cdv A out s H vs Q E _ => hbody cdv A out s H vs Q E

/-! ### calls of such defs -/
section
variable {X : Cx} {k : Nat} {f : Addr} {fd : FuncData} {ps : List Str} {sp : Sp} {dvs : List V} {ds : List Value} {E : XK} {x : Str} {p pos : Pos} {e : Expr} {es : List Expr} {t : TA}
theorem goG (G : FnG X.prog X.w X.K X.mg X.base k f fd ps sp) (hA : X.A.guards = some []) (room : Room k X.A) (bd : Binds X.K fd ps ds) (dv : Vals dvs ds)
    {pins : List (Addr × Obj)} {σ : L2.St} {H : Hp} {s : Shared} {Q : VK} {us : List Value} {vs : List V} (I : Inv X pins σ H s) (r : Vals vs us) (pr : sp (vs ++ dvs) H Q E) :
    wpAny (model X.prog X.w) X.A (call (.ref f) us) (EP X pins σ Q) X.xe s := by
  have rel := r.append dv
  have n : (us ++ ds).length = ps.length := rel.length ▸ G.args pr
  refine wpAny_call (codeAny_mono (G.runs hA room I.env0 (bd s us I.kIn n) rel pr) ?_)
  intro res s' out
  obtain ⟨u, rfl, ce⟩ := cr_out out
  exact I.after ce
/-- f(e, ..) of such a def -/
theorem pe_callG (G : FnG X.prog X.w X.K X.mg X.base k f fd ps sp) (hA : X.A.guards = some []) (room : Room k X.A) (gl : Gl X x) (at_ : X.mg x = some (.ref f)) (kp : PySem.W.keepIn X.K (.ref f) = true) (bd : Binds X.K fd ps ds) (dv : Vals dvs ds)
    (ha : PA X (e :: es) t) (ndb : (x == ("__debug__" : Str)) = false := by decide) (h1 : starEach (e :: es) X.env = (false, eval e X.env) :: starEach es X.env := by rfl) (h2 : (backTo pos (starEach es X.env)).any (·.1) = false := by rfl) :
    PE X (.Call (.Name x p) (e :: es) [] pos) (tCall sp dvs E t) :=
  ⟨fun pins s σ H Q I h => wpAny_Call_Name_kw (ld_glob I gl at_ (PySem.W.callWith_K (h₀ := X.base) I.ok.mod.kin kp
    (thn (ha.run pos pins s σ H _ I h) fun us s1 ⟨vs, H1, J, r, q⟩ => ⟨J.kIn, goG G hA room bd dv J r q⟩) h1 h2) ndb)⟩
end

/-! ### repr -/
section
variable {X : Cx}
theorem vals_one {x : V} {us : List Value} (r : Vals [x] us) : ∃ u, us = [u] ∧ RelV x u := by
  cases r with
  | cons a b => cases b; exact ⟨_, rfl, a⟩
/-- what may be shown -/
structure Shw (d : PyData) : Prop where
  ok : d.showable = true
  nod : d.hasDict = false
  dep : d.depth ≤ 60
  len : d.shown.length ≤ sizeLine
/-- repr(x) of data: its text hangs on the data alone -/
def rRepr (K : PySem.W.Frag) : List V → Hp → VK → Prop := fun xs H Q => ∃ (x : V) (d : PyData), xs = [x] ∧ Dp K H x d ∧ Shw d ∧ Q (.str d.shown) H
theorem call_repr (hA : X.A.guards = some []) (hu : X.A.units + 64 < cLine) : CallR X (.builtin "repr") (rRepr X.K) := by
  intro pins s σ H xs us Q I r h
  obtain ⟨x, d, rfl, hd, ⟨hs, hn, hdep, hz⟩, q⟩ := h
  obtain ⟨u, rfl, ru⟩ := vals_one r
  obtain ⟨as, rd⟩ := Dp.reads I d _ u hd ru
  have big : ∀ a : Addr, u = .ref a → wpAny (model X.prog X.w) X.A (call (.builtin "repr") [u]) (EP X pins σ Q) X.xe s := by
    rintro a rfl
    refine repr_of_reads' rd hs (PyData.noDict_hsm hn) hA (by omega) (fun _ _ e => e) (fun h' u tk kp => ?_) hz
    exact ⟨.str d.shown, H, I.kept kp, ⟨u, rfl⟩, q⟩
  cases hd with
  | non =>
    obtain rfl : u = Value.none := ru
    exact PySem.P.repr_of_none ⟨.str _, H, I.tok _, ⟨_, rfl⟩, q⟩
  | bl b =>
    obtain rfl : u = Value.bool b := ru
    refine PySem.P.repr_of_bool ⟨.str _, H, I.tok _, ⟨_, rfl⟩, ?_⟩
    cases b <;> exact q
  | int i =>
    obtain ⟨t, rfl⟩ := ru
    refine PySem.P.repr_of_int ?_ ⟨.str _, H, I.tok _, ⟨_, rfl⟩, q⟩
    simpa [PyData.showable] using hs
  | str z =>
    obtain ⟨t, rfl⟩ := ru
    exact PySem.P.repr_of_str ⟨.str _, H, I.tok _, ⟨_, rfl⟩, q⟩ hz
  | lst _ _ => exact big _ ru
  | tup _ _ => exact big _ ru
end
/-! ### the law's own call, where no repr is under way -/
/-- the heap below: all but the script -/
theorem below_script {s : Shared} {H : Hp} {a : Addr} {vs : Array Value} {n : Nat} {mb : Str → Option Value} (KX : K.In s.heap) (hns : s.heap.Ns mainGlobals mg) (hb : s.heap.Ns builtinsNs mb) (hbb : ∀ x : Str, x ≠ "__name__" → mb x = bootBuiltins x)
    (lim : s.heap.NoLimit) (ha : s.heap.get? a = some { cls := .type "list", data := .seq vs n }) (only : ∀ b, b ≠ a → H b = none) (apart : K.lookup a = none ∨ H a = none) :
    K.In (hidT s.heap H) ∧ (hidT s.heap H).Ns mainGlobals mg ∧ Mod K mg (hidT s.heap H) := by
  have names : ∀ (b : Addr) (m : Str → Option Value), s.heap.Ns b m → (hidT s.heap H).Ns b m := by
    rintro b m ⟨o, es, ep, q, dat, rest⟩
    refine ⟨o, es, ep, hidT_get q (only b fun z => ?_), dat, rest⟩
    subst z
    rw [ha] at q
    cases q
    cases (show Data.seq vs n = Data.dict es ep from dat)
  have inK : K.In (hidT s.heap H) := fun b o q => hidT_get (KX b o q) (by
    by_cases z : b = a
    · subst z
      rcases apart with w1 | w1
      · rw [w1] at q; cases q
      · exact w1
    · exact only b z)
  obtain ⟨mc, c1, c2⟩ := lim
  exact ⟨inK, names _ _ hns, ⟨inK, names _ _ hns, ⟨mb, names _ _ hb, hbb⟩, ⟨mc, names _ _ c1, c2⟩⟩⟩

theorem run_script {mb : Str → Option Value} {k : Nat} {fa a : Addr} {fd : FuncData} {x : Str} {sp : Sp} {s : Shared} {vs : List Value} {H : Hp}
    (KX : K.In s.heap) (hns : s.heap.Ns mainGlobals mg) (hb : s.heap.Ns builtinsNs mb) (hbb : ∀ x : Str, x ≠ "__name__" → mb x = bootBuiltins x) (lim : s.heap.NoLimit) (nog : s.gens = #[])
    (ha : s.heap.get? a = some { cls := .type "list", data := .seq vs.toArray }) (room : Room k callerA)
    (G : ∀ base : Heap, K.In base → base.Ns mainGlobals mg → FnG P w K mg base k fa fd [x] sp) (bind : ∀ (s : Shared) (u : Value), BindsTo s fd ⟨[u], []⟩ [(x, u)])
    (only : ∀ b, b ≠ a → H b = none) (apart : K.lookup a = none ∨ H a = none) (ok : HOk P w H s.heap) (fz : ∀ u, H a = some u → ∃ o v, u = .frz o v)
    (pr : sp [.ref a] H (fun v _ => v = .bl true) fun _ _ _ => False) :
    codeAny (model P w) callerA (.call (.ref fa) ⟨[.ref a], []⟩) (fun r s' => r = .ok (.ret (.bool true)) ∧ OldK s.heap s'.heap ∧ s'.os = s.os ∧ AllBare s'.gens) s := by
  obtain ⟨inK, nsm, md⟩ := below_script KX hns hb hbb lim ha only apart
  have none_in : ∀ b : Addr, b ∈ frs ([] : List Env) → False := fun b z => by cases z
  have env0 : Env0 P w K mg (hidT s.heap H) callerA [] s H :=
    { frames := rfl, mod := md, bs := fun b o q => of_hidT q, bsz := Nat.le_of_eq (hidT_size _ _), funs := trivial, frf := fun b z => (none_in b z).elim, hok := ok, bare := .of_eq nog }
  refine codeAny_mono ((G _ inK nsm).runs (us := [.ref a]) (vs := [.ref a]) rfl room env0 (bind s (.ref a)) (.cons rfl .nil) pr) ?_
  intro r s' out
  obtain ⟨u, rfl, v, H', os, bare, un, ok', rel, q⟩ := cr_out out
  subst q
  obtain rfl : u = Value.bool true := rel
  refine ⟨rfl, OldK.of_keep ?_, os, bare⟩
  intro b o old
  cases q : H b with
  | none => exact un.keep b o old q (fun z => none_in b z) (fun z => by cases z)
  | some ho =>
    by_cases z : b = a
    · subst z
      obtain ⟨ob, v', rfl⟩ := fz _ q
      have e1 := (ok b _ q).1
      have e2 := (ok' b _ (un.frzs b ob _ q)).1
      rw [old] at e1
      cases e1
      exact e2
    · rw [only b z] at q
      cases q

/-- what k_head leaves, from the promise of the law's def -/
theorem walkG {l : PySem.W.OpenLaw} {n k : Nat} {q : Program} {loose : List Str} {XP : (Str → Option Value) → Heap → Prop} {YP : World → Heap → Prop} {d : DefRec} {KK : Params → PySem.W.Frag} {sp : World → Sp} {x : Str}
    (hn : l.most = some n) (hn2 : n ≤ sizeLine) (nod : d.params.defaults = []) (room : Room k callerA) (hY : ∀ (w : World) (h : Heap), YP w h → (KK w.params).In h)
    (G : ∀ (w : World) (mg : Str → Option Value) (fa : Addr) (h : Heap), (KK w.params).In h → h.Ns mainGlobals mg → mg d.name = some (.ref fa) →
      ∃ fd : FuncData, (∀ (s : Shared) (u : Value), BindsTo s fd ⟨[u], []⟩ [(x, u)]) ∧ ∀ base : Heap, (KK w.params).In base → base.Ns mainGlobals mg → FnG l.prog w (KK w.params) mg base k fa fd [x] (sp w))
    (pr : ∀ (w : World) (H : Hp) (a : Addr) (ns : List Int), ns.length ≤ n → SqL (KK w.params) H a (ns.map V.int) → (∀ b, b ≠ a → H b = none) → sp w [.ref a] H (fun v _ => v = .bl true) fun _ _ _ => False) :
    PySem.W.WalkO q loose XP YP l.row.toRowW d [] (fun f vs => PySem.call f vs) := by
  refine Att.attach_call hn nod ?_
  intro w s0 s1 mg mb fa o pm cd doc a vs ns T Y _ _ _ at_ obj intsA len nog
  have KX := hY w _ Y
  obtain ⟨fd, bind, F⟩ := G w mg fa _ KX T.T.g at_
  have size : (ns.map V.int).length ≤ sizeLine := by
    rw [List.length_map]
    exact Nat.le_trans len hn2
  cases z : (KK w.params).lookup a with
  | none =>
    have at1 : (fun b => if b = a then some (HO.frz { cls := .type "list", data := .seq vs.toArray } (.lst (ns.map V.int))) else none : Hp) a = some (HO.frz { cls := .type "list", data := .seq vs.toArray } (.lst (ns.map V.int))) := if_pos rfl
    refine run_script (H := fun b => if b = a then some (.frz { cls := .type "list", data := .seq vs.toArray } (.lst (ns.map V.int))) else none) KX T.T.g T.T.b T.T.builtins T.T.nolimit nog obj room F bind (fun b ne => if_neg ne) (.inl z) ?_ ?_ ?_
    · intro b u e
      by_cases ne : b = a
      · subst ne
        have e2 := at1.symm.trans e
        cases e2
        exact ⟨obj, size, vs, _, vals_ints intsA, obj⟩
      · have e' := (if_neg ne).symm.trans e
        cases e'
    · intro u e
      have e2 := at1.symm.trans e
      cases e2
      exact ⟨_, _, rfl⟩
    · exact pr w _ a ns len (.inl (.inr ⟨_, at1⟩)) fun b ne => if_neg ne
  | some ob =>
    have e := KX a ob z
    rw [obj] at e
    cases e
    refine run_script (H := fun _ => none) KX T.T.g T.T.b T.T.builtins T.T.nolimit nog obj room F bind (fun _ _ => rfl) (.inr rfl) (fun b u e => by cases (show (none : Option HO) = some u from e)) (fun u e => by cases (show (none : Option HO) = some u from e)) ?_
    refine pr w _ a ns len (.inr ⟨_, vs.toArray, _, z, rfl, rfl, rfl, ?_, by simpa using vals_ints intsA⟩) fun _ _ => rfl
    rw [List.size_toArray, intsA.length]
    rw [List.length_map] at size
    exact size
end Gd

set_option maxRecDepth 100000
set_option maxHeartbeats 2000000
namespace Gd
open PySem PySem.Spec PyProof.Rows L2

/-! ### walks of any kind, by a word at each turn -/
section
variable {J : It} {g : TG} {tb : TS} {D : Ends} {σ : L2.St} {H : Hp}
theorem for_gen (n : Nat) (Pv : Nat → L2.St → Hp → Prop) (h0 : Pv 0 σ H) (go : ∀ i σ H, i < n → Pv i σ H → J.go i H) (stop : ∀ σ H, Pv n σ H → J.stop n H)
    (turn : ∀ i σ H x H', i < n → Pv i σ H → J.yld i H x H' → g x σ H' fun σ2 H2 => tb { D with nx := Pv (i + 1), ct := Pv (i + 1), bk := D.nx } σ2 H2) (fin : ∀ σ H, Pv n σ H → D.nx σ H) :
    ∃ W : Nat → Nat → L2.St → Hp → Prop, (∃ m, W 0 m σ H) ∧ ∀ i m σ H, W i m σ H → (J.stop i H ∧ D.nx σ H) ∨
      (J.go i H ∧ ∃ N : L2.St → Hp → Prop, (∀ σ' H', N σ' H' → ∃ m', m' < m ∧ W (i + 1) m' σ' H') ∧ ∀ x H', J.yld i H x H' → g x σ H' fun σ2 H2 => tb { D with nx := N, ct := N, bk := D.nx } σ2 H2) := by
  refine ⟨fun i m s h => i + m = n ∧ Pv i s h, ⟨n, Nat.zero_add n, h0⟩, fun i m s h hw => ?_⟩
  obtain ⟨e, p⟩ := hw
  match m, e with
  | 0, e =>
    obtain rfl : i = n := e
    exact .inl ⟨stop s h p, fin s h p⟩
  | m + 1, e =>
    have lt : i < n := by omega
    exact .inr ⟨go i s h lt p, Pv (i + 1), fun s' h' p' => ⟨m, Nat.lt_succ_self m, by omega, p'⟩, fun x h' y => turn i s h x h' lt p y⟩
theorem lc_gen {tt : TT} {te : TE} {vs : List Nat} {A : Addr} {Qd : Hp → Prop} (n : Nat) (Pv : Nat → Hp → Prop) (h0 : Pv 0 (upd H A (.lst []))) (go : ∀ i H, i < n → Pv i H → J.go i H) (stop : ∀ H, Pv n H → J.stop n H)
    (turn : ∀ i H x H', i < n → Pv i H → J.yld i H x H' → g x (wipe σ vs) H' fun σ2 H2 => wipe σ2 vs = wipe σ vs ∧ tt σ2 H2 fun b H3 =>
      if b = true then te σ2 H3 fun y H4 => ∃ acc, H4 A = some (.lst acc) ∧ acc.length < sizeLine ∧ Pv (i + 1) (upd H4 A (.lst (acc ++ [y]))) else Pv (i + 1) H3) (fin : ∀ H, Pv n H → Qd H) :
    ∃ W : Nat → Nat → Hp → Prop, (∃ m, W 0 m (upd H A (.lst []))) ∧ ∀ i m H, W i m H → (J.stop i H ∧ Qd H) ∨
      (J.go i H ∧ ∃ Nx : Hp → Prop, (∀ H', Nx H' → ∃ m', m' < m ∧ W (i + 1) m' H') ∧ ∀ x H', J.yld i H x H' → g x (wipe σ vs) H' fun σ2 H2 => wipe σ2 vs = wipe σ vs ∧ tt σ2 H2 fun b H3 =>
        if b = true then te σ2 H3 fun y H4 => ∃ acc, H4 A = some (.lst acc) ∧ acc.length < sizeLine ∧ Nx (upd H4 A (.lst (acc ++ [y]))) else Nx H3) := by
  refine ⟨fun i m h => i + m = n ∧ Pv i h, ⟨n, Nat.zero_add n, h0⟩, fun i m h hw => ?_⟩
  obtain ⟨e, p⟩ := hw
  match m, e with
  | 0, e =>
    obtain rfl : i = n := e
    exact .inl ⟨stop h p, fin h p⟩
  | m + 1, e =>
    have lt : i < n := by omega
    exact .inr ⟨go i h lt p, Pv (i + 1), fun h' p' => ⟨m, Nat.lt_succ_self m, by omega, p'⟩, fun x h' y => turn i h x h' lt p y⟩
end
/-- over enumerate(list) -/
theorem for_enum {K : PySem.W.Frag} {a : Addr} {xs : List V} {g : TG} {tb : TS} {D : Ends} {σ : L2.St} {H : Hp} (Pv : Nat → L2.St → Hp → Prop) (h0 : Pv 0 σ H) (st : ∀ i σ H, Pv i σ H → SqL K H a xs)
    (turn : ∀ i x σ H T, i < xs.length → xs[i]? = some x → Pv i σ H → H T = none → g (.ref T) σ (upd H T (.tup [.int (i : Nat), x])) fun σ2 H2 => tb { D with nx := Pv (i + 1), ct := Pv (i + 1), bk := D.nx } σ2 H2) (fin : ∀ σ H, Pv xs.length σ H → D.nx σ H) :
    ∃ W : Nat → Nat → L2.St → Hp → Prop, (∃ m, W 0 m σ H) ∧ ∀ i m σ H, W i m σ H → ((Ite K a).stop i H ∧ D.nx σ H) ∨
      ((Ite K a).go i H ∧ ∃ N : L2.St → Hp → Prop, (∀ σ' H', N σ' H' → ∃ m', m' < m ∧ W (i + 1) m' σ' H') ∧ ∀ x H', (Ite K a).yld i H x H' → g x σ H' fun σ2 H2 => tb { D with nx := N, ct := N, bk := D.nx } σ2 H2) := by
  refine for_gen xs.length Pv h0 (fun i s h lt p => ⟨xs, xs[i], st i s h p, List.getElem?_eq_getElem lt⟩) (fun s h p => ⟨xs, st _ s h p, Nat.le_refl _⟩) (fun i s h x h' lt p y => ?_) fin
  obtain ⟨T, z, rfl, fresh, rfl, known⟩ := y
  exact turn i z s h T lt (known xs (st i s h p)) p fresh
/-- over a text -/
theorem for_str {x : PySem.Str} {g : TG} {tb : TS} {D : Ends} {σ : L2.St} {H : Hp} (Pv : Nat → L2.St → Hp → Prop) (h0 : Pv 0 σ H)
    (turn : ∀ i c σ H, i < x.cps.toList.length → x.cps.toList[i]? = some c → Pv i σ H → g (.str ⟨#[c]⟩) σ H fun σ2 H2 => tb { D with nx := Pv (i + 1), ct := Pv (i + 1), bk := D.nx } σ2 H2) (fin : ∀ σ H, Pv x.cps.toList.length σ H → D.nx σ H) :
    ∃ W : Nat → Nat → L2.St → Hp → Prop, (∃ m, W 0 m σ H) ∧ ∀ i m σ H, W i m σ H → ((Its x).stop i H ∧ D.nx σ H) ∨
      ((Its x).go i H ∧ ∃ N : L2.St → Hp → Prop, (∀ σ' H', N σ' H' → ∃ m', m' < m ∧ W (i + 1) m' σ' H') ∧ ∀ v H', (Its x).yld i H v H' → g v σ H' fun σ2 H2 => tb { D with nx := N, ct := N, bk := D.nx } σ2 H2) := by
  refine for_gen x.cps.toList.length Pv h0 (fun i s h lt p => by show i < x.cps.size; simpa using lt) (fun s h p => by show x.cps.size ≤ x.cps.toList.length; simp) (fun i s h v h' lt p y => ?_) fin
  obtain ⟨rfl, c, e, rfl⟩ := y
  exact turn i c s _ lt (by simpa using e) p
theorem lc_str {x : PySem.Str} {g : TG} {σ : L2.St} {H : Hp} {tt : TT} {te : TE} {vs : List Nat} {A : Addr} {Qd : Hp → Prop} (Pv : Nat → Hp → Prop) (h0 : Pv 0 (upd H A (.lst [])))
    (turn : ∀ i c H, i < x.cps.toList.length → x.cps.toList[i]? = some c → Pv i H → g (.str ⟨#[c]⟩) (wipe σ vs) H fun σ2 H2 => wipe σ2 vs = wipe σ vs ∧ tt σ2 H2 fun b H3 =>
      if b = true then te σ2 H3 fun y H4 => ∃ acc, H4 A = some (.lst acc) ∧ acc.length < sizeLine ∧ Pv (i + 1) (upd H4 A (.lst (acc ++ [y]))) else Pv (i + 1) H3) (fin : ∀ H, Pv x.cps.toList.length H → Qd H) :
    ∃ W : Nat → Nat → Hp → Prop, (∃ m, W 0 m (upd H A (.lst []))) ∧ ∀ i m H, W i m H → ((Its x).stop i H ∧ Qd H) ∨
      ((Its x).go i H ∧ ∃ Nx : Hp → Prop, (∀ H', Nx H' → ∃ m', m' < m ∧ W (i + 1) m' H') ∧ ∀ v H', (Its x).yld i H v H' → g v (wipe σ vs) H' fun σ2 H2 => wipe σ2 vs = wipe σ vs ∧ tt σ2 H2 fun b H3 =>
        if b = true then te σ2 H3 fun y H4 => ∃ acc, H4 A = some (.lst acc) ∧ acc.length < sizeLine ∧ Nx (upd H4 A (.lst (acc ++ [y]))) else Nx H3) := by
  refine lc_gen x.cps.toList.length Pv h0 (fun i h lt p => by show i < x.cps.size; simpa using lt) (fun h p => by show x.cps.size ≤ x.cps.toList.length; simp) (fun i h v h' lt p y => ?_) fin
  obtain ⟨rfl, c, e, rfl⟩ := y
  exact turn i c _ lt (by simpa using e) p

/-! ### heaps -/
theorem same_new {H : Hp} {p : Addr} {o : HO} (h : H p = none) : Same H (upd H p o) := fun b u e => by
  rw [upd_ne (ne_of_none e h)]
  exact e
theorem same_put {H H' : Hp} {p : Addr} {o : HO} (s : Same H H') (h : H p = none) : Same H (upd H' p o) := fun b u e => by
  rw [upd_ne (ne_of_none e h)]
  exact s b u e
theorem same_both {H H' : Hp} {p : Addr} {o : HO} (s : Same H H') : Same (upd H p o) (upd H' p o) := fun b u e => by
  by_cases z : b = p
  · subst z
    rw [upd_same] at e ⊢
    exact e
  · rw [upd_ne z] at e ⊢
    exact s b u e

/-! ### a call by keywords alone -/
section
variable {X : Cx} {CX : CXT} {k : Nat} {f : Addr} {fd : FuncData} {ps ks : List PySem.Str} {sp : Sp} {E : XK} {x : PySem.Str} {p pos : Pos} {kws : List Keyword} {tk : TA} {g : List Value → List Value → List Value} {gV : List V → List V → List V}
theorem pe_callK0 (F : FnOk X.prog X.w X.K X.mg X.base CX k f fd ps sp) (room : Room k X.A) (gl : Gl X x) (at_ : X.mg x = some (.ref f)) (kp : PySem.W.keepIn X.K (.ref f) = true) (kb : KBinds X.K fd ps ks g gV) (pass : Passes CX X E)
    (hkw : PK X kws tk) (h1 : (backToKw pos (keywordEach kws X.env)).all (·.1.isSome) = true := by rfl) (h2 : (backToKw pos (keywordEach kws X.env)).filterMap (·.1) = ks := by rfl) (ndb : (x == ("__debug__" : PySem.Str)) = false := by decide)
    (h3 : ((backTo pos (starEach [] X.env)).any (·.1) || (backToKw pos (keywordEach kws X.env)).any (·.1.isNone)) = false := by rfl) :
    PE X (.Call (.Name x p) [] kws pos) (fun σ H Q => tk σ H fun zs H1 => sp (gV [] zs) H1 Q E) := by
  refine ⟨fun pins s σ H Q I h => wpAny_Call_Name_kw (ld_glob I gl at_ (PySem.W.callWith_KW0 (h₀ := X.base) I.ok.mod.kin kp h1 (thn (hkw.run pos pins s σ H _ I h) fun ws s2 z => ?_) h3) ndb)⟩
  obtain ⟨zs, H2, J, rz, q⟩ := z
  refine ⟨J.kIn, ?_⟩
  rw [h2]
  exact run_fnk (us := []) (vs := []) F room kb pass J .nil rz q
end

/-! ### texts and tuples repeated -/
section
variable {X : Cx}
theorem op_rep_str : OpR X (binaryOp .Mult) (fun x y H Q => ∃ (z : PySem.Str) (k : Int), x = .str z ∧ y = .int k ∧ MulOk z k ∧ Q (.str (Txt.mul z k)) H) := by
  intro pins s σ H x y v u Q I rx ry h
  obtain ⟨z, k, rfl, rfl, ok, q⟩ := h
  obtain ⟨t, rfl⟩ := rx
  obtain ⟨t', rfl⟩ := ry
  exact SB.mul ok fun t2 n => ⟨.str (Txt.mul z k), H, I.tok n, ⟨t2, rfl⟩, q⟩
/-- a tuple that is not empty, at least twice -/
theorem op_repTW : OpR X (binaryOp .Mult) (fun x y H Q => ∃ (l : Addr) (k : Int) (xs : List V), x = .ref l ∧ y = .int k ∧ H l = some (.tup xs) ∧ xs ≠ [] ∧ 2 ≤ k ∧ xs.length * k.toNat ≤ 1000000 ∧ ∀ p, H p = none → Q (.ref p) (upd H p (.tup (List.replicate k.toNat xs).flatten))) := by
  intro pins s σ H x y v u Q I rx ry h
  obtain ⟨l, k, xs, rfl, rfl, hl, some_, two, many, q⟩ := h
  cases rx
  obtain ⟨t, rfl⟩ := ry
  obtain ⟨its, rel, ⟨⟨cls, dd, data, sl⟩, at_, hc, n, hd⟩, _⟩ := I.tuple (.inl (.inl hl))
  simp only at hc hd
  subst hc hd
  have same : its.length = xs.length := rel.length.symm
  have cnt : its.toArray.size = xs.length := by rw [List.size_toArray, same]
  have k1 : ((k.toNat : Nat) : Int) = k := Int.toNat_of_nonneg (by omega)
  have big : ((its.toArray.size : Nat) : Int) * k ≤ 1000000 := by
    have z := Int.ofNat_le.mpr many
    rw [Int.natCast_mul, k1] at z
    rw [cnt]
    exact z
  have pos : 0 < xs.length := List.length_pos_iff.mpr some_
  have kle : k ≤ 1000000 := by
    have := Nat.le_mul_of_pos_left k.toNat pos
    omega
  have fl : (List.replicate k.toNat its).flatten.length ≤ 1000000 := by
    rw [PyProof.Rows.lm_len_rep_flat, same, Nat.mul_comm]
    exact many
  have line : (1000000 : Nat) ≤ sizeLine := by rw [sizeLine_eq]; decide
  have ne : its.toArray.isEmpty = false := by
    cases its with
    | nil => exact absurd (List.eq_nil_of_length_eq_zero same.symm) some_
    | cons a b => rfl
  have c0 : (decide (k < -(2 ^ 63)) || decide (k ≥ 2 ^ 63)) = false := by
    rw [Bool.or_eq_false_iff]
    exact ⟨decide_eq_false (by omega), decide_eq_false (by omega)⟩
  have c1 : (its.toArray.isEmpty || k == 1) = false := by
    rw [ne]
    exact beq_eq_false_iff_ne.mpr (by omega)
  have c2 : (decide (k ≤ 0) || its.toArray.isEmpty) = false := by
    rw [ne, Bool.or_false]
    exact decide_eq_false (by omega)
  have c3 : Builtin.Tuple.tupleTooMany (((its.toArray.size : Nat) : Int) * k) = false := by
    unfold Builtin.Tuple.tupleTooMany
    rw [sizeLine_eq]
    exact decide_eq_false (by omega)
  have typ : s.TypeIs (.ref l) "tuple" := ⟨_, at_, rfl⟩
  refine wpAny_binaryOp_repeat_ref (T := "tuple") (U := "int") (by decide) typ (fun s' => typeIs_int s' k t) noFill_tuple_mul F.fills_int_mul F.slot_int_rmul repeat_tuple F.slot_int_index.lookup
    (call_meets F.slot_int_rmul (typeIs_int s k t) F.entry_int_rmul (F.args_int_rmul_2 _ _) (int_rmul_tuple k t l its.toArray n dd sl) ⟨at_, rfl, typ,
      call_meets F.slot_tuple_mul typ F.entry_tuple_mul (F.args_tuple_mul_2 _ _) (tuple_mulW l its.toArray n dd sl k t c0 c1 c2 (by omega) c3 (by rw [size_rep, List.size_toArray]; exact Nat.le_trans fl line)) ⟨at_, ?_⟩⟩)
  rw [size_rep]
  have new : ObjOk X.prog X.w (upd H s.heap.objs.size (.tup (List.replicate k.toNat xs).flatten)) _ s.heap.objs.size (.tup (List.replicate k.toNat xs).flatten) :=
    ⟨by rw [PyProof.Rows.lm_len_rep_flat, Nat.mul_comm]; exact Nat.le_trans many line, _, rel.rep k.toNat, IsTup.new _ _⟩
  exact ⟨.ref s.heap.objs.size, _, I.laid (t' := s.toks) (fun b ob z => Heap.get?_push_of_some _ z) (Nat.le_refl _) new, rfl, q _ (I.hok.fresh (Nat.le_refl _))⟩
end

/-! ### the same rules with the written part by its name (within a comprehension) -/
section
variable {X : Cx} {K : PySem.W.Frag}
def rLenK (K : PySem.W.Frag) : List V → Hp → VK → Prop := fun xs H Q => ∃ p ys, xs = [.ref p] ∧ (SqL K H p ys ∨ SqT K H p ys) ∧ Q (.int ys.length) H
theorem lenK (h : X.K = K) : CallR X (.builtin "len") (rLenK K) := by
  subst h
  exact call_len_seq
theorem ixlK (h : X.K = K) : IxR X (rIxL K) := by
  subst h
  exact ix_list
theorem ixtK (h : X.K = K) : IxR X (rIxT K) := by
  subst h
  exact ix_tup
theorem inK (h : X.K = K) : OpR X (compareOp .In) (rIn K false) := by
  subst h
  exact op_in_seq
theorem notInK (h : X.K = K) : OpR X (compareOp .NotIn) (rIn K true) := by
  subst h
  exact op_notIn_seq
theorem eqDK (h : X.K = K) (hu : X.A.units + 64 < cLine) : OpR X (compareOp .Eq) (rEqD K) := by
  subst h
  exact op_eqD hu
theorem neDK (h : X.K = K) (hu : X.A.units + 64 < cLine) : OpR X (compareOp .NotEq) (rNeD K) := by
  subst h
  exact op_neD hu
theorem sllK (h : X.K = K) : SlR X (rSlL K) := by
  subst h
  exact sl_list
theorem sltK (h : X.K = K) : SlR X (rSlT K) := by
  subst h
  exact sl_tup
theorem typeK (h : X.K = K) : CallR X (.type "type") (rTyp K) := by
  subst h
  exact call_type1
theorem isiK (h : X.K = K) : CallR X (.builtin "isinstance") (rIsi K) := by
  subst h
  exact call_isi
theorem reprK (h : X.K = K) (hA : X.A.guards = some []) (hu : X.A.units + 64 < cLine) : CallR X (.builtin "repr") (rRepr K) := by
  subst h
  exact call_repr hA hu
end

/-! ### texts that are short and whose signs are signs -/
def Tx (n : Nat) (z : PySem.Str) : Prop := z.cps.toList.length ≤ n ∧ ∀ c ∈ z.cps.toList, c < 1114112
theorem Tx.mono {n m : Nat} {z : PySem.Str} (h : Tx n z) (e : n ≤ m) : Tx m z := ⟨Nat.le_trans h.1 e, h.2⟩
theorem Tx.add {n m : Nat} {z y : PySem.Str} (h : Tx n z) (k : Tx m y) : Tx (n + m) (z ++ y) := by
  have e : (z ++ y).cps.toList = z.cps.toList ++ y.cps.toList := Array.toList_append
  refine ⟨?_, fun c hc => ?_⟩
  · rw [e, List.length_append]
    exact Nat.add_le_add h.1 k.1
  · rw [e] at hc
    exact (List.mem_append.mp hc).elim (h.2 c) (k.2 c)
theorem Tx.cut {n : Nat} {z : PySem.Str} (h : Tx n z) (lo hi : Option Int) : Tx n (cutS z lo hi) := by
  have e : (cutS z lo hi).cps.toList = (z.cps.toList.drop (HT.sIx z.length 0 lo)).take (HT.sIx z.length z.length hi - HT.sIx z.length 0 lo) := by
    show (List.toArray _).toList = _
    rw [List.toList_toArray]
  refine ⟨?_, fun c hc => ?_⟩
  · rw [e, List.length_take, List.length_drop]
    have := h.1
    omega
  · rw [e] at hc
    exact h.2 c (List.mem_of_mem_drop (List.mem_of_mem_take hc))
theorem Tx.one {c : Nat} {n : Nat} {z : PySem.Str} (h : Tx n z) (hc : c ∈ z.cps.toList) : Tx 1 ⟨#[c]⟩ := ⟨by simp, fun d hd => by
  have : d = c := by simpa using hd
  rw [this]
  exact h.2 c hc⟩
theorem Tx.line {n : Nat} {z : PySem.Str} (h : Tx n z) (e : n ≤ 1000000) : z.length ≤ sizeLine := by
  have : z.length = z.cps.toList.length := by show z.cps.size = _; simp
  rw [this]
  exact Nat.le_trans h.1 (Nat.le_trans e (by rw [sizeLine_eq]; decide))
theorem atI_mem {α : Type} {l : List α} {i : Int} {x : α} (h : atI l i = some x) : x ∈ l := by
  unfold atI at h
  obtain ⟨j, _, e⟩ := Option.bind_eq_some_iff.mp h
  exact List.mem_of_getElem? e
theorem foldl_app {α : Type} : ∀ (n : Nat) (x a : Array α), ((List.replicate n x).foldl (· ++ ·) a).toList = a.toList ++ (List.replicate n x.toList).flatten
  | 0, x, a => by simp
  | n + 1, x, a => by
    rw [List.replicate_succ, List.foldl_cons, foldl_app n x (a ++ x), Array.toList_append, List.replicate_succ, List.flatten_cons, List.append_assoc]
theorem Tx.rep {n : Nat} {z : PySem.Str} (h : Tx n z) {k : Int} : Tx (n * k.toNat) (Txt.mul z k) := by
  unfold Txt.mul
  by_cases h1 : k < 1
  · rw [if_pos h1]
    exact ⟨Nat.zero_le _, fun c hc => by cases hc⟩
  · rw [if_neg h1]
    by_cases h2 : (k == 1 || z.length == 0) = true
    · rw [if_pos h2]
      exact h.mono (Nat.le_mul_of_pos_right n (by omega))
    · rw [if_neg h2]
      refine ⟨?_, fun c hc => ?_⟩
      · show ((List.replicate k.toNat z.cps).foldl (· ++ ·) #[]).toList.length ≤ _
        rw [foldl_app]
        simp only [List.nil_append, List.length_flatten, List.map_replicate, List.sum_replicate_nat]
        rw [Nat.mul_comm]
        exact Nat.mul_le_mul_right _ h.1
      · rw [show (⟨(List.replicate k.toNat z.cps).foldl (· ++ ·) #[]⟩ : PySem.Str).cps.toList = _ from foldl_app _ _ _] at hc
        simp only [List.nil_append, List.mem_flatten, List.mem_replicate] at hc
        obtain ⟨l, ⟨_, rfl⟩, hc⟩ := hc
        exact h.2 c hc
end Gd

set_option maxRecDepth 100000
set_option maxHeartbeats 2000000
namespace Gd
open PySem PySem.Spec PyProof.Rows L2

/-! ### what the numbers are drawn by: a dict of three -/
abbrev kC : Key := Sum.inr "cells"
abbrev kL : Key := Sum.inr "left"
abbrev kS : Key := Sum.inr "spot"
def mK (lc ll : Addr) (k : Int) : List (Key × V) := [(kC, .ref lc), (kL, .ref ll), (kS, .int k)]
theorem nCL : ¬ kC = kL := by decide +kernel
theorem nCS : ¬ kC = kS := by decide +kernel
theorem nLS : ¬ kL = kS := by decide +kernel
theorem mK_C {lc ll : Addr} {k : Int} : valV (mK lc ll k) kC = some (.ref lc) := valV_pos rfl
theorem mK_L {lc ll : Addr} {k : Int} : valV (mK lc ll k) kL = some (.ref ll) := (valV_neg nCL).trans (valV_pos rfl)
theorem mK_S {lc ll : Addr} {k : Int} : valV (mK lc ll k) kS = some (.int k) := (valV_neg nCS).trans ((valV_neg nLS).trans (valV_pos rfl))
theorem mK_put {lc ll : Addr} {k j : Int} : putK (mK lc ll k) kS (.int j) = mK lc ll j := by
  unfold putK
  rw [valV_any, mK_S, Option.isSome_some, if_pos rfl]
  show [if kC = kS then (kC, V.int j) else (kC, .ref lc), if kL = kS then (kL, V.int j) else (kL, .ref ll), if kS = kS then (kS, V.int j) else (kS, .int k)] = _
  rw [if_neg nCS, if_neg nLS, if_pos rfl]
  rfl
theorem mK_putL {lc ll l2 : Addr} {k : Int} : putK (mK lc ll k) kL (.ref l2) = mK lc l2 k := by
  unfold putK
  rw [valV_any, mK_L, Option.isSome_some, if_pos rfl]
  show [if kC = kL then (kC, V.ref l2) else (kC, .ref lc), if kL = kL then (kL, V.ref l2) else (kL, .ref ll), if kS = kL then (kS, V.ref l2) else (kS, .int k)] = _
  rw [if_neg nCL, if_pos rfl, if_neg (Ne.symm nLS)]
  rfl
/-- the dict at d stands so, n more numbers may be drawn; of the heap H0 nothing is touched by that -/
structure Dr (H0 H : Hp) (d n : Nat) : Prop where
  ex : ∃ (lc ll : Addr) (cs ls : List Int) (k : Int), H d = some (.dK (mK lc ll k)) ∧ H lc = some (.lst (cs.map V.int)) ∧ H ll = some (.lst (ls.map V.int)) ∧ lc ≠ ll ∧
    cs.length = 64 ∧ (∀ c ∈ cs, 0 ≤ c ∧ c < 2147483647) ∧ ls.length ≤ 63 ∧ 0 ≤ k ∧ k + n ≤ 2147483648 ∧ H0 lc = none ∧ H0 ll = none
  same : Same H0 H
  free : H0 d = none
theorem Dr.less {H0 H : Hp} {d n m : Nat} (h : Dr H0 H d n) (e : m ≤ n) : Dr H0 H d m := by
  obtain ⟨⟨lc, ll, cs, ls, k, h1, h2, h3, h4, h5, h6, h7, h8, h9, h10⟩, s, f⟩ := h
  exact ⟨⟨lc, ll, cs, ls, k, h1, h2, h3, h4, h5, h6, h7, h8, by omega, h10⟩, s, f⟩
theorem Dr.put {H0 H : Hp} {d n : Nat} (h : Dr H0 H d n) {p : Addr} (o : HO) (hp : H p = none ∨ ∃ u, H0 p = some u) : Dr (upd H0 p o) (upd H p o) d n := by
  obtain ⟨⟨lc, ll, cs, ls, k, h1, h2, h3, h4, h5, h6, h7, h8, h9, h10, h11⟩, s, f⟩ := h
  have apart : ∀ {q : Addr} {u : HO}, H q = some u → H0 q = none → q ≠ p := by
    intro q u e e0 z
    subst z
    rcases hp with w1 | ⟨u', w1⟩
    · rw [w1] at e; cases e
    · rw [w1] at e0; cases e0
  have a1 := apart h1 f
  have a2 := apart h2 h10
  have a3 := apart h3 h11
  exact ⟨⟨lc, ll, cs, ls, k, by rw [upd_ne a1]; exact h1, by rw [upd_ne a2]; exact h2, by rw [upd_ne a3]; exact h3, h4, h5, h6, h7, h8, h9, by rw [upd_ne a2]; exact h10, by rw [upd_ne a3]; exact h11⟩, same_both s, by rw [upd_ne a1]; exact f⟩
theorem Dr.new {H0 H : Hp} {d n : Nat} (h : Dr H0 H d n) {p : Addr} (o : HO) (hp : H p = none) : Dr (upd H0 p o) (upd H p o) d n := h.put o (.inl hp)
/-- a new object of which H0 is not told -/
theorem Dr.side {H0 H : Hp} {d n : Nat} (h : Dr H0 H d n) {p : Addr} (o : HO) (hp : H p = none) : Dr H0 (upd H p o) d n := by
  obtain ⟨⟨lc, ll, cs, ls, k, h1, h2, h3, h4⟩, s, f⟩ := h
  exact ⟨⟨lc, ll, cs, ls, k, by rw [upd_ne (ne_of_none h1 hp)]; exact h1, by rw [upd_ne (ne_of_none h2 hp)]; exact h2, by rw [upd_ne (ne_of_none h3 hp)]; exact h3, h4⟩, fun b u e => by rw [upd_ne (ne_of_none (s b u e) hp)]; exact s b u e, f⟩
theorem Dr.base {H0 H1 H : Hp} {d n : Nat} (h : Dr H1 H d n) (s : Same H0 H1) : Dr H0 H d n := by
  obtain ⟨⟨lc, ll, cs, ls, k, h1, h2, h3, h4, h5, h6, h7, h8, h9, h10, h11⟩, s1, f⟩ := h
  exact ⟨⟨lc, ll, cs, ls, k, h1, h2, h3, h4, h5, h6, h7, h8, h9, s.free h10, s.free h11⟩, s.trans s1, s.free f⟩

/-! ### lists of ints by their places -/
theorem ixN_in {n : Nat} {i : Int} (h : 0 ≤ i) (k : i < n) : ixN n i = some i.toNat := by
  unfold ixN
  rw [if_pos h, if_pos k]
theorem at_in {α : Type} {l : List α} {i : Int} (h : 0 ≤ i) (k : i < l.length) : ∃ x, x ∈ l ∧ l[i.toNat]? = some x ∧ atI l i = some x := by
  have lt : i.toNat < l.length := by omega
  refine ⟨l[i.toNat], List.getElem_mem lt, List.getElem?_eq_getElem lt, ?_⟩
  unfold atI
  rw [ixN_in h k]
  exact List.getElem?_eq_getElem lt
theorem at_int {cs : List Int} {i : Int} (h : 0 ≤ i) (k : i < cs.length) : ∃ c, c ∈ cs ∧ atI (cs.map V.int) i = some (.int c) ∧ ixN (cs.map V.int).length i = some i.toNat := by
  obtain ⟨x, m, _, e⟩ := at_in (l := cs.map V.int) h (by rw [List.length_map]; exact k)
  obtain ⟨c, hc, rfl⟩ := List.mem_map.mp m
  exact ⟨c, hc, e, ixN_in h (by rw [List.length_map]; exact k)⟩
theorem set_int {cs : List Int} {j : Nat} {v : Int} : (cs.map V.int).set j (.int v) = (cs.set j v).map V.int := (List.map_set ..).symm
theorem all_set {cs : List Int} {j : Nat} {v : Int} {p : Int → Prop} (h : ∀ c ∈ cs, p c) (hv : p v) : ∀ c ∈ cs.set j v, p c := fun c hc =>
  (List.mem_or_eq_of_mem_set hc).elim (h c) fun e => e ▸ hv
theorem int_of {ns : List Int} {i : Nat} {x : V} (h : (ns.map V.int)[i]? = some x) : ∃ z, x = .int z := by
  rw [List.getElem?_map] at h
  obtain ⟨z, _, e⟩ := Option.map_eq_some_iff.mp h
  exact ⟨z, e.symm⟩

/-! ### data -/
theorem dp_ints {K : PySem.W.Frag} {H : Hp} : ∀ l : List Int, DpAll K H (l.map V.int) (l.map PyData.int)
  | [] => .nil
  | x :: r => .cons (.int x) (dp_ints r)
theorem dp_strs {K : PySem.W.Frag} {H : Hp} : ∀ l : List PySem.Str, DpAll K H (l.map V.str) (l.map PyData.str)
  | [] => .nil
  | x :: r => .cons (.str x) (dp_strs r)
theorem lay_flat : ∀ ds : List PyData, (∀ d ∈ ds, d.canLay0 = true ∧ d.depth = 0) → PyData.canLayAll0 ds = true ∧ PyData.depthAll ds = 0
  | [], _ => ⟨by simp [PyData.canLayAll0], by simp [PyData.depthAll]⟩
  | d :: r, h => by
    obtain ⟨a, b⟩ := h d List.mem_cons_self
    obtain ⟨a2, b2⟩ := lay_flat r fun z hz => h z (List.mem_cons_of_mem _ hz)
    exact ⟨by simp [PyData.canLayAll0, a, a2], by simp [PyData.depthAll, b, b2]⟩
theorem shaped_flat {ds : List PyData} (h : ∀ d ∈ ds, d.canLay0 = true ∧ d.depth = 0) : SeqAt.shaped (.list ds) = true := by
  obtain ⟨a, b⟩ := lay_flat ds h
  simp [SeqAt.shaped, PyData.canLay0, PyData.depth, a, b]
theorem shaped_ints (l : List Int) : SeqAt.shaped (.list (l.map PyData.int)) = true := shaped_flat fun d hd => by
  obtain ⟨i, _, rfl⟩ := List.mem_map.mp hd
  exact ⟨by simp [PyData.canLay0], by simp [PyData.depth]⟩
theorem shaped_nil : SeqAt.shaped (.list []) = true := shaped_flat fun d hd => absurd hd List.not_mem_nil
theorem eqv_nil {ds : List PyData} : PyData.eqv (.list ds) (.list []) = ds.isEmpty := by
  cases ds <;> simp [PyData.eqv, PyData.eqvAll]

/-! ### the promises of what draws -/
def spMixed : Sp := fun vs H Q _ => ∃ cell k : Int, vs = [.int cell, .int k] ∧ 0 ≤ cell ∧ cell < 1099511627776 ∧ 0 ≤ k ∧ k < 4294967296 ∧ ∀ v : Int, 0 ≤ v → v < 2147483648 → Q (.int v) H
def spDraw : Sp := fun vs H Q _ => ∃ (d : Addr) (many : Int) (H0 : Hp) (n : Nat), vs = [.ref d, .int many] ∧ 0 < many ∧ many < 1073741824 ∧ Dr H0 H d (n + 1) ∧ ∀ (v : Int) (H' : Hp), 0 ≤ v → v < many → Dr H0 H' d n → Q (.int v) H'
def spFolded (K : PySem.W.Frag) : Sp := fun vs H Q _ => ∃ (a : Addr) (ns : List Int), vs = [.ref a] ∧ SqL K H a (ns.map V.int) ∧ ns.length ≤ 63 ∧
  ∀ (p : Addr) (cs : List Int) (H' : Hp), H p = none → cs.length = 64 → (∀ c ∈ cs, 0 ≤ c ∧ c < 2147483647) → Same H H' → H' p = some (.lst (cs.map V.int)) → Q (.ref p) H'
def spBegun (K : PySem.W.Frag) : Sp := fun vs H Q _ => ∃ (a : Addr) (ns : List Int), vs = [.ref a] ∧ SqL K H a (ns.map V.int) ∧ ns.length ≤ 63 ∧ ∀ (d : Addr) (H' : Hp), Dr H H' d 1000000 → Q (.ref d) H'
theorem at_last {α : Type} {l : List α} (h : l ≠ []) : ∃ x, x ∈ l ∧ atI l (-1) = some x := by
  have pos : 0 < l.length := List.length_pos_iff.mpr h
  have e : ixN l.length (-1) = some (l.length - 1) := by
    unfold ixN
    rw [if_neg (by decide), if_pos (by omega)]
    congr 1
    omega
  have lt : l.length - 1 < l.length := by omega
  refine ⟨l[l.length - 1], List.getElem_mem lt, ?_⟩
  unfold atI
  rw [e]
  exact List.getElem?_eq_getElem lt
theorem Tx.line2 {n m : Nat} {z y : PySem.Str} (h : Tx n z) (k : Tx m y) (e : n + m ≤ 1000000) : z.length + y.length ≤ sizeLine := by
  have a : z.length = z.cps.toList.length := by show z.cps.size = _; simp
  have b : y.length = y.cps.toList.length := by show y.cps.size = _; simp
  rw [a, b]
  exact Nat.le_trans (Nat.add_le_add h.1 k.1) (Nat.le_trans e (by rw [sizeLine_eq]; decide))
theorem at_str {z : PySem.Str} {n : Nat} (t : Tx n z) {i : Int} (h : 0 ≤ i) (k : i < (z.cps.toList.length : Nat)) : ∃ c, c ∈ z.cps.toList ∧ atI z.cps.toList i = some c ∧ Tx 1 ⟨#[c]⟩ := by
  obtain ⟨c, m, _, e⟩ := at_in h k
  exact ⟨c, m, e, t.one m⟩
theorem Tx.cutTo {n : Nat} {z : PySem.Str} (h : Tx n z) (k : Nat) : Tx k (cutS z none (some (k : Int))) := by
  refine ⟨?_, (h.cut _ _).2⟩
  have e : (cutS z none (some (k : Int))).cps.toList = (z.cps.toList.drop (HT.sIx z.length 0 none)).take (HT.sIx z.length z.length (some (k : Int)) - HT.sIx z.length 0 none) := by
    show (List.toArray _).toList = _
    rw [List.toList_toArray]
  rw [e, List.length_take, HT.sIx_nat, HT.sIx_none]
  omega
/-- a number is drawn, one object more is told of -/
theorem Dr.told {H0 H : Hp} {d n : Nat} {p : Addr} {o : HO} (h : Dr (upd H0 p o) H d n) : H p = some o := h.same _ _ upd_same
theorem Dr.drop {H0 H : Hp} {d n : Nat} {p : Addr} {o : HO} (h : Dr (upd H0 p o) H d n) (f : H0 p = none) : Dr H0 H d n := h.base (same_new f)
def spCalled : Sp := fun vs H Q _ => ∃ (d : Addr) (M : Nat) (H0 : Hp) (n : Nat), vs = [.ref d, .int (M : Int)] ∧ M ≤ 100 ∧ Dr H0 H d (n + 2 + 8 * M) ∧
  ∀ (p : Addr) (zs : List PySem.Str) (H' : Hp), H0 p = none → zs.length = M → (∀ z ∈ zs, Tx 10 z) → Dr (upd H0 p (.lst (zs.map V.str))) H' d n → Q (.ref p) H'
def spSigned : Sp := fun vs H Q _ => ∃ (d : Addr) (bit : PySem.Str) (H0 : Hp) (n : Nat), vs = [.ref d, .str bit] ∧ Tx 1000 bit ∧ Dr H0 H d (n + 3) ∧ ∀ (z : PySem.Str) (H' : Hp), Tx 2001 z → Dr H0 H' d n → Q (.str z) H'
theorem Dr.keep {H0 H H' : Hp} {d n : Nat} (h : Dr H0 H d n) (s : Same H H') : Dr H0 H' d n := by
  obtain ⟨⟨lc, ll, cs, ls, k, h1, h2, h3, h4⟩, sm, f⟩ := h
  exact ⟨⟨lc, ll, cs, ls, k, s _ _ h1, s _ _ h2, s _ _ h3, h4⟩, sm.trans s, f⟩
end Gd

set_option maxRecDepth 100000
set_option maxHeartbeats 2000000
namespace Gd
open PySem PySem.Spec PyProof.Rows L2

/-! ### things of any kind, by their types -/
inductive Od (H : Hp) : V → String → Prop
  | non : Od H .non "NoneType"
  | bl (b : Bool) : Od H (.bl b) "bool"
  | int (i : Int) : Od H (.int i) "int"
  | str {z : PySem.Str} (t : Tx 5000 z) : Od H (.str z) "str"
  | lst {a : Addr} {xs : List V} (e : H a = some (.lst xs)) : Od H (.ref a) "list"
  | tup {a : Addr} {xs : List V} (e : H a = some (.tup xs)) : Od H (.ref a) "tuple"
  | dK {a : Addr} {kvs : List (Key × V)} (e : H a = some (.dK kvs)) : Od H (.ref a) "dict"
section
variable {K : PySem.W.Frag} {H H' : Hp} {x : V} {T : String}
theorem Od.mono (s : Same H H') (o : Od H x T) : Od H' x T := by
  cases o with
  | non => exact .non
  | bl b => exact .bl b
  | int i => exact .int i
  | str t => exact .str t
  | lst e => exact .lst (s _ _ e)
  | tup e => exact .tup (s _ _ e)
  | dK e => exact .dK (s _ _ e)
theorem Od.ty (o : Od H x T) : TyB K H x T := by
  cases o with
  | non => exact .non
  | bl b => exact .bl b
  | int i => exact .int i
  | str t => exact .str _
  | lst e => exact .lst (SqL.of e)
  | tup e => exact .tup (SqT.of e)
  | dK e => exact .dK e
theorem Od.tx (o : Od H x T) : TyX K H x (.type T) := by
  cases o with
  | non => exact .base .non
  | bl b => exact .base (.bl b)
  | int i => exact .base (.int i)
  | str t => exact .base (.str _)
  | lst e => exact .base (.lst e)
  | tup e => exact .base (.tup e)
  | dK e => exact .base (.dK e)
theorem Od.kstr (o : Od H x T) : PySem.W.kitOne K (.type T) (.type "str") = some (decide (T = "str")) := by
  cases o <;> exact kit_ty (by decide +kernel)
theorem Od.kint (o : Od H x T) : PySem.W.kitOne K (.type T) (.type "int") = some (decide (T = "int" ∨ T = "bool")) := by
  cases o <;> exact kit_ty (by decide +kernel)
theorem Od.kbool (o : Od H x T) : PySem.W.kitOne K (.type T) (.type "bool") = some (decide (T = "bool")) := by
  cases o <;> exact kit_ty (by decide +kernel)
theorem Od.is (o : Od H x T) (e : T = "str") : ∃ z, x = .str z ∧ Tx 5000 z := by
  cases o with
  | str t => exact ⟨_, rfl, t⟩
  | non => exact absurd e (by decide)
  | bl b => exact absurd e (by decide)
  | int i => exact absurd e (by decide)
  | lst _ => exact absurd e (by decide)
  | tup _ => exact absurd e (by decide)
  | dK _ => exact absurd e (by decide)
theorem Od.isI (o : Od H x T) (e : T = "int") : ∃ i, x = .int i := by
  cases o with
  | int i => exact ⟨_, rfl⟩
  | str t => exact absurd e (by decide)
  | non => exact absurd e (by decide)
  | bl b => exact absurd e (by decide)
  | lst _ => exact absurd e (by decide)
  | tup _ => exact absurd e (by decide)
  | dK _ => exact absurd e (by decide)
theorem Od.not {z : PySem.Str} (o : Od H x T) (e : T ≠ "str") : x ≠ .str z := by
  intro q
  subst q
  cases o
  exact e rfl
end
theorem iteTy {T S : String} {A B : Prop} (h1 : T ≠ S → A) (h2 : T = S → B) : if (!decide (T = S)) = true then A else B := by
  by_cases e : T = S
  · rw [if_neg (by simp [e])]
    exact h2 e
  · rw [if_pos (by simp [e])]
    exact h1 e
theorem iteIs {T S : String} {A B : Prop} (h1 : T ≠ S → B) (h2 : T = S → A) : if decide (T = S) = true then A else B := by
  by_cases e : T = S
  · rw [if_pos (by simp [e])]
    exact h2 e
  · rw [if_neg (by simp [e])]
    exact h1 e
theorem len_tl (z : PySem.Str) : z.length = z.cps.toList.length := by show z.cps.size = _; simp

/-! ### signs -/
theorem lt_one (c d : Nat) : decide (([c] : List Nat) < [d]) = decide (c < d) := by
  have e : (([c] : List Nat) < [d]) ↔ c < d := by
    rw [List.cons_lt_cons_iff]
    simp
  by_cases h : c < d
  · rw [decide_eq_true h, decide_eq_true (e.mpr h)]
  · rw [decide_eq_false h, decide_eq_false fun q => h (e.mp q)]
theorem le_sign {c d : Nat} {a : PySem.Str} (ea : a.cps.toList = [d]) : (!decide ((⟨#[c]⟩ : PySem.Str).cps.toList < a.cps.toList)) = decide (d ≤ c) := by
  rw [ea, show (⟨#[c]⟩ : PySem.Str).cps.toList = [c] from rfl, lt_one]
  by_cases h : d ≤ c
  · rw [decide_eq_true h, decide_eq_false (by omega)]; rfl
  · rw [decide_eq_false h, decide_eq_true (by omega)]; rfl
theorem ge_sign {c d : Nat} {a : PySem.Str} (ea : a.cps.toList = [d]) : (!decide (a.cps.toList < (⟨#[c]⟩ : PySem.Str).cps.toList)) = decide (c ≤ d) := by
  rw [ea, show (⟨#[c]⟩ : PySem.Str).cps.toList = [c] from rfl, lt_one]
  by_cases h : c ≤ d
  · rw [decide_eq_true h, decide_eq_false (by omega)]; rfl
  · rw [decide_eq_false h, decide_eq_true (by omega)]; rfl
theorem all_take {α : Type} {l : List α} {i : Nat} {c : α} (h : l[i]? = some c) : l.take (i + 1) = l.take i ++ [c] := by
  rw [List.take_add_one, h]
  rfl

/-! ### a comprehension over a text: a truth for each sign; those signs that are to be kept -/
theorem lc_truths {z : PySem.Str} {σ : L2.St} {H : Hp} {te : TE} {j : Nat} {A : Addr} {Qd : Hp → Prop} (n : Tx 5000 z) (f : Nat → Bool) (hA : H A = none)
    (el : ∀ c H' Q, Q (V.bl (f c)) H' → te ((wipe σ [j]).set j (some (.str ⟨#[c]⟩))) H' Q) (same : ∀ c, wipe ((wipe σ [j]).set j (some (.str ⟨#[c]⟩))) [j] = wipe σ [j])
    (fin : ∀ H', Same H H' → H' A = some (.lst ((z.cps.toList.map f).map V.bl)) → Qd H') :
    ∃ W : Nat → Nat → Hp → Prop, (∃ m, W 0 m (upd H A (.lst []))) ∧ ∀ i m H, W i m H → ((Its z).stop i H ∧ Qd H) ∨
      ((Its z).go i H ∧ ∃ Nx : Hp → Prop, (∀ H', Nx H' → ∃ m', m' < m ∧ W (i + 1) m' H') ∧ ∀ v H', (Its z).yld i H v H' → gName j v (wipe σ [j]) H' fun σ2 H2 => wipe σ2 [j] = wipe σ [j] ∧ tYes σ2 H2 fun b H3 =>
        if b = true then te σ2 H3 fun y H4 => ∃ acc, H4 A = some (.lst acc) ∧ acc.length < sizeLine ∧ Nx (upd H4 A (.lst (acc ++ [y]))) else Nx H3) := by
  refine lc_str (fun i H1 => Same H H1 ∧ H1 A = some (.lst (((z.cps.toList.take i).map f).map V.bl))) ⟨same_new hA, by rw [upd_same]; rfl⟩ ?_ ?_
  · rintro i c H1 lt hc ⟨sm, e⟩
    refine ⟨same c, ?_⟩
    refine el c H1 _ ⟨_, e, ?_, same_put sm hA, ?_⟩
    · simp only [List.length_map, List.length_take]
      have := n.1
      have s5 : (5000 : Nat) < sizeLine := by rw [sizeLine_eq]; decide
      omega
    · rw [upd_same, all_take hc]
      simp only [List.map_append, List.map_cons, List.map_nil]
  · rintro H1 ⟨sm, e⟩
    rw [List.take_length] at e
    exact fin H1 sm e
theorem lc_kept {z : PySem.Str} {σ : L2.St} {H : Hp} {tt : TT} {te : TE} {j : Nat} {A : Addr} {Qd : Hp → Prop} (n : Tx 5000 z) (f : Nat → Bool) (hA : H A = none)
    (ts : ∀ c H' Q, Q (f c) H' → tt ((wipe σ [j]).set j (some (.str ⟨#[c]⟩))) H' Q) (el : ∀ c H' Q, Q (V.str ⟨#[c]⟩) H' → te ((wipe σ [j]).set j (some (.str ⟨#[c]⟩))) H' Q) (same : ∀ c, wipe ((wipe σ [j]).set j (some (.str ⟨#[c]⟩))) [j] = wipe σ [j])
    (fin : ∀ H', Same H H' → H' A = some (.lst (((z.cps.toList.filter f).map fun c => (⟨#[c]⟩ : PySem.Str)).map V.str)) → Qd H') :
    ∃ W : Nat → Nat → Hp → Prop, (∃ m, W 0 m (upd H A (.lst []))) ∧ ∀ i m H, W i m H → ((Its z).stop i H ∧ Qd H) ∨
      ((Its z).go i H ∧ ∃ Nx : Hp → Prop, (∀ H', Nx H' → ∃ m', m' < m ∧ W (i + 1) m' H') ∧ ∀ v H', (Its z).yld i H v H' → gName j v (wipe σ [j]) H' fun σ2 H2 => wipe σ2 [j] = wipe σ [j] ∧ tt σ2 H2 fun b H3 =>
        if b = true then te σ2 H3 fun y H4 => ∃ acc, H4 A = some (.lst acc) ∧ acc.length < sizeLine ∧ Nx (upd H4 A (.lst (acc ++ [y]))) else Nx H3) := by
  refine lc_str (fun i H1 => Same H H1 ∧ H1 A = some (.lst ((((z.cps.toList.take i).filter f).map fun c => (⟨#[c]⟩ : PySem.Str)).map V.str))) ⟨same_new hA, by rw [upd_same]; rfl⟩ ?_ ?_
  · rintro i c H1 lt hc ⟨sm, e⟩
    refine ⟨same c, ts c H1 _ ?_⟩
    cases fc : f c with
    | false =>
      refine iteF ⟨sm, ?_⟩
      rw [e, all_take hc, List.filter_append, List.filter_cons, fc]
      simp
    | true =>
      refine iteT (el c H1 _ ⟨_, e, ?_, same_put sm hA, ?_⟩)
      · simp only [List.length_map]
        have := n.1
        have l1 := List.length_filter_le f (z.cps.toList.take i)
        have l2 : (z.cps.toList.take i).length ≤ z.cps.toList.length := by rw [List.length_take]; omega
        have s5 : (5000 : Nat) < sizeLine := by rw [sizeLine_eq]; decide
        omega
      · rw [upd_same, all_take hc, List.filter_append, List.filter_cons, fc]
        simp
  · rintro H1 ⟨sm, e⟩
    rw [List.take_length] at e
    exact fin H1 sm e
theorem strOk_one {c : Nat} (h : c < 1114112) : (PyData.str ⟨#[c]⟩).canLay0 = true := by
  simp [PyData.canLay0, PyData.strOk, h]
/-- signs that are kept, as data -/
theorem shaped_signs {l : List Nat} (h : ∀ c ∈ l, c < 1114112) : SeqAt.shaped (.list ((l.map fun c => (⟨#[c]⟩ : PySem.Str)).map PyData.str)) = true := shaped_flat fun d hd => by
  simp only [List.map_map, List.mem_map, Function.comp_apply] at hd
  obtain ⟨c, hc, rfl⟩ := hd
  exact ⟨strOk_one (h c hc), by simp [PyData.depth]⟩
theorem small1000' {n : Nat} (h : n ≤ 1000000) : n < sizeLine := Nat.lt_of_le_of_lt h (by rw [sizeLine_eq]; decide)
end Gd

set_option maxRecDepth 100000
set_option maxHeartbeats 4000000
namespace Gd
open PySem PySem.Spec PyProof.Rows L2

/-! ### an error that was caught and is kept -/
/-- the error at a, of the class cls, its own dict d -/
def ExK (a : Addr) (cls : Value) (d : Option Addr) : HO := .ext fun h => ∃ (oe : Obj) (vs : Array Value), h.get? a = some oe ∧ oe.cls = cls ∧ oe.dict = d ∧ oe.data = .fields vs
section
variable {X : Cx} {pins : List (Addr × Obj)} {σ : L2.St} {H : Hp} {s : Shared}
/-- what stands pinned is told of from now on -/
theorem hold {a : Addr} {o : HO} (I : Inv X pins σ H s) (na : H a = none) (young : X.s_0.heap.get? a = none) (nl : a ≠ X.env.locals) (nc : ∀ x c, X.env.cells.lookup x = some c → c ≠ a) (np : ∀ p ∈ X.pn ++ pins, p.1 ≠ a)
    (ok : ObjOk X.prog X.w (upd H a o) s.heap a o) : Inv X pins σ (upd H a o) s := by
  have off : ∀ {b : Addr} {u : HO}, H b = some u → b ≠ a := fun e => ne_of_none e na
  have un := I.base
  refine ⟨I.ok, I.os, I.bare, ⟨un.keep, un.slot, fun b ob e n x => ?_, un.there, fun b xs e => ?_, fun b ob u e => ?_, fun b ps e => ?_⟩, I.loc, I.cell, ?_, fun x c e => ?_, fun p hp => ?_, fun b u e => ?_, I.len⟩
  · rw [upd_ne (fun z => by rw [z, young] at e; cases e)]
    exact un.free b ob e n x
  · have g := un.tups b xs e
    rw [upd_ne (off g)]
    exact g
  · have g := un.frzs b ob u e
    rw [upd_ne (off g)]
    exact g
  · obtain ⟨more, g⟩ := un.tbls b ps e
    exact ⟨more, by rw [upd_ne (off g)]; exact g⟩
  · rw [upd_ne nl.symm]
    exact I.free
  · rw [upd_ne (nc x c e)]
    exact I.freeC x c e
  · obtain ⟨g1, g2, g3⟩ := I.pin p hp
    exact ⟨g1, by rw [upd_ne (np p hp)]; exact g2, g3⟩
  · by_cases z : b = a
    · subst z
      rw [upd_same] at e
      cases e
      exact ok
    · rw [upd_ne z] at e
      exact (I.hok b u e).stay (fun _ _ _ q => q) (fun c q => by rw [upd_ne (off q)]; exact q) fun c xs q => by rw [upd_ne (off q)]; exact q
end
/-- what the clause 'except (x1, x2, x3) as n' wishes of an error of the body; behind the suite the error is told of -/
def wKeep (K : PySem.W.Frag) (cs : List Value) (i : Nat) (ts : Addr → Value → Option Addr → TS) (Wout : WX) (D : Ends) : WX := fun cls d σ H =>
  ∃ b, PySem.W.exmAny K cls cs = some b ∧ (b = true → ∀ a, H a = none → ts a cls d { nx := fun σ' H' => D.nx (σ'.set i none) (upd H' a (ExK a cls d)), rt := fun v H' => D.rt v (upd H' a (ExK a cls d)), bk := fun σ' H' => D.bk (σ'.set i none) (upd H' a (ExK a cls d)), ct := fun σ' H' => D.ct (σ'.set i none) (upd H' a (ExK a cls d)) } (σ.set i (some (.ref a))) H) ∧
    (b = false → Wout cls d σ H)
section
variable {X : Cx} {x1 x2 x3 n : PySem.Str} {c1 c2 c3 : Value} {i : Nat} {body suite : List Stmt} {b0 : Stmt} {p1 p2 p3 tp pos pos' : Pos} {kk : Nat} {tb : WX → TS} {ts : Addr → Value → Option Addr → TS} {Wout : WX} {C1 C2 C3 : Addr}
theorem ps_try_keep (hs : X.stack = X.env :: X.outer) (hf : X.env.frame = some X.env.locals) (hN : X.N.Nodup) (hex : X.ex = []) (hi : X.N[i]? = some n) (hln : X.env.kindOf n = some .local)
    (g1 : Gl X x1) (m1 : X.mg x1 = some (.ref C1)) (g2 : Gl X x2) (m2 : X.mg x2 = some (.ref C2)) (g3 : Gl X x3) (m3 : X.mg x3 = some (.ref C3)) (nd1 : (x1 == ("__debug__" : PySem.Str)) = false) (nd2 : (x2 == ("__debug__" : PySem.Str)) = false) (nd3 : (x3 == ("__debug__" : PySem.Str)) = false) (tk : Takes X Wout)
    (hb : ∀ (W : WX) (pn : List (Addr × Obj)) (xe : Value → Shared → Prop), Takes (X.tr pn xe) W → PassesOwn (model X.prog X.w) X.A X.env xe → PSs (X.tr pn xe) body (tb W))
    (hsu : ∀ (a : Addr) (oe : Obj) (cls : Value) (d : Option Addr) (pn : List (Addr × Obj)), Zc cls d oe → (∃ vs, oe.data = .fields vs) → PSs (X.suite a ((a, oe) :: pn)) (b0 :: suite) (ts a cls d)) :
    PS X (.Try body [.ExceptHandler (some (.Tuple [.Name x1 p1, .Name x2 p2, .Name x3 p3] kk tp)) (some n) (b0 :: suite) pos'] [] [] pos) (fun D σ H => tb (wKeep X.K [.ref C1, .ref C2, .ref C3] i ts Wout D) D σ H) := by
  refine ⟨fun pins s σ H D I h => ?_⟩
  have ok := I.ok
  have frames : X.A.frames = some (X.env :: X.outer) := by rw [ok.frames, hs]
  refine wpAny_Try_except (wpAny_mono ((hb (wKeep X.K [.ref C1, .ref C2, .ref C3] i ts Wout D) (X.pn ++ pins) (fun e s₁ => wpAny (model X.prog X.w) X.A (noteFrame e X.env) (fun _ s₂ => wpAny (model X.prog X.w) X.A (setFlight e none) (fun _ s₃ =>
    wpAny (model X.prog X.w) X.A (handleBy e X.env [.ExceptHandler (some (.Tuple [.Name x1 p1, .Name x2 p2, .Name x3 p3] kk tp)) (some n) (b0 :: suite) pos']) (SP X pins D) X.xe s₃) X.xe s₂) X.xe s₁) ?kat PassesOwn.looking).run [] s σ H D (I.toTry _) h) ?thru fun e s1 he => he)
  case thru =>
    intro f s1 q
    match f, q with
    | .next, ⟨σ', H', J, w1⟩ => exact wpAny_execs_nil ⟨σ', H', J.ofTry ok, w1⟩
    | .brk, ⟨σ', H', J, w1⟩ => exact ⟨σ', H', J.ofTry ok, w1⟩
    | .cont, ⟨σ', H', J, w1⟩ => exact ⟨σ', H', J.ofTry ok, w1⟩
    | .ret u, ⟨v, σ', H', J, r, w1⟩ => exact ⟨v, σ', H', J.ofTry ok, r, w1⟩
  case kat =>
    rintro u s' ⟨a, B, sI, pins', σ', H', cls, d, rfl, J', nb, up, sky, na, os, ag, b, hb1, hyes, hno⟩
    have J : Inv X pins σ' H' sI := J'.ofTry ok
    rw [hs] at sky
    show wpAny (model X.prog X.w) X.A (noteFrame (.ref a) X.env) _ _ _
    refine Sky.land Zc.steady frames hf sky fun h3 fl3 up3 => ?_
    have J3 : Inv X pins σ' H' { s' with heap := h3 } := J.landed nb fl3.1 (up.trans up3) os ag
    obtain ⟨oe3, vs3, he3, hz3, hd3⟩ := fl3.there
    have off : a ∉ frs (X.env :: X.outer) := fun m => by
      obtain ⟨_, o', e', no⟩ := fl3.2.2.1.mem m
      rw [he3] at e'
      cases e'
      exact no _ hd3
    have nL : a ≠ X.env.locals := fun z => off (List.mem_filterMap.mpr ⟨X.env, List.mem_cons_self, by rw [hf, z]⟩)
    have nF : a ∉ X.fs := fun m => by
      obtain ⟨e, m1, m2⟩ := List.mem_filterMap.mp m
      exact off (List.mem_filterMap.mpr ⟨e, List.mem_cons_of_mem _ m1, m2⟩)
    -- the error is younger than the frame
    have noB : B.get? a = none := fl3.2.1
    have noI : sI.heap.get? a = none := by
      cases e : sI.heap.get? a with
      | none => rfl
      | some o =>
        have := nb a o e (by rw [hs]; exact off)
        rw [noB] at this
        cases this
    have young : X.s_0.heap.get? a = none := by
      cases e : X.s_0.heap.get? a with
      | none => rfl
      | some o =>
        obtain ⟨o', e'⟩ := J.base.there a o e (by rw [hex]; simp)
        rw [noI] at e'
        cases e'
    have nc : ∀ x c, X.env.cells.lookup x = some c → c ≠ a := fun x c e z => by
      obtain ⟨v, o, e', _⟩ := J.cell x c e
      rw [z, noI] at e'
      cases e'
    have np : ∀ p ∈ X.pn ++ pins, p.1 ≠ a := fun p hp z => by
      have e' := (J.pin p hp).1
      rw [z, noI] at e'
      cases e'
    have S3 := J3.suite he3 hd3 na nL nF
    refine wpAny_handleBy_cons (codeAny_handlers_test ?_) (by intro q; cases q)
    -- the classes
    refine wpAny_Tuple (wpAny_items_cons (ld_glob (X := X.suite a ((a, oe3) :: (X.pn ++ pins))) S3 g1 m1 ?_ nd1))
    refine wpAny_items_cons (ld_glob (X := X.suite a ((a, oe3) :: (X.pn ++ pins))) S3 g2 m2 ?_ nd2)
    refine wpAny_items_cons (ld_glob (X := X.suite a ((a, oe3) :: (X.pn ++ pins))) S3 g3 m3 ?_ nd3)
    refine wpAny_items_nil ⟨by size_fits, ?_⟩
    have kp : ∀ q o, h3.get? q = some o → (h3.push { cls := .type "tuple", data := .seq [Value.ref C1, .ref C2, .ref C3].toArray }).get? q = some o := fun _ _ z => Heap.get?_push_of_some _ z
    have LT : PySem.W.Looks (model X.prog X.w) h3 (typeOf (.ref a)) cls := fun A Q E s k q => wpAny_typeOf_ref (k _ _ he3) (by rw [hz3.1]; exact q)
    have fl5 : HandSPX.FlyingZ B (X.env :: X.outer) a (Zc cls d) (h3.push { cls := .type "tuple", data := .seq [Value.ref C1, .ref C2, .ref C3].toArray }) := by
      obtain ⟨f1, f2, f3, oe, vs, T, oT, ts', q1, q2, q3, q4, q5, q6, q7, q8⟩ := id fl3
      exact ⟨fun b o e => kp b o (f1 b o e), f2, f3.of_keeps fun b o e _ => ⟨o, kp b o e, rfl⟩, oe, vs, T, oT, ts', kp _ _ q1, q2, q3, q4, q5, q6, kp _ _ q7, q8⟩
    have up5 : s'.heap.UpToSlots (h3.push { cls := .type "tuple", data := .seq [Value.ref C1, .ref C2, .ref C3].toArray }) := up3.trans fun b o e _ => ⟨o.slots, kp b _ e⟩
    refine (PySem.W.exm_tup3 ((J3.kIn).keeps kp) (LT.keeps kp) (Heap.get?_push_size h3 rfl) hb1).here ?_
    cases b with
    | true =>
      refine codeAny_handlers_suite_as ?_
      refine HandSPX.lands_againZ fl5 fun h4 fl4 up4 => ?_
      have J4 : Inv X pins σ' H' { s' with heap := h4 } := J.landed nb fl4.1 ((up.trans up5).trans up4) os ag
      obtain ⟨oe4, vs4, he4, hz4, hd4⟩ := fl4.there
      have S4 := J4.suite he4 hd4 na nL nF
      refine store_ok (X := X.suite a ((a, oe4) :: (X.pn ++ pins))) (v := .ref a) S4 hN hi (.inl hln) rfl (fun s5 S5 => ?_) (.inr hln)
      refine wpAny_mono ((hsu a oe4 cls d (X.pn ++ pins) hz4 ⟨_, hd4⟩).run [] s5 _ H' _ S5 (hyes rfl a na)) (fun f s6 hsp => ?_) (fun _ _ z => False.elim z)
      have fin : ∀ {σ6 : L2.St} {H6 : Hp} {Q : Shared → Prop}, Inv (X.suite a ((a, oe4) :: (X.pn ++ pins))) [] σ6 H6 s6 → (∀ s7, Inv X pins (σ6.set i none) (upd H6 a (ExK a cls d)) s7 → Q s7) →
          wpAny (model X.prog X.w) X.A (do bindName X.env n .none; unbindBehindTheSuite X.env n pos') (fun _ s7 => Q s7) X.xe s6 := fun {σ6 H6 Q} S6 hq => by
        have G6 : Inv X ((a, oe4) :: pins) σ6 H6 s6 := ⟨ok, S6.os, S6.bare, S6.base, S6.loc, S6.cell, S6.free, S6.freeC, fun p hp => S6.pin p (by
            have : p ∈ (a, oe4) :: (X.pn ++ pins) := by
              rcases List.mem_append.mp hp with m | m
              · exact List.mem_cons_of_mem _ (List.mem_append_left _ m)
              · rcases List.mem_cons.mp m with rfl | m
                · exact List.mem_cons_self
                · exact List.mem_cons_of_mem _ (List.mem_append_right _ m)
            exact List.mem_append_left _ this), S6.hok, S6.len⟩
        refine gone_ok G6 hN hi hln fun s7 J7 => hq s7 ?_
        have pa := J7.pin (a, oe4) (List.mem_append_right _ List.mem_cons_self)
        have J8 : Inv X pins (σ6.set i none) H6 s7 := ⟨ok, J7.os, J7.bare, J7.base, J7.loc, J7.cell, J7.free, J7.freeC, fun p hp => J7.pin p (by
            rcases List.mem_append.mp hp with m | m
            · exact List.mem_append_left _ m
            · exact List.mem_append_right _ (List.mem_cons_of_mem _ m)), J7.hok, J7.len⟩
        exact hold J8 pa.2.1 young nL nc np ⟨⟨oe4, vs4, pa.1, hz4.1, hz4.2, hd4⟩, ⟨oe4, pa.1⟩, fun h1 h2 ⟨o, vs, e, r⟩ k => ⟨o, vs, k o e, r⟩⟩
      cases f with
      | next =>
        obtain ⟨σ6, H6, S6, q6⟩ := hsp
        exact fin S6 fun s7 J7 => ⟨_, _, J7, q6⟩
      | brk =>
        obtain ⟨σ6, H6, S6, q6⟩ := hsp
        exact fin S6 fun s7 J7 => ⟨_, _, J7, q6⟩
      | cont =>
        obtain ⟨σ6, H6, S6, q6⟩ := hsp
        exact fin S6 fun s7 J7 => ⟨_, _, J7, q6⟩
      | ret u =>
        obtain ⟨v6, σ6, H6, S6, r6, q6⟩ := hsp
        exact fin S6 fun s7 J7 => ⟨_, _, _, J7, r6, q6⟩
    | false =>
      show wpAny _ X.A (handleBy (.ref a) X.env []) _ _ _
      refine wpAny_handleBy_nil ?_
      obtain ⟨k1, k2, k3, oe, vs, T, oT, ts', he, hz, hd, h1, hr⟩ := id fl5
      unfold PySem.passOn
      refine wpAny_bind (wpAny_field he hd h1 ?_)
      rw [if_neg (show ¬ ((Value.ref T == Value.none) = true) from by simp)]
      have out : wpAny (model X.prog X.w) X.A (setFlight (.ref a) X.env.frame) (fun _ s4 => wpAny (model X.prog X.w) X.A (throw (.ref a) : Sem Flow) (SP X pins D) X.xe s4) X.xe { s' with heap := h3.push { cls := .type "tuple", data := .seq [Value.ref C1, .ref C2, .ref C3].toArray } } := by
        rw [hf]
        refine HandSPX.setFlight_upZ fl5 fun h4 hh4 up4 => wpAny_throw (tk _ _ ?_)
        exact ⟨a, B, sI, pins, σ', H', cls, d, rfl, J, nb, (up.trans up5).trans up4, .inr (.inr (by rw [hs]; exact hh4)), na, os, ag, hno rfl⟩
      first
        | exact wpAny_bind (wpAny_pure (wpAny_bind out))
        | exact wpAny_bind out
end
end Gd

set_option maxRecDepth 100000
set_option maxHeartbeats 4000000
namespace Gd
open PySem PySem.Spec PyProof.Rows L2 LamX

/-! ### the law's end: tables of code objects, where no repr is under way -/
variable {P : Program} {w : World} {K : PySem.W.Frag} {mg : PySem.Str → Option Value} {base : Heap}
abbrev tb0 : Obj := { cls := .none, data := .fields #[] }
/-- what is tracked is the script (a list) or a table that is empty as yet -/
structure Light (K : PySem.W.Frag) (H : Hp) (h : Heap) : Prop where
  kinds : ∀ b u o, H b = some u → h.get? b = some o → (∃ vs n, o.data = .seq vs n) ∨ o.data = .fields #[]
  apart : ∀ b u, H b = some u → K.lookup b = none
theorem Light.hid {h : Heap} {H : Hp} (L : Light K H h) {b : Addr} {o : Obj} (e : h.get? b = some o) (n1 : ∀ vs n, o.data ≠ .seq vs n) (n2 : o.data ≠ .fields #[]) : (hidT h H).get? b = some o := hidT_get e (by
  cases q : H b with
  | none => rfl
  | some u =>
    rcases L.kinds b u o q e with ⟨vs, n, z⟩ | z
    · exact (n1 vs n z).elim
    · exact (n2 z).elim)
theorem Light.ns {h : Heap} {H : Hp} (L : Light K H h) {b : Addr} {m : PySem.Str → Option Value} (x : h.Ns b m) : (hidT h H).Ns b m := by
  obtain ⟨o, es, ep, e, d, r⟩ := x
  refine ⟨o, es, ep, L.hid e (fun vs n z => ?_) (fun z => ?_), d, r⟩
  · rw [d] at z; cases z
  · rw [d] at z; cases z
theorem Light.inK {h : Heap} {H : Hp} (L : Light K H h) (KX : K.In h) : K.In (hidT h H) := fun b o e => hidT_get (KX b o e) (by
  cases q : H b with
  | none => rfl
  | some u =>
    rw [L.apart b u q] at e
    cases e)
theorem Light.md {h : Heap} {H : Hp} {mb : PySem.Str → Option Value} (L : Light K H h) (KX : K.In h) (hns : h.Ns mainGlobals mg) (hb : h.Ns builtinsNs mb) (hbb : ∀ x : PySem.Str, x ≠ "__name__" → mb x = bootBuiltins x) (lim : h.NoLimit) : Mod K mg (hidT h H) := by
  obtain ⟨mc, c1, c2⟩ := lim
  exact ⟨L.inK KX, L.ns hns, ⟨mb, L.ns hb, hbb⟩, ⟨mc, L.ns c1, c2⟩⟩
/-- a code object's table, as it is told of where the law begins -/
theorem Light.tab {h : Heap} {H : Hp} {c P : Addr} (L : Light K H h) (C : PySem.W.CodeHd h c P) (hP : h.get? P = some tb0) (hns : h.Ns mainGlobals mg)
    (hbm : ∃ (bm : Addr) (ob : Obj), mg "__builtins__" = some (.ref bm) ∧ bm ≠ builtinsNs ∧ h.get? bm = some ob ∧ ob.cls = .type "module" ∧ ob.dict = some builtinsNs ∧ ob.data = .plain) : TabB (hidT h H) mg c P := by
  have gP : mainGlobals ≠ P := fun z => by
    obtain ⟨o, es, ep, e, d, _⟩ := hns
    rw [z, hP] at e
    cases e
    cases d
  refine ⟨?_, ?_, gP⟩
  · obtain ⟨o, us, file, tf, flags, tg, inF, text, tt, e, r1, r2, r3, r⟩ := C
    refine ⟨o, us, file, tf, flags, tg, inF, text, tt, L.hid e (fun vs n z => ?_) (fun z => ?_), r1, r2, r3, r⟩
    · rw [r2] at z; cases z
    · rw [r2] at z
      cases z
      simp at r3
  · obtain ⟨bm, ob, b1, b2, b3, b4, b5, b6⟩ := hbm
    refine ⟨bm, ob, b1, b2, fun z => ?_, fun z => ?_, L.hid b3 (fun vs n z => ?_) (fun z => ?_), b4, b5, b6⟩
    · obtain ⟨o, es, ep, e, d, _⟩ := hns
      rw [z, e] at b3
      cases b3
      rw [d] at b6; cases b6
    · rw [z, hP] at b3
      cases b3
      cases b6
    · rw [b6] at z; cases z
    · rw [b6] at z; cases z

theorem run_scriptT {mb : PySem.Str → Option Value} {k : Nat} {fa a : Addr} {fd : FuncData} {x : PySem.Str} {sp : Sp} {s : Shared} {H : Hp} {cs : List (Addr × Addr)}
    (KX : K.In s.heap) (hns : s.heap.Ns mainGlobals mg) (hb : s.heap.Ns builtinsNs mb) (hbb : ∀ x : PySem.Str, x ≠ "__name__" → mb x = bootBuiltins x) (lim : s.heap.NoLimit) (nog : s.gens = #[])
    (hbm : ∃ (bm : Addr) (ob : Obj), mg "__builtins__" = some (.ref bm) ∧ bm ≠ builtinsNs ∧ s.heap.get? bm = some ob ∧ ob.cls = .type "module" ∧ ob.dict = some builtinsNs ∧ ob.data = .plain)
    (tabs : ∀ p ∈ cs, PySem.W.CodeHd s.heap p.1 p.2 ∧ s.heap.get? p.2 = some tb0) (room : Room k callerA)
    (G : ∀ base : Heap, K.In base → base.Ns mainGlobals mg → (∀ p ∈ cs, TabB base mg p.1 p.2) → FnG P w K mg base k fa fd [x] sp) (bind : ∀ (s : Shared) (u : Value), BindsTo s fd ⟨[u], []⟩ [(x, u)])
    (L : Light K H s.heap) (ok : HOk P w H s.heap) (kind : ∀ b u, H b = some u → (∃ o v, u = .frz o v) ∨ (u = .tbl #[] ∧ ∃ p ∈ cs, p.2 = b))
    (pr : sp [.ref a] H (fun v _ => v = .bl true) fun _ _ _ => False) :
    codeAny (model P w) callerA (.call (.ref fa) ⟨[.ref a], []⟩) (fun r s' => r = .ok (.ret (.bool true)) ∧ OldK s.heap s'.heap ∧ s'.os = s.os ∧ AllBare s'.gens) s := by
  have none_in : ∀ b : Addr, b ∈ frs ([] : List Env) → False := fun b z => by cases z
  have env0 : Env0 P w K mg (hidT s.heap H) callerA [] s H :=
    { frames := rfl, mod := L.md KX hns hb hbb lim, bs := fun b o q => of_hidT q, bsz := Nat.le_of_eq (hidT_size _ _), funs := trivial, frf := fun b z => (none_in b z).elim, hok := ok, bare := .of_eq nog }
  refine codeAny_mono ((G _ (L.inK KX) (L.ns hns) fun p hp => L.tab (tabs p hp).1 (tabs p hp).2 hns hbm).runs (us := [.ref a]) (vs := [.ref a]) rfl room env0 (bind s (.ref a)) (.cons rfl .nil) pr) ?_
  intro r s' out
  obtain ⟨u, rfl, v, H', os, bare, un, ok', rel, q⟩ := cr_out out
  subst q
  obtain rfl : u = Value.bool true := rel
  refine ⟨rfl, ⟨fun b o old => ?_, fun b o old => un.there b o old (fun z => by cases z)⟩, os, bare⟩
  cases q : H b with
  | none => exact .inl (un.keep b o old q (fun z => none_in b z) (fun z => by cases z))
  | some ho =>
    rcases kind b ho q with ⟨ob, v', rfl⟩ | ⟨rfl, p, hp, rfl⟩
    · have e1 := (ok b _ q).1
      have e2 := (ok' b _ (un.frzs b ob _ q)).1
      rw [old] at e1
      cases e1
      exact .inl e2
    · obtain ⟨more, z⟩ := un.tbls p.2 #[] q
      obtain ⟨C, hP⟩ := tabs p hp
      have e2 : s'.heap.get? p.2 = some { cls := .none, data := .fields (#[] ++ more) } := ok' p.2 _ z
      rw [hP] at old
      cases old
      refine .inr (.inl ⟨(C.tab hP).isCodeTable, rfl, #[], more, rfl, ?_⟩)
      rw [e2]

/-- a def's code object and the table in it, from what is written out -/
theorem tab_by {x : PySem.Str} {f c P : Addr} {oc oc2 : Value} {od od2 : Option Addr} {fd : FuncData} {sl sl2 : Array (Option Value)} {vs : Array Value} (g : PySem.W.nsIn K mainGlobals x = some (some (.ref f))) (lf : K.lookup f = some ⟨oc, od, .func fd, sl⟩) (e : fd.code = .ref c)
    (lc : K.lookup c = some ⟨oc2, od2, .fields vs, sl2⟩) (ep : (vs[11]? : Option Value) = some (.ref P)) : PySem.W.tabIn K x = some (c, P) := by
  unfold PySem.W.tabIn
  simp only [g, lf, e, lc, ep]
theorem code_by {x : PySem.Str} {f c P : Addr} {oc : Value} {od : Option Addr} {fd : FuncData} {sl : Array (Option Value)} (g : PySem.W.nsIn K mainGlobals x = some (some (.ref f))) (tb : PySem.W.tabIn K x = some (c, P)) (lf : K.lookup f = some ⟨oc, od, .func fd, sl⟩) : fd.code = .ref c := by
  unfold PySem.W.tabIn at tb
  simp only [g, lf] at tb
  split at tb
  · rename_i c2 hc
    split at tb
    · split at tb
      · cases tb
        exact hc
      · cases tb
    · cases tb
  · cases tb
/-- a def that makes lambdas, from its body, where no repr is under way: its code object's place is known -/
theorem fn_okL {x : PySem.Str} {st : Stmt} {f c P1 : Addr} {fd : FuncData} {N ps : List PySem.Str} {k : Nat} {sp : Sp} (F : Fun K x x st f fd) (g : PySem.W.nsIn K mainGlobals x = some (some (.ref f))) (tb : PySem.W.tabIn K x = some (c, P1)) (S : FnScope N ps (defScope st)) (len : ∀ vs H Q E, sp vs H Q E → vs.length = ps.length)
    (hbody : ∀ (A : Around) (out : List Env) (s : Shared) (H : Hp) (vs : List V) (Q : VK) (E : XK), A.guards = some [] → Room k (A.deeper (envOfC x (defScope st) s.heap.objs.size f (.ref c))) → sp vs H Q E →
      ∃ t, PSs (cxOf CX0 P w K mg base N x (defScope st) f (.ref c) A out s H E).nox (defBody st) t ∧ t { nx := fun _ H' => Q .non H', rt := Q } (start N vs) H) : FnG P w K mg base (k + 1) f fd ps sp := by
  refine fn_okC F S len fun cdv A out s H vs Q E lk hA hr pr => ?_
  obtain ⟨oc, od, kV, doc, pm, an, ct, osl, lk⟩ := lk
  obtain rfl : cdv = .ref c := code_by g tb lk
  exact hbody A out s H vs Q E hA hr pr

/-- what k_head leaves, from the promise of the law's def; cs: the code objects that make lambdas, and their tables -/
theorem walkGT {l : PySem.W.OpenLaw} {n k : Nat} {q : Program} {loose : List PySem.Str} {XP : (PySem.Str → Option Value) → Heap → Prop} {YP : World → Heap → Prop} {d : DefRec} {KK : Params → PySem.W.Frag} {x : PySem.Str}
    (hn : l.most = some n) (hn2 : n ≤ sizeLine) (nod : d.params.defaults = []) (room : Room k callerA) (hY : ∀ (w : World) (h : Heap), YP w h → (KK w.params).In h)
    (G : ∀ (w : World) (mg : PySem.Str → Option Value) (fa : Addr) (h : Heap), (KK w.params).In h → h.Ns mainGlobals mg → mg d.name = some (.ref fa) →
      ∃ (fd : FuncData) (sp : Sp) (cs : List (Addr × Addr)), (∀ p ∈ cs, ∃ (y : PySem.Str) (e : DefRec), (PyProof.Rows.recsOf q).find? (fun e => e.name == y) = some e ∧ PySem.W.tabIn (KK w.params) y = some p) ∧ (∀ p ∈ cs, (KK w.params).lookup p.2 = none) ∧
        (∀ (s : Shared) (u : Value), BindsTo s fd ⟨[u], []⟩ [(x, u)]) ∧ (∀ base : Heap, (KK w.params).In base → base.Ns mainGlobals mg → (∀ p ∈ cs, TabB base mg p.1 p.2) → FnG l.prog w (KK w.params) mg base k fa fd [x] sp) ∧
        ∀ (H : Hp) (a : Addr) (ns : List Int), ns.length ≤ n → SqL (KK w.params) H a (ns.map V.int) → (∀ p ∈ cs, H p.2 = some (.tbl #[])) → (∀ b, b ≠ a → (∀ p ∈ cs, p.2 ≠ b) → H b = none) → sp [.ref a] H (fun v _ => v = .bl true) fun _ _ _ => False) :
    PySem.W.WalkO q loose XP YP l.row.toRowW d [] (fun f vs => PySem.call f vs) := by
  refine Att.attach_call hn nod ?_
  intro w s0 s1 mg mb fa o pm cd doc a vs ns T Y _ _ _ at_ obj intsA len nog
  have KX := hY w _ Y
  obtain ⟨fd, sp, cs, hcs, nT, bind, F, pr⟩ := G w mg fa _ KX T.T.g at_
  have tabs : ∀ p ∈ cs, PySem.W.CodeHd s1.heap p.1 p.2 ∧ s1.heap.get? p.2 = some tb0 := fun p hp => by
    obtain ⟨y, e, h1, h2⟩ := hcs p hp
    exact PySem.W.tab_of T.T KX h1 h2
  have size : (ns.map V.int).length ≤ sizeLine := by
    rw [List.length_map]
    exact Nat.le_trans len hn2
  have na : ∀ p ∈ cs, p.2 ≠ a := fun p hp z => by
    have e := (tabs p hp).2
    rw [z, obj] at e
    cases e
  let isT : Addr → Prop := fun b => ∃ p ∈ cs, p.2 = b
  have dT : ∀ b, Decidable (isT b) := fun b => Classical.propDecidable _
  cases z : (KK w.params).lookup a with
  | none =>
    let H : Hp := fun b => if b = a then some (.frz { cls := .type "list", data := .seq vs.toArray } (.lst (ns.map V.int))) else if isT b then some (.tbl #[]) else none
    have at1 : H a = some (HO.frz { cls := .type "list", data := .seq vs.toArray } (.lst (ns.map V.int))) := if_pos rfl
    have atT : ∀ p ∈ cs, H p.2 = some (.tbl #[]) := fun p hp => (if_neg (na p hp)).trans (if_pos ⟨p, hp, rfl⟩)
    have off : ∀ b, b ≠ a → ¬ isT b → H b = none := fun b n1 n2 => (if_neg n1).trans (if_neg n2)
    have split : ∀ b u, H b = some u → (b = a ∧ u = HO.frz { cls := .type "list", data := .seq vs.toArray } (.lst (ns.map V.int))) ∨ (isT b ∧ u = .tbl #[]) := fun b u e => by
      by_cases n1 : b = a
      · subst n1
        rw [at1] at e
        cases e
        exact .inl ⟨rfl, rfl⟩
      · by_cases n2 : isT b
        · have e2 : H b = some (.tbl #[]) := (if_neg n1).trans (if_pos n2)
          rw [e2] at e
          cases e
          exact .inr ⟨n2, rfl⟩
        · rw [off b n1 n2] at e
          cases e
    refine run_scriptT (H := H) (cs := cs) KX T.T.g T.T.b T.T.builtins T.T.nolimit nog T.T.bmain tabs room F bind ⟨fun b u o e ho => ?_, fun b u e => ?_⟩ ?_ ?_ ?_
    · rcases split b u e with ⟨rfl, _⟩ | ⟨⟨p, hp, rfl⟩, _⟩
      · rw [obj] at ho
        cases ho
        exact .inl ⟨_, _, rfl⟩
      · rw [(tabs p hp).2] at ho
        cases ho
        exact .inr rfl
    · rcases split b u e with ⟨rfl, _⟩ | ⟨⟨p, hp, rfl⟩, _⟩
      · exact z
      · exact nT p hp
    · intro b u e
      rcases split b u e with ⟨rfl, rfl⟩ | ⟨⟨p, hp, rfl⟩, rfl⟩
      · exact ⟨obj, size, vs, _, vals_ints intsA, obj⟩
      · exact (tabs p hp).2
    · intro b u e
      rcases split b u e with ⟨rfl, rfl⟩ | ⟨⟨p, hp, rfl⟩, rfl⟩
      · exact .inl ⟨_, _, rfl⟩
      · exact .inr ⟨rfl, p, hp, rfl⟩
    · exact pr H a ns len (.inl (.inr ⟨_, at1⟩)) atT fun b n1 n2 => off b n1 fun ⟨p, hp, e⟩ => n2 p hp e
  | some ob =>
    have e := KX a ob z
    rw [obj] at e
    cases e
    let H : Hp := fun b => if isT b then some (.tbl #[]) else none
    have atT : ∀ p ∈ cs, H p.2 = some (.tbl #[]) := fun p hp => if_pos ⟨p, hp, rfl⟩
    have split : ∀ b u, H b = some u → isT b ∧ u = .tbl #[] := fun b u e => by
      by_cases n2 : isT b
      · have e2 : H b = some (.tbl #[]) := if_pos n2
        rw [e2] at e
        cases e
        exact ⟨n2, rfl⟩
      · have e2 : H b = none := if_neg n2
        rw [e2] at e
        cases e
    refine run_scriptT (H := H) (cs := cs) KX T.T.g T.T.b T.T.builtins T.T.nolimit nog T.T.bmain tabs room F bind ⟨fun b u o e ho => ?_, fun b u e => ?_⟩ ?_ ?_ ?_
    · obtain ⟨⟨p, hp, rfl⟩, _⟩ := split b u e
      rw [(tabs p hp).2] at ho
      cases ho
      exact .inr rfl
    · obtain ⟨⟨p, hp, rfl⟩, _⟩ := split b u e
      exact nT p hp
    · intro b u e
      obtain ⟨⟨p, hp, rfl⟩, rfl⟩ := split b u e
      exact (tabs p hp).2
    · intro b u e
      obtain ⟨⟨p, hp, rfl⟩, rfl⟩ := split b u e
      exact .inr ⟨rfl, p, hp, rfl⟩
    · refine pr H a ns len (.inr ⟨_, vs.toArray, _, z, rfl, rfl, rfl, ?_, by simpa using vals_ints intsA⟩) atT fun b n1 n2 => if_neg fun ⟨p, hp, e⟩ => n2 p hp e
      rw [List.size_toArray, intsA.length]
      rw [List.length_map] at size
      exact size
end Gd

set_option maxRecDepth 100000
set_option maxHeartbeats 4000000
namespace Gd
open PySem PySem.Spec PyProof.Rows L2

/-! ### errors that were kept: whose class, which field -/
/-- what the written part says of an error class at C, so that its errors may be asked -/
structure ErC (K : PySem.W.Frag) (C : Addr) : Prop where
  here : (PySem.W.clsIn K C).isSome = true
  ga : PySem.W.findIn K (.ref C) "__getattribute__" = some (some (.builtin "BaseException.__getattribute__"))
  gg : PySem.W.findIn K (.ref C) "__getattr__" = some none
  ex : PySem.W.subIn K (.ref C) (.type "BaseException") = some true
  dict : PySem.W.hasDictIn K C = true
  cl : PySem.W.findIn K (.ref C) "__class__" = some (some (.builtin "object.__class__"))
  get : PySem.W.specialIn K (.builtin "object.__class__") "__get__" = some (some (.builtin "getset_descriptor.__get__"))
  tk : PySem.W.takesIn K (.builtin "object.__class__") = some true
  ob : PySem.W.mroIn K C (.type "object") = some true
/-- at a: an error of the class C, kept; its own names fs -/
def Err (H : Hp) (a C : Addr) (fs : List (PySem.Str × V)) : Prop := ∃ d, H a = some (ExK a (.ref C) (some d)) ∧ H d = some (.xd fs)
section
variable {X : Cx} {pins : List (Addr × Obj)} {σ : L2.St} {H : Hp} {s : Shared}
theorem Err.stands {a C : Addr} {fs : List (PySem.Str × V)} (I : Inv X pins σ H s) (e : Err H a C fs) :
    ∃ (ox od : Obj) (mA : PySem.Str → Option Value), PySem.W.InstAt s.heap a ox C (some od) ∧ (∀ n, PySem.W.lookIn n od = some (mA n)) ∧ ∀ f, RelO (fs.lookup f) (mA f) := by
  obtain ⟨d, ea, ed⟩ := e
  obtain ⟨⟨ox, vs, g, c1, c2, c3⟩, _, _⟩ := (show ObjOk X.prog X.w H s.heap a (ExK a (.ref C) (some d)) from I.hok a _ ea)
  obtain ⟨mA, hns, hr⟩ := (show ObjOk X.prog X.w H s.heap d (.xd fs) from I.hok d _ ed)
  obtain ⟨od, ho, hl⟩ := lookIn_ns hns
  exact ⟨ox, od, mA, ⟨g, c1, by unfold PySem.W.notCls; rw [c3], by rw [c2]; exact ho⟩, hl, hr⟩
/-- e.f of a kept error -/
def tErF (K : PySem.W.Frag) (f : PySem.Str) (te : TE) : TE := fun σ H Q => te σ H fun x H1 => ∃ (a C : Addr) (fs : List (PySem.Str × V)) (v : V), x = .ref a ∧ Err H1 a C fs ∧ ErC K C ∧ PySem.W.findIn K (.ref C) f = some none ∧ fs.lookup f = some v ∧ Q v H1
theorem pe_erf {e : Expr} {te : TE} {pos : Pos} {f : PySem.Str} (he : PE X e te) (hb : attributeBase e f X.env (eval e X.env) = eval e X.env := by rfl) : PE X (.Attribute e f pos) (tErF X.K f te) := by
  refine ⟨fun pins s σ H Q I h => attr_of hb (thn (he.run pins s σ H _ I h) fun u s1 hh => ?_)⟩
  obtain ⟨x, H1, I1, rx, a, C, fs, v, rfl, er, T, no, l, q⟩ := hh
  obtain rfl : u = Value.ref a := rx
  obtain ⟨ox, od, mA, J, hl, hr⟩ := er.stands I1
  obtain ⟨u, hu, ru⟩ := RelO.some_of (v := v) (o := mA f) (by rw [← l]; exact hr f)
  exact HandSPX.exc_get I1.kIn J T.ga T.gg T.ex (PySem.W.findObj_own T.dict no rfl (by rw [hl, hu])) (handed_of ru) ⟨v, H1, I1.tok _, ru, q⟩
/-- isinstance(e, c), e a kept error -/
def rIsK (K : PySem.W.Frag) : List V → Hp → VK → Prop := fun xs H Q => ∃ (a C : Addr) (fs : List (PySem.Str × V)) (c : V) (cv : Value) (b : Bool), xs = [.ref a, c] ∧ (∀ u, RelV c u → u = cv) ∧ Err H a C fs ∧ ErC K C ∧ PySem.W.kitOne K (.ref C) cv = some b ∧ Q (.bl b) H
theorem call_isK : CallR X (.builtin "isinstance") (rIsK X.K) := by
  intro pins s σ H xs us Q I r h
  obtain ⟨a, C, fs, c, cv, b, rfl, hc, er, T, e, q⟩ := h
  obtain ⟨u1, u2, rfl, r1, r2⟩ := vals2 r
  obtain rfl : u1 = Value.ref a := r1
  obtain rfl := hc _ r2
  obtain ⟨ox, od, mA, J, _, _⟩ := er.stands I
  exact PySem.W.kia_one (PySem.W.kitx_exc (ox := ox) (od := some od) T.here T.ga T.gg T.ex T.cl T.get T.tk T.ob) I.kIn J e (fun z => nomatch z) fun tk => ⟨.bl b, H, I.tok tk, rfl, q⟩
end
theorem Err.same {H H1 : Hp} {a C : Addr} {fs : List (PySem.Str × V)} (e : Err H a C fs) (h : Same H H1) : Err H1 a C fs := by
  obtain ⟨d, e1, e2⟩ := e
  exact ⟨d, h _ _ e1, h _ _ e2⟩
theorem Err.not_none {a C : Addr} {H : Hp} {fs : List (PySem.Str × V)} (e : Err H a C fs) : H a ≠ none := by
  obtain ⟨d, e1, _⟩ := e
  rw [e1]
  exact fun z => by cases z
end Gd

set_option maxRecDepth 100000
set_option maxHeartbeats 4000000
namespace Gd
open PySem PySem.Spec PyProof.Rows L2

/-! ### a dict of the module, its keys texts: d.get(k) -/
inductive WrE (prm : Params) : List (PySem.Str × V) → List DictEntry → Prop where
  | nil : WrE prm [] []
  | cons {x : PySem.Str} {v : V} {t : Tok} {u : Value} {l : List (PySem.Str × V)} {es : List DictEntry} (r : RelV v u) (rest : WrE prm l es) : WrE prm ((x, v) :: l) (⟨PyData.keyHash prm x, .str x t, u⟩ :: es)
theorem WrE.keys {prm : Params} : ∀ {l : List (PySem.Str × V)} {es : List DictEntry}, WrE prm l es → PySem.W.KeysLit prm es
  | _, _, .nil => trivial
  | _, _, .cons r rest => ⟨⟨_, _, rfl, rfl⟩, rest.keys⟩
theorem WrE.find {prm : Params} {z : PySem.Str} : ∀ {l : List (PySem.Str × V)} {es : List DictEntry}, WrE prm l es → RelO (l.lookup z) ((es.find? fun e => Value.isStrOf z e.key).map (·.val))
  | _, _, .nil => trivial
  | _, _, .cons (x := x) (v := v) (t := t) (u := u) (l := l) (es := es) r rest => by
    have ih := rest.find (z := z)
    have e1 : Value.isStrOf z (.str x t) = (x == z) := rfl
    rw [lookup_put x z v l, List.find?_cons, e1]
    by_cases h : z = x
    · subst h
      rw [if_pos rfl, show (z == z) = true from by simp]
      exact r
    · rw [if_neg h, show (x == z) = false from by simpa using fun q => h q.symm]
      exact ih
def WrD (K : PySem.W.Frag) (prm : Params) (a : Addr) (l : List (PySem.Str × V)) : Prop := ∃ es n, K.lookup a = some ⟨.type "dict", none, .dict es n, #[]⟩ ∧ (a == sysModules) = false ∧ WrE prm l es.toList
def tWGet (K : PySem.W.Frag) (w : World) (td ty : TE) : TE := fun σ H Q => td σ H fun x H1 => ∃ (a : Addr) (l : List (PySem.Str × V)), x = .ref a ∧ WrD K w.params a l ∧ ty σ H1 fun y H2 => ∃ z, y = .str z ∧ Q ((l.lookup z).getD .non) H2
section
variable {X : Cx} {o e : Expr} {apos cpos : Pos} {td ty : TE}
theorem pe_wget (ho : PE X o td) (he : PE X e ty) (m : M1 X o "get" apos e cpos) : PE X (.Call (.Attribute o "get" apos) [e] [] cpos) (tWGet X.K X.w td ty) := by
  refine ⟨fun pins s σ H Q I h => ?_⟩
  refine wpAny_Call_method m.base m.few m.line PySem.F.plainAttrs_dict PySem.F.slot_dict_get PySem.F.type_dict_get (thn (ho.run pins s σ H _ I h) fun u s1 ⟨x, H1, I1, rx, a, l, ex, ⟨es, n, lk, low, we⟩, q1⟩ => ?_)
  subst ex
  obtain rfl : u = Value.ref a := rx
  have there := I1.kIn _ _ lk
  have mp := PySem.W.mapOf_K (prog := X.prog) (w := X.w) I1.kIn lk we.keys
  refine ⟨mp.typeIs, fun b z => ?_, ?_⟩
  · cases z
    exact ⟨_, there, rfl⟩
  rw [m.trees]
  refine Calls.callWith_builtin rfl (Calls.evalArgs_plain (Calls.spliced_cons (thn (he.run pins s1 σ H1 _ I1 q1) fun iv s2 ⟨y, H2, I2, ry, z, ey, q2⟩ => Calls.spliced_nil ?_)))
  subst ey
  obtain ⟨t, rfl⟩ := (show ∃ t, iv = Value.str z t from ry)
  have mp2 := PySem.W.mapOf_K (prog := X.prog) (w := X.w) I2.kIn lk we.keys
  refine call_meetsIn PySem.F.slot_dict_get mp2.typeIs PySem.F.entry_dict_get (PySem.F.args_dict_get_2 _ _) (meets_dict_get (strKind X.prog X.w) a (strKind_is X.prog X.w z t) low) ⟨_, mp2, ?_⟩
  refine ⟨_, H2, I2.tok _, ?_, q2⟩
  have rel := we.find (z := z)
  have same : findBy Value.isStrOf es z = (es.toList.find? fun e => Value.isStrOf z e.key).map (·.val) := by
    unfold findBy
    rw [← Array.find?_toList]
  show RelV ((l.lookup z).getD .non) ((findBy Value.isStrOf es z).getD .none)
  rw [same]
  cases e1 : l.lookup z with
  | none =>
    rw [e1] at rel
    cases e2 : (es.toList.find? fun e => Value.isStrOf z e.key).map (·.val) with
    | none => rfl
    | some u =>
      rw [e2] at rel
      exact rel.elim
  | some v =>
    rw [e1] at rel
    cases e2 : (es.toList.find? fun e => Value.isStrOf z e.key).map (·.val) with
    | none =>
      rw [e2] at rel
      exact rel.elim
    | some u =>
      rw [e2] at rel
      exact rel
end
end Gd

set_option maxRecDepth 100000
set_option maxHeartbeats 4000000
namespace Gd
open PySem PySem.Spec PyProof.Rows L2

/-! ### type(x) in (t, ..) -/
/-- a class whose own class is type -/
def OfTy (T : String) : Prop := ∀ s' : Shared, s'.TypeIs (.type T) "type"
theorem eqAt_ty {A : Around} {s : Shared} {a b : String} (ha : OfTy a) (hb : OfTy b) : SeqAt.EqAt A s (.type a) (.type b) (decide (a = b)) := fun prog w E Q h => by
  unfold eqBool
  refine wpAny_holding ?_
  by_cases e : a = b
  · subst e
    rw [decide_eq_true rfl] at h
    rw [if_pos (by simp)]
    exact wpAny_bind (wpAny_rule (wpAny_pure h))
  · rw [decide_eq_false e] at h
    have ne : (Value.type a == Value.type b) = false := beq_eq_false_iff_ne.mpr fun z => e (Value.type.inj z)
    rw [if_neg (by rw [ne]; decide)]
    exact wpAny_bind (TypeEq.eq_type_other (Q := fun v s1 => wpAny (model prog w) A (truthOfDropped v) Q E s1) ha hb ne (wpAny_truthy_bool h))
def tyIs (T : String) : Value → Bool
  | .type n => decide (n = T)
  | _ => false
def rInT (K : PySem.W.Frag) (neg : Bool) : R2 := fun x y H Q => ∃ (T : String) (p : Addr) (ts : List String), x = .ty T ∧ y = .ref p ∧ SqT K H p (ts.map V.ty) ∧ OfTy T ∧ (∀ t ∈ ts, OfTy t) ∧ Q (.bl (if neg then !decide (T ∈ ts) else decide (T ∈ ts))) H
theorem vals_tys : ∀ {ts : List String} {us : List Value}, Vals (ts.map V.ty) us → us = ts.map Value.type
  | [], _, .nil => rfl
  | t :: ts, _, .cons r rest => by
    cases r
    rw [vals_tys rest]
    rfl
theorem any_tyIs {T : String} : ∀ ts : List String, (ts.map Value.type).any (tyIs T) = decide (T ∈ ts)
  | [] => rfl
  | t :: ts => by
    rw [List.map_cons, List.any_cons, any_tyIs ts]
    show (decide (t = T) || decide (T ∈ ts)) = _
    by_cases e : t = T
    · subst e
      simp
    · have e' : T ≠ t := fun z => e z.symm
      simp [e, e']
section
variable {X : Cx}
theorem seq_types {pins : List (Addr × Obj)} {σ : L2.St} {H : Hp} {s : Shared} {T : String} {p : Addr} {ts : List String} (I : Inv X pins σ H s) (hq : SqT X.K H p (ts.map V.ty)) (hT : OfTy T) (ht : ∀ t ∈ ts, OfTy t) :
    ∃ its : List Value, s.heap.IsTuple p its.toArray ∧ (∀ A, ∀ y ∈ its.toArray, SeqAt.EqAt A s y (.type T) (tyIs T y)) ∧ its.toArray.any (tyIs T) = decide (T ∈ ts) := by
  obtain ⟨its, r, pl, hz⟩ := I.tuple hq
  have e := vals_tys r
  refine ⟨its, pl, fun A w hw => ?_, ?_⟩
  · have hw' : w ∈ ts.map Value.type := by
      rw [← e]
      simpa using hw
    obtain ⟨t, m, rfl⟩ := List.mem_map.mp hw'
    exact eqAt_ty (ht t m) hT
  · rw [show its.toArray.any (tyIs T) = its.any (tyIs T) from by simp, e, any_tyIs]
theorem op_in_ty : OpR X (compareOp .In) (rInT X.K false) := by
  intro pins s σ H x y v u Q I rx ry h
  obtain ⟨T, p, ts, rfl, rfl, hq, hT, ht, q⟩ := h
  cases (show v = Value.type T from rx)
  cases (show u = Value.ref p from ry)
  obtain ⟨its, pl, at_, an⟩ := seq_types I hq hT ht
  exact SeqAt.in_tupleAt (tyIs T) pl (at_ _) ⟨.bl _, H, I, rfl, by rw [an]; exact q⟩
theorem op_notIn_ty : OpR X (compareOp .NotIn) (rInT X.K true) := by
  intro pins s σ H x y v u Q I rx ry h
  obtain ⟨T, p, ts, rfl, rfl, hq, hT, ht, q⟩ := h
  cases (show v = Value.type T from rx)
  cases (show u = Value.ref p from ry)
  obtain ⟨its, pl, at_, an⟩ := seq_types I hq hT ht
  exact SeqAt.notIn_tupleAt (tyIs T) pl (at_ _) ⟨.bl _, H, I, rfl, by rw [an]; exact q⟩
end
end Gd

set_option maxRecDepth 100000
set_option maxHeartbeats 4000000
namespace Gd
open PySem PySem.Spec PyProof.Rows L2

theorem Od.ktup {K : PySem.W.Frag} {H : Hp} {x : V} {T : String} (o : Od H x T) : PySem.W.kitOne K (.type T) (.type "tuple") = some (decide (T = "tuple")) := by
  cases o <;> exact kit_ty (by decide +kernel)
theorem Od.klst {K : PySem.W.Frag} {H : Hp} {x : V} {T : String} (o : Od H x T) : PySem.W.kitOne K (.type T) (.type "list") = some (decide (T = "list")) := by
  cases o <;> exact kit_ty (by decide +kernel)
/-- the statements of a class -/
def inCls : Stmt → List Stmt
  | .ClassDef (body := b) .. => b
  | _ => []

/-! ### len(o), o of an own class with a __len__ -/
section
variable {X : Cx} {k : Nat} {f : Addr} {fd : FuncData} {sp : Sp}
def rLenO (K : PySem.W.Frag) (f : Addr) (sp : Sp) : List V → Hp → VK → Prop := fun xs H Q => ∃ (a C dx : Addr) (fs : List (PySem.Str × V)), xs = [.ref a] ∧ H a = some (.ins C dx fs) ∧ PySem.W.findIn K (.ref C) "__len__" = some (some (.ref f)) ∧ PySem.W.typeIn K (.ref f) = some (.type "function") ∧
  sp [.ref a] H (fun v H1 => ∃ n : Nat, v = .int n ∧ n ≤ sizeLine ∧ Q (.int n) H1) (fun _ _ _ => False)
theorem call_lenO (F : FnOk X.prog X.w X.K X.mg X.base CX0 k f fd ["self"] sp) (hr : Room (k + 1) X.A) (b : Binds X.K fd ["self"] []) : CallR X (.builtin "len") (rLenO X.K f sp) := by
  intro pins s σ H xs us Q I r h
  obtain ⟨a, C, dx, fs, rfl, ea, fl, ft, pr⟩ := h
  obtain ⟨u, rfl, ru⟩ := vals1 r
  obtain rfl : u = Value.ref a := ru
  obtain ⟨_, _, _, hx, mA, hns, _⟩ := (show ObjOk X.prog X.w H s.heap a (.ins C dx fs) from I.hok a _ ea)
  have ty : PySem.W.Looks (model X.prog X.w) s.heap (typeOf (.ref a)) (.ref C) := fun A Q E s1 k1 q => wpAny_typeOf_ref (k1 _ _ hx) q
  refine Calls.call_function_entry kind_len plain_len entry_len (args_len1 _) ?_
  unfold Builtin.«len»
  refine wpAny_bind (m := oneArg "len" _) (wpAny_pure ?_)
  refine wpAny_bind (m := callSpecial? (.ref a) (Str.ofString "__len__")) ?_
  unfold callSpecial? specialOf
  refine wpAny_bind (wpAny_bind (ty.here ((PySem.W.looks_findIn I.kIn fl).here ?_)))
  refine wpAny_holding (wpAny_bind ((PySem.W.bind_fn I.kIn (.ref a) ft).here ?_))
  show wpAny _ _ (call (.ref f) [.ref a] [] >>= fun v => pure (some v)) _ _ s
  refine wpAny_bind (wpAny_call (codeAny_mono (F.run _ X.stack s H ⟨[.ref a], []⟩ [.ref a] [.ref a] _ _ hr.in1 ⟨I.env0.frames, I.env0.mod, I.env0.bs, I.env0.bsz, I.env0.funs, I.env0.frf, I.env0.hok, I.env0.bare⟩ (b s [.ref a] I.kIn rfl) (.cons rfl .nil) pr) fun res s' hq => ?_))
  obtain ⟨u, rfl, ce⟩ := cr_out hq
  obtain ⟨v, H1, I1, rv, n, rfl, hn, q⟩ := I.after ce
  obtain ⟨t, rfl⟩ := (show ∃ t, u = Value.int n t from rv)
  rw [sizeLine_eq] at hn
  refine wpAny_pure ?_
  refine wpAny_bind (wpAny_holding (wpAny_pure ?_))
  refine wpAny_bind (wpAny_letGo ?_)
  show wpAny _ _ (if ((n : Nat) : Int) < 0 then _ else _) _ _ _
  rw [if_neg (by omega)]
  show wpAny _ _ (if ((n : Nat) : Int) ≥ 2 ^ 63 then _ else _) _ _ _
  rw [if_neg (by omega)]
  exact wpAny_bind (wpAny_mkInt (wpAny_pure ⟨_, rfl, .int n, H1, I1.tok _, ⟨_, rfl⟩, q⟩))
end
end Gd

set_option maxRecDepth 100000
set_option maxHeartbeats 4000000
namespace Gd
open PySem PySem.Spec PyProof.Rows L2
variable {K : PySem.W.Frag} {C D : Addr}
/-- isinstance by an own class, what is known of it -/
theorem kit_cl {b : Bool} (T : ErC K D) (ty : PySem.W.typeIn K (.ref D) = some (.type "type")) (self : PySem.W.subIn K (.ref C) (.ref C) = some true) (sub : PySem.W.subIn K (.ref C) (.ref D) = some b) : PySem.W.kitOne K (.ref C) (.ref D) = some b := by
  by_cases e : C = D
  · subst e
    rw [self] at sub
    unfold PySem.W.kitOne
    rw [if_pos (by simp)]
    exact sub
  · unfold PySem.W.kitOne
    rw [if_neg (by simpa using e)]
    show (if ((PySem.W.clsIn K D).isSome && PySem.W.typeIn K (.ref D) == some (.type "type")) = true then PySem.W.subIn K (.ref C) (.ref D) else none) = some b
    rw [if_pos (by rw [T.here, ty]; rfl)]
    exact sub
theorem kit_bt {n : String} {b : Bool} (m : PySem.W.kitMeta n = true) (sub : PySem.W.subIn K (.ref C) (.type n) = some b) : PySem.W.kitOne K (.ref C) (.type n) = some b := by
  unfold PySem.W.kitOne
  rw [if_neg (by simp)]
  show (if PySem.W.kitMeta n = true then PySem.W.subIn K (.ref C) (.type n) else none) = some b
  rw [if_pos m]
  exact sub
theorem exm_cl {b : Bool} (T : ErC K D) (ty : PySem.W.typeIn K (.ref D) = some (.type "type")) (sub : PySem.W.subIn K (.ref C) (.ref D) = some b) : PySem.W.exmOne K (.ref C) (.ref D) = some b := PySem.W.exm_ref T.ex T.dict ty sub
theorem exm3 {c : Value} {c1 c2 c3 : Value} {b1 b2 b3 : Bool} (e1 : PySem.W.exmOne K c c1 = some b1) (e2 : PySem.W.exmOne K c c2 = some b2) (e3 : PySem.W.exmOne K c c3 = some b3) : PySem.W.exmAny K c [c1, c2, c3] = some (b1 || b2 || b3) := by
  simp [PySem.W.exmAny, e1, e2, e3, Bool.or_assoc]
theorem takes_len {X : Cx} {W : WX} (tk : Takes X W) : Takes X (fun cls d σ H => σ.length = X.N.length → W cls d σ H) := fun u s' ⟨a, B, sI, pins, σ, H, cls, d, e, I, nb, up, sky, na, os, ag, w⟩ =>
  tk u s' ⟨a, B, sI, pins, σ, H, cls, d, e, I, nb, up, sky, na, os, ag, w I.len⟩
end Gd

set_option maxRecDepth 100000
set_option maxHeartbeats 4000000
namespace Dl
open PySem PySem.Spec PyProof.Rows L2 Gd

/-! ### data: what a value tells, wherever its parts stand -/
inductive T where
  | non | bl (b : Bool) | int (i : Int) | str (z : PySem.Str) | ty (n : String)
  | lst (l : List T) | tup (l : List T)
  | cls (C : Addr)
  /-- just this thing, which is so -/
  | pin (a : Addr) (t : T)
  | obj (C : Addr) (fs : List (PySem.Str × T))
  | far (a : Addr) (n : String)
  | wst (z : PySem.Str)
  | rs (k : Nat)
  /-- a dict of which no more is known -/
  | dct (a : Addr)
  deriving Inhabited
/-- what may be changed -/
inductive Res where
  | lst (l : List T)
  | drw (s : PySem.Str) (n : Nat)
  | obj (C : Addr) (fs : List (PySem.Str × T))
  | gone
  /-- these are the tables of code objects -/
  | tab (TT : List (Addr × PySem.Str))
  deriving Inhabited
/-- what the written part says of an own class -/
structure COk (K : PySem.W.Frag) (C : Addr) (ns : List PySem.Str) : Prop where
  cl : Cls K C
  no : ∀ f ∈ ns, NoAttr K C f
  mks : PySem.W.makesIn K C = true
def okS (z : PySem.Str) : Prop := ∀ c ∈ z.cps.toList, c < 1114112
mutual
inductive Dn (K : PySem.W.Frag) (B : Hp) : V → T → Prop
  | non : Dn K B .non .non
  | bl (b : Bool) : Dn K B (.bl b) (.bl b)
  | int (i : Int) : Dn K B (.int i) (.int i)
  | str {z : PySem.Str} (t : okS z) : Dn K B (.str z) (.str z)
  | ty (n : String) : Dn K B (.ty n) (.ty n)
  | cls {C : Addr} (m : PySem.W.makesIn K C = true) : Dn K B (.ref C) (.cls C)
  | pin {a : Addr} {t : T} (d : Dn K B (.ref a) t) : Dn K B (.ref a) (.pin a t)
  | lst {a : Addr} {xs : List V} {ts : List T} (e : B a = some (.lst xs)) (d : DnAll K B xs ts) : Dn K B (.ref a) (.lst ts)
  | tup {a : Addr} {xs : List V} {ts : List T} (e : SqT K B a xs) (d : DnAll K B xs ts) : Dn K B (.ref a) (.tup ts)
  | obj {a C dx : Addr} {vs : List (PySem.Str × V)} {fs : List (PySem.Str × T)} (e : B a = some (.ins C dx vs)) (c : COk K C (fs.map (·.1))) (d : DnF K B vs fs) : Dn K B (.ref a) (.obj C fs)
  | far {a : Addr} {n : String} (o : Od B (.ref a) n) : Dn K B (.ref a) (.far a n)
  | wst (z : PySem.Str) : Dn K B (.str z) (.wst z)
  | dct {a : Addr} {φ : Heap → Prop} (e : B a = some (.ext φ)) (h : ∀ hp : Heap, φ hp → ∃ o : Obj, hp.get? a = some o ∧ o.cls = .type "dict") : Dn K B (.ref a) (.dct a)
inductive DnAll (K : PySem.W.Frag) (B : Hp) : List V → List T → Prop
  | nil : DnAll K B [] []
  | cons {v : V} {t : T} {vs : List V} {ts : List T} (d : Dn K B v t) (r : DnAll K B vs ts) : DnAll K B (v :: vs) (t :: ts)
inductive DnF (K : PySem.W.Frag) (B : Hp) : List (PySem.Str × V) → List (PySem.Str × T) → Prop
  | nil : DnF K B [] []
  | cons {f : PySem.Str} {v : V} {t : T} {vs : List (PySem.Str × V)} {ts : List (PySem.Str × T)} (d : Dn K B v t) (r : DnF K B vs ts) : DnF K B ((f, v) :: vs) ((f, t) :: ts)
end
section
variable {K : PySem.W.Frag} {B B' : Hp}
theorem sqT_mono {a : Addr} {xs : List V} (s : Same B B') (h : SqT K B a xs) : SqT K B' a xs := by
  rcases h with h | h
  · rcases h with h | ⟨o, h⟩
    · exact .inl (.inl (s _ _ h))
    · exact .inl (.inr ⟨o, s _ _ h⟩)
  · exact .inr h
mutual
theorem Dn.mono (s : Same B B') : ∀ {v : V} {t : T}, Dn K B v t → Dn K B' v t
  | _, _, .non => .non
  | _, _, .bl b => .bl b
  | _, _, .int i => .int i
  | _, _, .str t => .str t
  | _, _, .ty n => .ty n
  | _, _, .cls m => .cls m
  | _, _, .pin d => .pin (Dn.mono s d)
  | _, _, .lst e d => .lst (s _ _ e) (DnAll.mono s d)
  | _, _, .tup e d => .tup (sqT_mono s e) (DnAll.mono s d)
  | _, _, .obj e c d => .obj (s _ _ e) c (DnF.mono s d)
  | _, _, .far o => .far (o.mono s)
  | _, _, .wst z => .wst z
  | _, _, .dct e h => .dct (s _ _ e) h
theorem DnAll.mono (s : Same B B') : ∀ {vs : List V} {ts : List T}, DnAll K B vs ts → DnAll K B' vs ts
  | _, _, .nil => .nil
  | _, _, .cons d r => .cons (Dn.mono s d) (DnAll.mono s r)
theorem DnF.mono (s : Same B B') : ∀ {vs : List (PySem.Str × V)} {ts : List (PySem.Str × T)}, DnF K B vs ts → DnF K B' vs ts
  | _, _, .nil => .nil
  | _, _, .cons d r => .cons (Dn.mono s d) (DnF.mono s r)
end
theorem DnAll.length : ∀ {vs : List V} {ts : List T}, DnAll K B vs ts → vs.length = ts.length
  | _, _, .nil => rfl
  | _, _, .cons _ r => congrArg (· + 1) r.length
theorem DnAll.get : ∀ {vs : List V} {ts : List T} {i : Nat} {t : T}, DnAll K B vs ts → ts[i]? = some t → ∃ v, vs[i]? = some v ∧ Dn K B v t
  | _, _, 0, _, .cons d _, e => by
    cases (Option.some.inj e)
    exact ⟨_, rfl, d⟩
  | _, _, i + 1, _, .cons _ r, e => r.get (i := i) e
theorem DnAll.getV : ∀ {vs : List V} {ts : List T} {i : Nat} {v : V}, DnAll K B vs ts → vs[i]? = some v → ∃ t, ts[i]? = some t ∧ Dn K B v t
  | _, _, 0, _, .cons d _, e => by
    cases (Option.some.inj e)
    exact ⟨_, rfl, d⟩
  | _, _, i + 1, _, .cons _ r, e => r.getV (i := i) e
theorem DnAll.append : ∀ {vs us : List V} {ts ss : List T}, DnAll K B vs ts → DnAll K B us ss → DnAll K B (vs ++ us) (ts ++ ss)
  | _, _, _, _, .nil, h => h
  | _, _, _, _, .cons d r, h => .cons d (r.append h)
theorem DnAll.take : ∀ {vs : List V} {ts : List T} (n : Nat), DnAll K B vs ts → DnAll K B (vs.take n) (ts.take n)
  | _, _, 0, _ => .nil
  | _, _, _ + 1, .nil => .nil
  | _, _, n + 1, .cons d r => .cons d (r.take n)
theorem DnAll.drop : ∀ {vs : List V} {ts : List T} (n : Nat), DnAll K B vs ts → DnAll K B (vs.drop n) (ts.drop n)
  | _, _, 0, h => h
  | _, _, _ + 1, .nil => .nil
  | _, _, n + 1, .cons _ r => r.drop n
theorem DnAll.set {v : V} {t : T} (d : Dn K B v t) : ∀ {vs : List V} {ts : List T} (n : Nat), DnAll K B vs ts → DnAll K B (vs.set n v) (ts.set n t)
  | _, _, _, .nil => .nil
  | _, _, 0, .cons _ r => .cons d r
  | _, _, n + 1, .cons e r => .cons e (DnAll.set d n r)
theorem DnAll.reverse : ∀ {vs : List V} {ts : List T}, DnAll K B vs ts → DnAll K B vs.reverse ts.reverse
  | _, _, .nil => .nil
  | _, _, .cons d r => by
    rw [List.reverse_cons, List.reverse_cons]
    exact r.reverse.append (.cons d .nil)
theorem DnF.look : ∀ {vs : List (PySem.Str × V)} {ts : List (PySem.Str × T)} {f : PySem.Str} {t : T}, DnF K B vs ts → ts.lookup f = some t → ∃ v, vs.lookup f = some v ∧ Dn K B v t
  | _, _, _, _, .nil, e => nomatch e
  | _, _, f, t, .cons (f := g) (v := v) d r, e => by
    by_cases h : f = g
    · subst h
      simp [List.lookup_cons_self] at e ⊢
      subst e
      exact d
    · have hb : (f == g) = false := by simpa using h
      simp only [List.lookup, hb] at e ⊢
      exact r.look e
theorem DnF.lookN : ∀ {vs : List (PySem.Str × V)} {ts : List (PySem.Str × T)} {f : PySem.Str}, DnF K B vs ts → ts.lookup f = none → vs.lookup f = none
  | _, _, _, .nil, _ => rfl
  | _, _, f, .cons (f := g) (v := v) d r, e => by
    by_cases h : f = g
    · subst h
      simp [List.lookup_cons_self] at e
    · have hb : (f == g) = false := by simpa using h
      simp only [List.lookup, hb] at e ⊢
      exact r.lookN e
end

/-! ### worlds -/
structure Wd where
  G : Hp
  B : Hp
  ad : List Addr
  own : Addr → Option Nat
  /-- the tables of code objects -/
  T : List (Addr × PySem.Str)
/-- what is known to a world -/
def Wd.Kn (W : Wd) (a : Addr) : Prop := W.G a ≠ none ∨ W.B a ≠ none ∨ W.own a ≠ none
def plainO (u : HO) : Prop := (∀ ps, u ≠ .tbl ps) ∧ ∀ f, u ≠ .ext f
/-- the tables stand, and none of them is known -/
structure Tb (W : Wd) (H : Hp) : Prop where
  tabs : LamX.Tabs W.T H
  nt : ∀ a, W.Kn a → ∃ u, H a = some u ∧ ∀ ps, u ≠ .tbl ps
  po : ∀ a, W.own a ≠ none → ∃ u, H a = some u ∧ plainO u
theorem tabs_keep {T : List (Addr × PySem.Str)} {H H' : Hp} (h : LamX.Tabs T H) (k : ∀ a u, H a = some u → ¬ plainO u → H' a = some u) : LamX.Tabs T H' := fun p hp => by
  obtain ⟨ps, e, tr, cd⟩ := h p hp
  refine ⟨ps, k _ _ e (fun z => z.1 ps rfl), tr, fun pos cv q => ?_⟩
  obtain ⟨c, ec, eh⟩ := cd pos cv q
  exact ⟨c, ec, k _ _ eh (fun z => z.2 _ rfl)⟩
theorem Tb.grow {W W' : Wd} {H H' : Hp} (t : Tb W H) (s : Same H H') (e : W'.T = W.T) (hk : ∀ a, W'.Kn a → W.Kn a ∨ ∃ u, H' a = some u ∧ ∀ ps, u ≠ .tbl ps) (ho : ∀ a, W'.own a ≠ none → W.own a ≠ none ∨ ∃ u, H' a = some u ∧ plainO u) : Tb W' H' :=
  ⟨by rw [e]; exact tabs_keep t.tabs fun a u q _ => s _ _ q, fun a q => (hk a q).elim (fun q => let ⟨u, a1, a2⟩ := t.nt a q; ⟨u, s _ _ a1, a2⟩) id, fun a q => (ho a q).elim (fun q => let ⟨u, a1, a2⟩ := t.po a q; ⟨u, s _ _ a1, a2⟩) id⟩
theorem Tb.wd {W W' : Wd} {H : Hp} (t : Tb W H) (e : W'.T = W.T) (hk : ∀ a, W'.Kn a → W.Kn a ∨ ∃ u, H a = some u ∧ ∀ ps, u ≠ .tbl ps) (ho : ∀ a, W'.own a ≠ none → W.own a ≠ none ∨ ∃ u, H a = some u ∧ plainO u) : Tb W' H := t.grow (Same.refl _) e hk ho
theorem Tb.put {W : Wd} {H : Hp} (t : Tb W H) {p : Addr} {o : HO} (hp : ∀ u, H p = some u → plainO u) (ho : plainO o) : Tb W (upd H p o) := by
  refine ⟨tabs_keep t.tabs fun a u q n => ?_, fun a q => ?_, fun a q => ?_⟩
  · have z : a ≠ p := fun z => by
      subst z
      exact n (hp _ q)
    rw [upd_ne z]
    exact q
  · by_cases z : a = p
    · subst z
      exact ⟨o, upd_same, ho.1⟩
    · rw [upd_ne z]
      exact t.nt a q
  · by_cases z : a = p
    · subst z
      exact ⟨o, upd_same, ho⟩
    · rw [upd_ne z]
      exact t.po a q
theorem pl_lst {xs : List V} : plainO (.lst xs) := ⟨fun ps z => (by cases z), fun f z => (by cases z)⟩
theorem pl_ins {C dx : Addr} {fs : List (PySem.Str × V)} : plainO (.ins C dx fs) := ⟨fun ps z => (by cases z), fun f z => (by cases z)⟩
theorem pl_dK {kvs : List (Key × V)} : plainO (.dK kvs) := ⟨fun ps z => (by cases z), fun f z => (by cases z)⟩
theorem nt_lst {xs : List V} : ∀ ps, HO.lst xs ≠ .tbl ps := fun ps z => by cases z
structure Wd.Le (W W' : Wd) : Prop where
  g : W'.G = W.G
  b : Same W.B W'.B
  nb : ∀ a u, W'.B a = some u → W.B a = some u ∨ W.G a = none
  ad : ∀ (k : Nat) (p : Addr), W.ad[k]? = some p → W'.ad[k]? = some p
  t : W'.T = W.T
theorem Wd.Le.refl {W : Wd} : W.Le W := ⟨rfl, Same.refl _, fun _ _ h => .inl h, fun _ _ h => h, rfl⟩
theorem Wd.Le.trans {W W1 W2 : Wd} (a : W.Le W1) (b : W1.Le W2) : W.Le W2 :=
  ⟨b.g.trans a.g, a.b.trans b.b, fun x u h => (b.nb x u h).elim (fun h => a.nb x u h) fun h => .inr (by rw [← a.g]; exact h), fun k p h => b.ad k p (a.ad k p h), b.t.trans a.t⟩
/-- a value, be it a thing that may be changed -/
def Dv (K : PySem.W.Frag) (W : Wd) (v : V) : T → Prop
  | .rs k => ∃ p, W.ad[k]? = some p ∧ v = .ref p
  | t => Dn K W.B v t
theorem Dv.of {K : PySem.W.Frag} {W : Wd} {v : V} {t : T} (h : Dn K W.B v t) : Dv K W v t := by
  cases h with
  | non => exact .non
  | bl b => exact .bl b
  | int i => exact .int i
  | str t => exact .str t
  | ty n => exact .ty n
  | cls m => exact .cls m
  | pin d => exact .pin d
  | lst e d => exact .lst e d
  | tup e d => exact .tup e d
  | obj e c d => exact .obj e c d
  | far o => exact .far o
  | wst z => exact .wst z
  | dct e h => exact .dct e h
theorem Dv.dn {K : PySem.W.Frag} {W : Wd} {v : V} {t : T} (h : Dv K W v t) : (∃ k p, t = .rs k ∧ W.ad[k]? = some p ∧ v = .ref p) ∨ Dn K W.B v t := by
  cases t with
  | rs k =>
    obtain ⟨p, e, q⟩ := h
    exact .inl ⟨k, p, rfl, e, q⟩
  | _ => exact .inr h
theorem Dv.mono {K : PySem.W.Frag} {W W' : Wd} {v : V} {t : T} (l : W.Le W') (h : Dv K W v t) : Dv K W' v t := by
  rcases h.dn with ⟨k, p, rfl, e, q⟩ | h
  · exact ⟨p, l.ad _ _ e, q⟩
  · exact .of (h.mono l.b)
abbrev Rho := List (Option T)
abbrev Mu := List Res
/-- what the numbers are drawn by -/
def mKs (s : PySem.Str) (lc ll : Addr) (k : Int) : List (Key × V) := [(kC, .ref lc), (kL, .ref ll), (Sum.inr s, .int k)]
def ResOk (K : PySem.W.Frag) (W : Wd) (H : Hp) (k : Nat) (p : Addr) : Res → Prop
  | .lst l => W.own p = some k ∧ ∃ xs, H p = some (.lst xs) ∧ DnAll K W.B xs l
  | .drw s n => W.own p = some k ∧ ∃ (lc ll : Addr) (cs ls : List Int) (i : Int), W.own lc = some k ∧ W.own ll = some k ∧ lc ≠ ll ∧ H p = some (.dK (mKs s lc ll i)) ∧ H lc = some (.lst (cs.map V.int)) ∧ H ll = some (.lst (ls.map V.int)) ∧
      cs.length = 64 ∧ (∀ c ∈ cs, 0 ≤ c ∧ c < 2147483647) ∧ ls.length ≤ 63 ∧ 0 ≤ i ∧ i + n ≤ 2147483648
  | .obj C fs => W.own p = some k ∧ ∃ dx vs, W.own dx = some k ∧ H p = some (.ins C dx vs) ∧ H dx = some (.own p) ∧ DnF K W.B vs fs ∧ COk K C (fs.map (·.1))
  | .gone => True
  | .tab TT => W.T = TT
structure Ok (K : PySem.W.Frag) (W : Wd) (H : Hp) (μ : Mu) : Prop where
  sg : Same W.G H
  sb : Same W.B H
  lab : ∀ a k, W.own a = some k → W.B a = none ∧ W.G a = none ∧ H a ≠ none ∧ k < μ.length
  len : W.ad.length = μ.length
  res : ∀ (k : Nat) (r : Res), μ[k]? = some r → ∃ p, W.ad[k]? = some p ∧ ResOk K W H k p r
  tb : Tb W H
def Sl (K : PySem.W.Frag) (W : Wd) (σ : L2.St) (ρ : Rho) : Prop := σ.length = ρ.length ∧ ∀ (i : Nat) (t : T), ρ[i]? = some (some t) → ∃ v, σ[i]? = some (some v) ∧ Dv K W v t
theorem Sl.mono {K : PySem.W.Frag} {W W' : Wd} {σ : L2.St} {ρ : Rho} (l : W.Le W') (h : Sl K W σ ρ) : Sl K W' σ ρ := ⟨h.1, fun i t e => let ⟨v, a, b⟩ := h.2 i t e; ⟨v, a, b.mono l⟩⟩
theorem Sl.set {K : PySem.W.Frag} {W : Wd} {σ : L2.St} {ρ : Rho} {i : Nat} {v : V} {t : T} (h : Sl K W σ ρ) (d : Dv K W v t) : Sl K W (σ.set i (some v)) (ρ.set i (some t)) := by
  refine ⟨by rw [List.length_set, List.length_set]; exact h.1, fun j s e => ?_⟩
  by_cases z : i = j
  · subst z
    rw [List.getElem?_set] at e ⊢
    by_cases lt : i < ρ.length
    · simp only [lt, if_true, Option.some.injEq] at e
      subst e
      simp [h.1, lt]
      exact d
    · simp only [lt, if_true, if_false] at e
      cases e
  · rw [List.getElem?_set_ne z] at e ⊢
    exact h.2 j s e
theorem Sl.wipe {K : PySem.W.Frag} {W : Wd} {σ : L2.St} {ρ : Rho} {i : Nat} (h : Sl K W σ ρ) : Sl K W (σ.set i none) (ρ.set i none) := by
  refine ⟨by rw [List.length_set, List.length_set]; exact h.1, fun j s e => ?_⟩
  by_cases z : i = j
  · subst z
    rw [List.getElem?_set] at e
    by_cases lt : i < ρ.length
    · simp only [lt, if_true, Option.some.injEq] at e
      cases e
    · simp only [lt, if_true, if_false] at e
      cases e
  · rw [List.getElem?_set_ne z] at e ⊢
    exact h.2 j s e
/-- a longer base, the labels kept -/
theorem ResOk.mono {K : PySem.W.Frag} {W W' : Wd} {H H' : Hp} {k : Nat} {p : Addr} {r : Res} (eT : W'.T = W.T) (sb : Same W.B W'.B) (so : ∀ a j, W.own a = some j → W'.own a = some j) (sh : ∀ a u, W.own a = some k → H a = some u → H' a = some u) (h : ResOk K W H k p r) : ResOk K W' H' k p r := by
  cases r with
  | lst l =>
    obtain ⟨o, xs, e, d⟩ := h
    exact ⟨so _ _ o, xs, sh _ _ o e, d.mono sb⟩
  | drw s n =>
    obtain ⟨o, lc, ll, cs, ls, i, o1, o2, ne, e, e1, e2, r⟩ := h
    exact ⟨so _ _ o, lc, ll, cs, ls, i, so _ _ o1, so _ _ o2, ne, sh _ _ o e, sh _ _ o1 e1, sh _ _ o2 e2, r⟩
  | obj C fs =>
    obtain ⟨o, dx, vs, o1, e, e1, d, c⟩ := h
    exact ⟨so _ _ o, dx, vs, so _ _ o1, sh _ _ o e, sh _ _ o1 e1, d.mono sb, c⟩
  | gone => trivial
  | tab TT => exact eT.trans h
/-- frozen things come to be -/
structure Grow (W : Wd) (H : Hp) (W' : Wd) (H' : Hp) : Prop where
  g : W'.G = W.G
  ad : W'.ad = W.ad
  own : W'.own = W.own
  b : Same W.B W'.B
  h : Same H H'
  bh : Same W'.B H'
  nb : ∀ a u, W'.B a = some u → W.B a = some u ∨ H a = none
  t : W'.T = W.T
  bt : ∀ a u, W'.B a = some u → W.B a = some u ∨ ∀ ps, u ≠ .tbl ps
theorem Grow.le {K : PySem.W.Frag} {W W' : Wd} {H H' : Hp} {μ : Mu} (x : Ok K W H μ) (g : Grow W H W' H') : W.Le W' :=
  ⟨g.g, g.b, fun a u e => (g.nb a u e).imp id fun h => x.sg.free h, fun k p e => by rw [g.ad]; exact e, g.t⟩
theorem Grow.ok {K : PySem.W.Frag} {W W' : Wd} {H H' : Hp} {μ : Mu} (x : Ok K W H μ) (g : Grow W H W' H') : Ok K W' H' μ := by
  refine ⟨by rw [g.g]; exact x.sg.trans g.h, g.bh, fun a k e => ?_, by rw [g.ad]; exact x.len, fun k r e => ?_, x.tb.grow g.h g.t (fun a q => ?_) fun a q => .inl (by rw [g.own] at q; exact q)⟩
  · rw [g.own] at e
    obtain ⟨a1, a2, a3, a4⟩ := x.lab a k e
    refine ⟨?_, by rw [g.g]; exact a2, fun z => a3 (g.h.free z), a4⟩
    cases q : W'.B a with
    | none => rfl
    | some u =>
      rcases g.nb a u q with q | q
      · rw [a1] at q; cases q
      · exact absurd q a3
  · obtain ⟨p, e1, r1⟩ := x.res k r e
    exact ⟨p, by rw [g.ad]; exact e1, r1.mono g.t g.b (fun a j q => by rw [g.own]; exact q) fun a u _ q => g.h _ _ q⟩
  · rcases q with q | q | q
    · exact .inl (.inl (by rw [g.g] at q; exact q))
    · cases z : W'.B a with
      | none => exact absurd z q
      | some u =>
        rcases g.bt a u z with z2 | z2
        · exact .inl (.inr (.inl (by rw [z2]; exact fun z => by cases z)))
        · exact .inr ⟨u, g.bh _ _ z, z2⟩
    · exact .inl (.inr (.inr (by rw [g.own] at q; exact q)))
theorem Grow.refl {W : Wd} {H : Hp} (b : Same W.B H) : Grow W H W H := ⟨rfl, rfl, rfl, Same.refl _, Same.refl _, b, fun _ _ e => .inl e, rfl, fun _ _ e => .inl e⟩
theorem Grow.new {W : Wd} {H : Hp} (b : Same W.B H) {p : Addr} (o : HO) (f : H p = none) (ho : ∀ ps, o ≠ .tbl ps := by intro ps z; cases z) : Grow W H { W with B := upd W.B p o } (upd H p o) := by
  refine ⟨rfl, rfl, rfl, same_new (b.free f), same_new f, same_both b, fun a u e => ?_, rfl, fun a u e => ?_⟩
  · by_cases z : a = p
    · subst z
      exact .inr f
    · exact .inl ((upd_ne z).symm.trans e)
  · by_cases z : a = p
    · subst z
      have e : upd W.B a o a = some u := e
      rw [upd_same] at e
      cases e
      exact .inr ho
    · exact .inl ((upd_ne z).symm.trans e)
theorem Grow.side {W : Wd} {H : Hp} (b : Same W.B H) {p : Addr} (o : HO) (f : H p = none) : Grow W H W (upd H p o) := by
  exact ⟨rfl, rfl, rfl, Same.refl _, same_new f, b.trans (same_new f), fun a u e => .inl e, rfl, fun a u e => .inl e⟩
theorem Grow.trans {W W1 W2 : Wd} {H H1 H2 : Hp} (a : Grow W H W1 H1) (b : Grow W1 H1 W2 H2) : Grow W H W2 H2 :=
  ⟨b.g.trans a.g, b.ad.trans a.ad, b.own.trans a.own, a.b.trans b.b, a.h.trans b.h, b.bh, fun x u e => (b.nb x u e).elim (fun e => a.nb x u e) fun e => .inr (a.h.free e), b.t.trans a.t, fun x u e => (b.bt x u e).elim (fun e => a.bt x u e) .inr⟩
/-- a new thing that may be changed: a list -/
def Wd.put (W : Wd) (p : Addr) (k : Nat) : Wd := { W with ad := W.ad ++ [p], own := fun a => if a = p then some k else W.own a }
theorem put_own {W : Wd} {p : Addr} {k : Nat} : (W.put p k).own p = some k := if_pos rfl
theorem put_ne {W : Wd} {p a : Addr} {k : Nat} (h : a ≠ p) : (W.put p k).own a = W.own a := if_neg h
/-- a thing at p, known to none, is owned from here on -/
theorem Ok.put {K : PySem.W.Frag} {W : Wd} {H : Hp} {μ : Mu} (x : Ok K W H μ) {p : Addr} (hb : W.B p = none) (hg : W.G p = none) (ho : W.own p = none) (hh : H p ≠ none) {l : List T} {xs : List V} (e : H p = some (.lst xs)) (d : DnAll K W.B xs l) :
    Ok K (W.put p μ.length) H (μ ++ [.lst l]) ∧ W.Le (W.put p μ.length) := by
  have so : ∀ a j, W.own a = some j → (W.put p μ.length).own a = some j := fun a j q => by
    rw [put_ne (fun z => by subst z; rw [ho] at q; cases q)]
    exact q
  refine ⟨⟨x.sg, x.sb, fun a k q => ?_, by show (W.ad ++ [p]).length = _; simp [x.len], fun k r q => ?_, x.tb.wd rfl (fun a q => ?_) fun a q => ?_⟩, ⟨rfl, Same.refl _, fun _ _ h => .inl h, fun k p q => ?_, rfl⟩⟩
  · by_cases z : a = p
    · subst z
      rw [put_own] at q
      cases q
      exact ⟨hb, hg, hh, by simp⟩
    · rw [put_ne z] at q
      obtain ⟨a1, a2, a3, a4⟩ := x.lab a k q
      exact ⟨a1, a2, a3, by simp; omega⟩
  · by_cases lt : k < μ.length
    · rw [List.getElem?_append_left lt] at q
      obtain ⟨p1, e1, r1⟩ := x.res k r q
      refine ⟨p1, ?_, ResOk.mono (W := W) rfl (Same.refl _) so (fun _ _ _ q => q) r1⟩
      show (W.ad ++ [p])[k]? = _
      rw [List.getElem?_append_left (by rw [x.len]; exact lt)]
      exact e1
    · have ek : k = μ.length := by
        have := (List.getElem?_eq_some_iff.mp q).1
        simp at this
        omega
      subst ek
      simp at q
      subst q
      refine ⟨p, ?_, put_own, xs, e, d⟩
      show (W.ad ++ [p])[μ.length]? = _
      rw [← x.len]
      simp
  · rcases q with q | q | q
    · exact .inl (.inl q)
    · exact .inl (.inr (.inl q))
    · by_cases z : a = p
      · subst z
        exact .inr ⟨_, e, nt_lst⟩
      · rw [put_ne z] at q
        exact .inl (.inr (.inr q))
  · by_cases z : a = p
    · subst z
      exact .inr ⟨_, e, pl_lst⟩
    · rw [put_ne z] at q
      exact .inl q
  · show (W.ad ++ [_])[k]? = _
    rw [List.getElem?_append_left (List.getElem?_eq_some_iff.mp q).1]
    exact q
end Dl

set_option maxRecDepth 100000
set_option maxHeartbeats 4000000
namespace Dl
open PySem PySem.Spec PyProof.Rows L2 Gd

/-! ### what a reading asks of data -/
abbrev XW := Addr → List (PySem.Str × T) → Mu → Prop
abbrev DE := Rho → XW → Mu → (T → Mu → Prop) → Prop
abbrev DB := Rho → XW → Mu → (Bool → Mu → Prop) → Prop
abbrev DA := Rho → XW → Mu → (List T → Mu → Prop) → Prop
/-- what is wanted of an error, told of data -/
def XL (K : PySem.W.Frag) (W : Wd) (xw : XW) (E : XK) : Prop := ∀ {C d : Addr} {fs : List (PySem.Str × V)} {τs : List (PySem.Str × T)} {W' : Wd} {H' : Hp} {μ' : Mu}, W.Le W' → Ok K W' H' μ' → H' d = some (.xd fs) → DnF K W'.B fs τs → xw C τs μ' → E (.ref C) (some d) H'
theorem XL.mono {K : PySem.W.Frag} {W W' : Wd} {xw : XW} {E : XK} (l : W.Le W') (h : XL K W xw E) : XL K W' xw E := fun l' o e d x => h (l.trans l') o e d x
class SimE (K : PySem.W.Frag) (E : XK) (t : TE) (r : outParam DE) : Prop where
  run : ∀ {W : Wd} {H : Hp} {σ : L2.St} {ρ : Rho} {μ : Mu} {xw : XW} {Φ : T → Mu → Prop} {Q : VK}, Ok K W H μ → Sl K W σ ρ → XL K W xw E → r ρ xw μ Φ →
    (∀ {v τ W' H' μ'}, W.Le W' → Ok K W' H' μ' → Dv K W' v τ → Φ τ μ' → Q v H') → t σ H Q
class SimB (K : PySem.W.Frag) (E : XK) (t : TT) (r : outParam DB) : Prop where
  run : ∀ {W : Wd} {H : Hp} {σ : L2.St} {ρ : Rho} {μ : Mu} {xw : XW} {Φ : Bool → Mu → Prop} {Q : Bool → Hp → Prop}, Ok K W H μ → Sl K W σ ρ → XL K W xw E → r ρ xw μ Φ →
    (∀ {b W' H' μ'}, W.Le W' → Ok K W' H' μ' → Φ b μ' → Q b H') → t σ H Q
/-- several values, from the left -/
inductive DvAll (K : PySem.W.Frag) (W : Wd) : List V → List T → Prop
  | nil : DvAll K W [] []
  | cons {v : V} {t : T} {vs : List V} {ts : List T} (d : Dv K W v t) (r : DvAll K W vs ts) : DvAll K W (v :: vs) (t :: ts)
theorem DvAll.mono {K : PySem.W.Frag} {W W' : Wd} (l : W.Le W') : ∀ {vs : List V} {ts : List T}, DvAll K W vs ts → DvAll K W' vs ts
  | _, _, .nil => .nil
  | _, _, .cons d r => .cons (d.mono l) (r.mono l)
class SimA (K : PySem.W.Frag) (E : XK) (t : TA) (r : outParam DA) : Prop where
  run : ∀ {W : Wd} {H : Hp} {σ : L2.St} {ρ : Rho} {μ : Mu} {xw : XW} {Φ : List T → Mu → Prop} {Q : List V → Hp → Prop}, Ok K W H μ → Sl K W σ ρ → XL K W xw E → r ρ xw μ Φ →
    (∀ {vs τs W' H' μ'}, W.Le W' → Ok K W' H' μ' → DvAll K W' vs τs → Φ τs μ' → Q vs H') → t σ H Q

variable {K : PySem.W.Frag} {E : XK}
/-! ### names, constants -/
def rVar (i : Nat) : DE := fun ρ _ μ Φ => match ρ[i]? with
  | some (some t) => Φ t μ
  | _ => False
instance sim_var (i : Nat) : SimE K E (tVar i) (rVar i) := ⟨fun {W H σ ρ μ xw Φ Q} x s _ h q => by
  unfold rVar at h
  split at h
  · rename_i t e
    obtain ⟨v, e1, d⟩ := s.2 i t e
    exact ⟨v, e1, q Wd.Le.refl x d h⟩
  · exact h.elim⟩
def rC (t : T) : DE := fun _ _ μ Φ => Φ t μ
instance sim_int (i : Int) : SimE K E (tC (.int i)) (rC (.int i)) := ⟨fun x _ _ h q => q Wd.Le.refl x (.of (.int i)) h⟩
instance sim_bl (i : Bool) : SimE K E (tC (.bl i)) (rC (.bl i)) := ⟨fun x _ _ h q => q Wd.Le.refl x (.of (.bl i)) h⟩
instance sim_non : SimE K E (tC .non) (rC .non) := ⟨fun x _ _ h q => q Wd.Le.refl x (.of .non) h⟩
instance sim_tyc (n : String) : SimE K E (tC (.ty n)) (rC (.ty n)) := ⟨fun x _ _ h q => q Wd.Le.refl x (.of (.ty n)) h⟩
def okSb (z : PySem.Str) : Bool := z.cps.toList.all fun c => decide (c < 1114112)
theorem okSb_ok {z : PySem.Str} (h : okSb z = true) : okS z := fun c hc => by simpa using List.all_eq_true.mp h c hc
def rStr (z : PySem.Str) : DE := fun _ _ μ Φ => okSb z = true ∧ Φ (.str z) μ
instance sim_str (z : PySem.Str) : SimE K E (tC (.str z)) (rStr z) := ⟨fun x _ _ h q => q Wd.Le.refl x (.of (.str (okSb_ok h.1))) h.2⟩
/-! ### two values -/
class SimOp (K : PySem.W.Frag) (r : R2) (d : outParam (Mu → T → T → (T → Prop) → Prop)) : Prop where
  run : ∀ {W : Wd} {H : Hp} {μ : Mu} {x y : V} {tx ty : T} {Ψ : T → Prop} {Q : VK}, Ok K W H μ → Dv K W x tx → Dv K W y ty → d μ tx ty Ψ → (∀ {v τ W' H'}, Grow W H W' H' → Dv K W' v τ → Ψ τ → Q v H') → r x y H Q
def rOp (d : Mu → T → T → (T → Prop) → Prop) (ra rb : DE) : DE := fun ρ xw μ Φ => ra ρ xw μ fun a μ1 => rb ρ xw μ1 fun b μ2 => d μ2 a b fun z => Φ z μ2
instance sim_op {r : R2} {ta tb : TE} {d ra rb} [o : SimOp K r d] [a : SimE K E ta ra] [b : SimE K E tb rb] : SimE K E (tOp r ta tb) (rOp d ra rb) := ⟨fun {W H σ ρ μ xw Φ Q} x s n h q =>
  a.run x s n h fun {v τ W1 H1 μ1} l1 x1 d1 h1 => b.run x1 (s.mono l1) (n.mono l1) h1 fun {v2 τ2 W2 H2 μ2} l2 x2 d2 h2 => o.run x2 (d1.mono l2) d2 h2 fun {v3 τ3 W3 H3} g d3 h3 => q ((l1.trans l2).trans (g.le x2)) (g.ok x2) d3 h3⟩
/-- b, or not b -/
def nb : Bool → Bool → Bool
  | true, b => !b
  | false, b => b
theorem nb_if {n b : Bool} : nb n b = if n then !b else b := by cases n <;> rfl
def dI0 (f : Int → Int → T) : Mu → T → T → (T → Prop) → Prop := fun _ a b Ψ => match a, b with
  | .int i, .int j => Ψ (f i j)
  | _, _ => False
def dIC (C : Int → Int → Prop) (f : Int → Int → T) : Mu → T → T → (T → Prop) → Prop := fun _ a b Ψ => match a, b with
  | .int i, .int j => C i j ∧ Ψ (f i j)
  | _, _ => False
theorem Dv.int {W : Wd} {v : V} {i : Int} (h : Dv K W v (.int i)) : v = .int i := by
  cases (show Dn K W.B v (.int i) from h); rfl
theorem Dv.bl {W : Wd} {v : V} {i : Bool} (h : Dv K W v (.bl i)) : v = .bl i := by
  cases (show Dn K W.B v (.bl i) from h); rfl
theorem Dv.non {W : Wd} {v : V} (h : Dv K W v .non) : v = .non := by
  cases (show Dn K W.B v .non from h); rfl
theorem Dv.str {W : Wd} {v : V} {z : PySem.Str} (h : Dv K W v (.str z)) : v = .str z ∧ okS z := by
  cases (show Dn K W.B v (.str z) from h); exact ⟨rfl, by assumption⟩
theorem Dv.tyv {W : Wd} {v : V} {n : String} (h : Dv K W v (.ty n)) : v = .ty n := by
  cases (show Dn K W.B v (.ty n) from h); rfl
theorem sim_iI {g : Int → Int → V} {f : Int → Int → T} (hg : ∀ (B : Hp) i j, Dn K B (g i j) (f i j)) : SimOp K (rI0 g) (dI0 f) := ⟨fun {W H μ x y tx ty Ψ Q} o dx dy h q => by
  unfold dI0 at h
  split at h
  · cases dx.int; cases dy.int
    exact ⟨_, _, rfl, rfl, q (Grow.refl o.sb) (.of (hg _ _ _)) h⟩
  · exact h.elim⟩
theorem sim_iC {C : Int → Int → Prop} {g : Int → Int → V} {f : Int → Int → T} (hg : ∀ (B : Hp) i j, Dn K B (g i j) (f i j)) : SimOp K (rI C g) (dIC C f) := ⟨fun {W H μ x y tx ty Ψ Q} o dx dy h q => by
  unfold dIC at h
  split at h
  · cases dx.int; cases dy.int
    exact ⟨_, _, rfl, rfl, h.1, q (Grow.refl o.sb) (.of (hg _ _ _)) h.2⟩
  · exact h.elim⟩
instance sim_ii {f : Int → Int → Int} : SimOp K (rI0 fun i j => V.int (f i j)) (dI0 fun i j => .int (f i j)) := sim_iI fun _ _ _ => .int _
instance sim_ib {f : Int → Int → Bool} : SimOp K (rI0 fun i j => V.bl (f i j)) (dI0 fun i j => .bl (f i j)) := sim_iI fun _ _ _ => .bl _
instance sim_ici {C : Int → Int → Prop} {f : Int → Int → Int} : SimOp K (rI C fun i j => V.int (f i j)) (dIC C fun i j => .int (f i j)) := sim_iC fun _ _ _ => .int _
def dSS (f : PySem.Str → PySem.Str → Bool) : Mu → T → T → (T → Prop) → Prop := fun _ a b Ψ => match a, b with
  | .str i, .str j => Ψ (.bl (f i j))
  | _, _ => False
instance sim_ss {f : PySem.Str → PySem.Str → Bool} : SimOp K (fun x y H Q => ∃ i j, x = V.str i ∧ y = V.str j ∧ Q (V.bl (f i j)) H) (dSS f) := ⟨fun {W H μ x y tx ty Ψ Q} o dx dy h q => by
  unfold dSS at h
  split at h
  · cases dx.str.1; cases dy.str.1
    exact ⟨_, _, rfl, rfl, q (Grow.refl o.sb) (.of (.bl _)) h⟩
  · exact h.elim⟩
theorem okS.add {z y : PySem.Str} (h : okS z) (k : okS y) : okS (z ++ y) := fun c hc => by
  have e : (z ++ y).cps.toList = z.cps.toList ++ y.cps.toList := Array.toList_append
  rw [e] at hc
  exact (List.mem_append.mp hc).elim (h c) (k c)
def dCatS : Mu → T → T → (T → Prop) → Prop := fun _ a b Ψ => match a, b with
  | .str i, .str j => i.length + j.length ≤ 1000000 ∧ Ψ (.str (i ++ j))
  | _, _ => False
theorem line1 {n : Nat} (h : n ≤ 1000000) : n ≤ sizeLine := Nat.le_trans h (by rw [sizeLine_eq]; decide)
instance sim_cats : SimOp K (fun x y H Q => ∃ i j, x = V.str i ∧ y = V.str j ∧ i.length + j.length ≤ sizeLine ∧ Q (V.str (i ++ j)) H) dCatS := ⟨fun {W H μ x y tx ty Ψ Q} o dx dy h q => by
  unfold dCatS at h
  split at h
  · obtain ⟨rfl, a⟩ := dx.str
    obtain ⟨rfl, b⟩ := dy.str
    exact ⟨_, _, rfl, rfl, line1 h.1, q (Grow.refl o.sb) (.of (.str (a.add b))) h.2⟩
  · exact h.elim⟩
/-- a thing as it stands: a list that may be changed is told as a list -/
def seeR (μ : Mu) (k : Nat) : T := match μ[k]? with
  | some (.lst l) => .lst l
  | some (.obj C fs) => .obj C fs
  | _ => .rs k
def unp : T → T
  | .pin _ t => unp t
  | t => t
def view (μ : Mu) : T → T
  | .rs k => seeR μ k
  | t => unp t
theorem unp_dn {B : Hp} : ∀ {v : V} {t : T}, Dn K B v t → Dn K B v (unp t)
  | _, .pin a t, .pin d => unp_dn (t := t) d
  | _, .non, d => d
  | _, .bl _, d => d
  | _, .int _, d => d
  | _, .str _, d => d
  | _, .ty _, d => d
  | _, .lst _, d => d
  | _, .tup _, d => d
  | _, .cls _, d => d
  | _, .obj _ _, d => d
  | _, .far _ _, d => d
  | _, .wst _, d => d
  | _, .dct _, d => d
  | _, .rs _, d => d
theorem view_dn {W : Wd} {H : Hp} {μ : Mu} {v : V} {t s : T} (x : Ok K W H μ) (d : Dv K W v t) (e : view μ t = s) (n : ∀ k, s ≠ .rs k) : Dn K H v s := by
  rcases d.dn with ⟨k, p, rfl, e1, rfl⟩ | d
  · have e : seeR μ k = s := e
    unfold seeR at e
    split at e
    · rename_i l e2
      obtain ⟨p1, e3, r⟩ := x.res k _ e2
      rw [e1] at e3
      cases e3
      obtain ⟨_, xs, e4, d4⟩ := r
      subst e
      exact .lst e4 (d4.mono x.sb)
    · rename_i C fs e2
      obtain ⟨p1, e3, r⟩ := x.res k _ e2
      rw [e1] at e3
      cases e3
      obtain ⟨_, dx, vs, _, e4, _, d4, c⟩ := r
      subst e
      exact .obj e4 c (d4.mono x.sb)
    · exact absurd e.symm (n k)
  · cases t with
    | rs k =>
      cases d
    | _ =>
      subst e
      exact (unp_dn d).mono x.sb
/-- a list or a tuple, its items -/
def asSeq (μ : Mu) (t : T) : Option (List T) := match view μ t with
  | .lst l => some l
  | .tup l => some l
  | _ => none
theorem view_lst {W : Wd} {H : Hp} {μ : Mu} {v : V} {t : T} {l : List T} (x : Ok K W H μ) (d : Dv K W v t) (e : view μ t = .lst l) : ∃ p xs, v = .ref p ∧ H p = some (.lst xs) ∧ DnAll K W.B xs l := by
  rcases d.dn with ⟨k, p, rfl, e1, rfl⟩ | d
  · have e : seeR μ k = .lst l := e
    unfold seeR at e
    split at e
    · rename_i l2 e2
      obtain ⟨p1, e3, r⟩ := x.res k _ e2
      rw [e1] at e3
      cases e3
      obtain ⟨_, xs, e4, d4⟩ := r
      cases e
      exact ⟨_, _, rfl, e4, d4⟩
    · cases e
    · cases e
  · have e : unp t = .lst l := by cases t <;> first | exact e | cases d
    have d := unp_dn d
    rw [e] at d
    cases d with
    | lst e d => exact ⟨_, _, rfl, x.sb _ _ e, d⟩
theorem view_tup {W : Wd} {H : Hp} {μ : Mu} {v : V} {t : T} {l : List T} (x : Ok K W H μ) (d : Dv K W v t) (e : view μ t = .tup l) : ∃ p xs, v = .ref p ∧ SqT K H p xs ∧ DnAll K W.B xs l := by
  rcases d.dn with ⟨k, p, rfl, e1, rfl⟩ | d
  · have e : seeR μ k = .tup l := e
    unfold seeR at e
    split at e <;> cases e
  · have e : unp t = .tup l := by cases t <;> first | exact e | cases d
    have d := unp_dn d
    rw [e] at d
    cases d with
    | tup e d => exact ⟨_, _, rfl, sqT_mono x.sb e, d⟩
theorem seq_is {W : Wd} {H : Hp} {μ : Mu} {v : V} {t : T} {l : List T} (x : Ok K W H μ) (d : Dv K W v t) (e : asSeq μ t = some l) : ∃ p xs, v = .ref p ∧ (SqL K H p xs ∨ SqT K H p xs) ∧ DnAll K W.B xs l := by
  unfold asSeq at e
  split at e
  · rename_i l2 e2
    cases e
    obtain ⟨p, xs, a, b, c⟩ := view_lst x d e2
    exact ⟨p, xs, a, .inl (SqL.of b), c⟩
  · rename_i l2 e2
    cases e
    obtain ⟨p, xs, a, b, c⟩ := view_tup x d e2
    exact ⟨p, xs, a, .inr b, c⟩
  · cases e
/-! scalars -/
def T.sc : T → Option V
  | .non => some .non
  | .bl b => some (.bl b)
  | .int i => some (.int i)
  | .str z => some (.str z)
  | .wst z => some (.str z)
  | _ => none
theorem Dv.wst {W : Wd} {v : V} {z : PySem.Str} (h : Dv K W v (.wst z)) : v = .str z := by
  cases (show Dn K W.B v (.wst z) from h); rfl
theorem Dv.sc {W : Wd} {v w : V} {t : T} (h : Dv K W v t) (e : t.sc = some w) : v = w := by
  cases t with
  | non => cases e; exact h.non
  | bl b => cases e; exact h.bl
  | int i => cases e; exact h.int
  | str z => cases e; exact h.str.1
  | wst z => cases e; exact h.wst
  | _ => cases e
theorem Dn.sc {B : Hp} {v w : V} {t : T} (h : Dn K B v t) (e : t.sc = some w) : v = w := by
  cases h <;> cases e <;> rfl
def dEq (neg : Bool) : Mu → T → T → (T → Prop) → Prop := fun _ a b Ψ => match a, b with
  | .int i, .int j => Ψ (.bl (nb neg (decide (i = j))))
  | .str i, .str j => Ψ (.bl (nb neg (decide (i = j))))
  | a, b => match a.sc, b.sc with
    | some x, some y => scal x y = true ∧ Ψ (.bl (nb neg (decide (x = y))))
    | _, _ => False
theorem vint_eq {i j : Int} : decide (V.int i = V.int j) = decide (i = j) := by
  by_cases h : i = j
  · rw [h]; simp
  · simp [h]
theorem vstr_eq {i j : PySem.Str} : decide (V.str i = V.str j) = decide (i = j) := by
  by_cases h : i = j
  · rw [h]; simp
  · simp [h]
instance sim_eq : SimOp K rEq (dEq false) := ⟨fun {W H μ x y tx ty Ψ Q} o dx dy h q => by
  unfold dEq at h
  split at h
  · cases dx.int; cases dy.int
    exact ⟨rfl, by rw [vint_eq]; exact q (Grow.refl o.sb) (.of (.bl _)) h⟩
  · cases dx.str.1; cases dy.str.1
    exact ⟨rfl, by rw [vstr_eq]; exact q (Grow.refl o.sb) (.of (.bl _)) h⟩
  · split at h
    · rename_i e1 e2
      cases dx.sc e1; cases dy.sc e2
      exact ⟨h.1, q (Grow.refl o.sb) (.of (.bl _)) h.2⟩
    · exact h.elim⟩
instance sim_ne : SimOp K rNe (dEq true) := ⟨fun {W H μ x y tx ty Ψ Q} o dx dy h q => by
  unfold dEq at h
  split at h
  · cases dx.int; cases dy.int
    exact ⟨rfl, by rw [vint_eq]; exact q (Grow.refl o.sb) (.of (.bl _)) h⟩
  · cases dx.str.1; cases dy.str.1
    exact ⟨rfl, by rw [vstr_eq]; exact q (Grow.refl o.sb) (.of (.bl _)) h⟩
  · split at h
    · rename_i e1 e2
      cases dx.sc e1; cases dy.sc e2
      exact ⟨h.1, q (Grow.refl o.sb) (.of (.bl _)) h.2⟩
    · exact h.elim⟩
def T.isN : T → Bool
  | .non => true
  | _ => false
theorem Dv.isN {W : Wd} {v : V} {t : T} (h : Dv K W v t) : decide (v = .non) = t.isN := by
  rcases h.dn with ⟨k, p, rfl, e1, rfl⟩ | h
  · rfl
  · cases h <;> rfl
def dN (neg : Bool) : Mu → T → T → (T → Prop) → Prop := fun _ a b Ψ => b.isN = true ∧ Ψ (.bl (nb neg (a.isN)))
theorem isN_is {W : Wd} {v : V} {t : T} (h : Dv K W v t) (e : t.isN = true) : v = .non := by
  rw [← h.isN] at e
  simpa using e
instance sim_isN : SimOp K (fun x y H Q => y = V.non ∧ Q (V.bl (decide (x = V.non))) H) (dN false) := ⟨fun {W H μ x y tx ty Ψ Q} o dx dy h q =>
  ⟨isN_is dy h.1, by rw [dx.isN]; exact q (Grow.refl o.sb) (.of (.bl _)) h.2⟩⟩
instance sim_notN : SimOp K (fun x y H Q => y = V.non ∧ Q (V.bl (!decide (x = V.non))) H) (dN true) := ⟨fun {W H μ x y tx ty Ψ Q} o dx dy h q =>
  ⟨isN_is dy h.1, by rw [dx.isN]; exact q (Grow.refl o.sb) (.of (.bl _)) h.2⟩⟩
def dTy (neg : Bool) : Mu → T → T → (T → Prop) → Prop := fun _ a b Ψ => match a, b with
  | .ty m, .ty n => Ψ (.bl (nb neg (decide (m = n))))
  | _, _ => False
instance sim_isTy : SimOp K (fun x y H Q => ∃ a b, x = V.ty a ∧ y = V.ty b ∧ Q (V.bl (decide (a = b))) H) (dTy false) := ⟨fun {W H μ x y tx ty Ψ Q} o dx dy h q => by
  unfold dTy at h
  split at h
  · cases dx.tyv; cases dy.tyv
    exact ⟨_, _, rfl, rfl, q (Grow.refl o.sb) (.of (.bl _)) h⟩
  · exact h.elim⟩
instance sim_notTy : SimOp K rNT (dTy true) := ⟨fun {W H μ x y tx ty Ψ Q} o dx dy h q => by
  unfold dTy at h
  split at h
  · cases dx.tyv; cases dy.tyv
    exact ⟨_, _, rfl, rfl, q (Grow.refl o.sb) (.of (.bl _)) h⟩
  · exact h.elim⟩
def T.tys : List T → Option (List String)
  | [] => some []
  | .ty n :: r => (T.tys r).map (n :: ·)
  | _ :: _ => none
theorem tys_is {B : Hp} : ∀ {xs : List V} {l : List T} {ns : List String}, DnAll K B xs l → T.tys l = some ns → xs = ns.map V.ty
  | _, _, _, .nil, e => by cases e; rfl
  | _, _, _, .cons (t := t) d r, e => by
    cases t with
    | ty n =>
      simp only [T.tys, Option.map_eq_some_iff] at e
      obtain ⟨ms, e1, rfl⟩ := e
      cases d
      rw [tys_is r e1]
      rfl
    | _ => cases e
def dInT (neg : Bool) : Mu → T → T → (T → Prop) → Prop := fun _ a b Ψ => match a, b with
  | .ty m, .tup l => ∃ ns, T.tys l = some ns ∧ OfTy m ∧ (∀ n ∈ ns, OfTy n) ∧ Ψ (.bl (nb neg (decide (m ∈ ns))))
  | _, _ => False
instance sim_inT {neg : Bool} : SimOp K (rInT K neg) (dInT neg) := ⟨fun {W H μ x y tx ty Ψ Q} o dx dy h q => by
  unfold dInT at h
  split at h
  · obtain ⟨ns, e, o1, o2, h⟩ := h
    cases dx.tyv
    obtain ⟨p, xs, rfl, sq, da⟩ := view_tup o dy (show view μ (.tup _) = .tup _ from rfl)
    rw [tys_is da e] at sq
    rw [nb_if] at h
    exact ⟨_, p, ns, rfl, rfl, sq, o1, o2, q (Grow.refl o.sb) (.of (.bl _)) h⟩
  · exact h.elim⟩
def T.scs : List T → Option (List V)
  | [] => some []
  | t :: r => t.sc.bind fun v => (T.scs r).map (v :: ·)
theorem scs_is {B : Hp} : ∀ {xs : List V} {l : List T} {ns : List V}, DnAll K B xs l → T.scs l = some ns → xs = ns
  | _, _, _, .nil, e => by cases e; rfl
  | _, _, _, .cons (t := t) d r, e => by
    simp only [T.scs, Option.bind_eq_some_iff, Option.map_eq_some_iff] at e
    obtain ⟨v, e0, ms, e1, rfl⟩ := e
    rw [d.sc e0, scs_is r e1]
theorem sc_flat {t : T} {v : V} (e : t.sc = some v) : flatV v = true := by
  cases t <;> cases e <;> rfl
theorem scs_flat : ∀ {l : List T} {ns : List V}, T.scs l = some ns → ns.all flatV = true
  | [], _, e => by cases e; rfl
  | t :: r, _, e => by
    simp only [T.scs, Option.bind_eq_some_iff, Option.map_eq_some_iff] at e
    obtain ⟨v, e0, ms, e1, rfl⟩ := e
    rw [List.all_cons, sc_flat e0, scs_flat e1]
    rfl
def dIn (neg : Bool) : Mu → T → T → (T → Prop) → Prop := fun μ a b Ψ => ∃ x l ys, a.sc = some x ∧ asSeq μ b = some l ∧ T.scs l = some ys ∧ Ψ (.bl (nb neg (inV x ys)))
instance sim_in {neg : Bool} : SimOp K (rIn K neg) (dIn neg) := ⟨fun {W H μ x y tx ty Ψ Q} o dx dy h q => by
  obtain ⟨v, l, ys, e1, e2, e3, h⟩ := h
  cases dx.sc e1
  obtain ⟨p, xs, rfl, sq, da⟩ := seq_is o dy e2
  cases scs_is da e3
  rw [nb_if] at h
  exact ⟨p, _, rfl, sq, sc_flat e1, scs_flat e3, q (Grow.refl o.sb) (.of (.bl _)) h⟩⟩
def dInS (neg : Bool) : Mu → T → T → (T → Prop) → Prop := fun _ a b Ψ => match a, b with
  | .str x, .str z => ∃ c, x = ⟨#[c]⟩ ∧ Ψ (.bl (nb neg (decide (c ∈ z.cps.toList))))
  | _, _ => False
instance sim_inS : SimOp K (fun x y H Q => ∃ (c : Nat) (z : PySem.Str), x = V.str ⟨#[c]⟩ ∧ y = V.str z ∧ Q (V.bl (decide (c ∈ z.cps.toList))) H) (dInS false) := ⟨fun {W H μ x y tx ty Ψ Q} o dx dy h q => by
  unfold dInS at h
  split at h
  · obtain ⟨c, rfl, h⟩ := h
    cases dx.str.1; cases dy.str.1
    exact ⟨_, _, rfl, rfl, q (Grow.refl o.sb) (.of (.bl _)) h⟩
  · exact h.elim⟩
/-! ### places -/
def dIx : Mu → T → T → (T → Prop) → Prop := fun μ a b Ψ => match b with
  | .int i => ∃ l t, asSeq μ a = some l ∧ atI l i = some t ∧ Ψ t
  | _ => False
theorem atI_get {α : Type} {l : List α} {i : Int} {t : α} (e : atI l i = some t) : ∃ j : Nat, ixN l.length i = some j ∧ l[j]? = some t := Option.bind_eq_some_iff.mp e
theorem DnAll.at_ {B : Hp} {xs : List V} {l : List T} {i : Int} {t : T} (d : DnAll K B xs l) (e : atI l i = some t) : ∃ v, atI xs i = some v ∧ Dn K B v t := by
  obtain ⟨j, e1, e2⟩ := atI_get e
  obtain ⟨v, e3, dv⟩ := d.get e2
  exact ⟨v, by unfold atI; rw [DnAll.length d, e1]; exact e3, dv⟩
def dIxL : Mu → T → T → (T → Prop) → Prop := fun μ a b Ψ => match b with
  | .int i => ∃ l t, view μ a = .lst l ∧ atI l i = some t ∧ Ψ t
  | _ => False
instance sim_ixL : SimOp K (rIxL K) dIxL := ⟨fun {W H μ x y tx ty Ψ Q} o dx dy h q => by
  unfold dIxL at h
  split at h
  · obtain ⟨l, t, e1, e2, h⟩ := h
    cases dy.int
    obtain ⟨p, xs, rfl, sq, da⟩ := view_lst o dx e1
    obtain ⟨v, e3, dv⟩ := da.at_ e2
    exact ⟨p, xs, _, v, rfl, rfl, SqL.of sq, e3, q (Grow.refl o.sb) (.of dv) h⟩
  · exact h.elim⟩
def dIxT : Mu → T → T → (T → Prop) → Prop := fun μ a b Ψ => match b with
  | .int i => ∃ l t, view μ a = .tup l ∧ atI l i = some t ∧ Ψ t
  | _ => False
instance sim_ixT : SimOp K (rIxT K) dIxT := ⟨fun {W H μ x y tx ty Ψ Q} o dx dy h q => by
  unfold dIxT at h
  split at h
  · obtain ⟨l, t, e1, e2, h⟩ := h
    cases dy.int
    obtain ⟨p, xs, rfl, sq, da⟩ := view_tup o dx e1
    obtain ⟨v, e3, dv⟩ := da.at_ e2
    exact ⟨p, xs, _, v, rfl, rfl, sq, e3, q (Grow.refl o.sb) (.of dv) h⟩
  · exact h.elim⟩
def dIxS : Mu → T → T → (T → Prop) → Prop := fun μ a b Ψ => match a, b with
  | .str z, .int i => z.length ≤ 1000000 ∧ ∃ c, atI z.cps.toList i = some c ∧ Ψ (.str ⟨#[c]⟩)
  | _, _ => False
theorem okS.at_ {z : PySem.Str} {i : Int} {c : Nat} (h : okS z) (e : atI z.cps.toList i = some c) : okS ⟨#[c]⟩ := fun d hd => by
  have : d = c := by simpa using hd
  rw [this]
  exact h c (atI_mem e)
instance sim_ixS : SimOp K rIxS dIxS := ⟨fun {W H μ x y tx ty Ψ Q} o dx dy h q => by
  unfold dIxS at h
  split at h
  · obtain ⟨z, c, e, h⟩ := h
    obtain ⟨rfl, k⟩ := dx.str
    cases dy.int
    exact ⟨_, _, c, rfl, rfl, line1 z, e, q (Grow.refl o.sb) (.of (.str (k.at_ e))) h⟩
  · exact h.elim⟩
/-! ### lists, tuples, one behind the other: a new one -/
theorem new_lst {W : Wd} {H : Hp} {μ : Mu} {p : Addr} {xs : List V} {l : List T} (o : Ok K W H μ) (f : H p = none) (d : DnAll K W.B xs l) : ∃ W', Grow W H W' (upd H p (.lst xs)) ∧ Dn K W'.B (.ref p) (.lst l) :=
  ⟨_, Grow.new o.sb _ f, .lst upd_same (d.mono (same_new (o.sb.free f)))⟩
theorem new_tup {W : Wd} {H : Hp} {μ : Mu} {p : Addr} {xs : List V} {l : List T} (o : Ok K W H μ) (f : H p = none) (d : DnAll K W.B xs l) : ∃ W', Grow W H W' (upd H p (.tup xs)) ∧ Dn K W'.B (.ref p) (.tup l) :=
  ⟨_, Grow.new o.sb _ f, .tup (SqT.of upd_same) (d.mono (same_new (o.sb.free f)))⟩
def dCat : Mu → T → T → (T → Prop) → Prop := fun μ a b Ψ => ∃ l m, view μ a = .lst l ∧ view μ b = .lst m ∧ l.length + m.length ≤ 1000000 ∧ Ψ (.lst (l ++ m))
instance sim_cat : SimOp K rCat dCat := ⟨fun {W H μ x y tx ty Ψ Q} o dx dy h q => by
  obtain ⟨l, m, e1, e2, z, h⟩ := h
  obtain ⟨p, xs, rfl, s1, d1⟩ := view_lst o dx e1
  obtain ⟨p2, ys, rfl, s2, d2⟩ := view_lst o dy e2
  refine ⟨p, p2, xs, ys, rfl, rfl, s1, s2, by rw [d1.length, d2.length]; exact line1 z, fun p3 f => ?_⟩
  obtain ⟨W', g, d⟩ := new_lst o f (d1.append d2)
  exact q g (.of d) h⟩
end Dl

set_option maxRecDepth 100000
set_option maxHeartbeats 4000000
namespace Dl
open PySem PySem.Spec PyProof.Rows L2 Gd
variable {K : PySem.W.Frag} {E : XK}
/-! ### truths -/
def rTest (r : DE) : DB := fun ρ xw μ Φ => r ρ xw μ fun t μ' => match t with
  | .bl b => Φ b μ'
  | _ => False
theorem sim_test {t : TE} {r} [a : SimE K E t r] {W : Wd} {H : Hp} {σ : L2.St} {ρ : Rho} {μ : Mu} {xw : XW} {Φ : Bool → Mu → Prop} {Q : Bool → Hp → Prop} (x : Ok K W H μ) (s : Sl K W σ ρ) (n : XL K W xw E) (h : rTest r ρ xw μ Φ)
    (q : ∀ {b W' H' μ'}, W.Le W' → Ok K W' H' μ' → Φ b μ' → Q b H') : t σ H fun y H' => ∃ k, y = .bl k ∧ Q k H' :=
  a.run x s n h fun {v τ W1 H1 μ1} l1 x1 d1 h1 => by
    cases τ with
    | bl b => exact ⟨b, d1.bl, q l1 x1 h1⟩
    | _ => exact h1.elim
instance sim_tTest {t : TE} {r} [a : SimE K E t r] : SimB K E (tTest t) (rTest r) := ⟨fun x s n h q => sim_test x s n h q⟩
instance sim_tB {t : TE} {r} [a : SimE K E t r] : SimB K E (tB t) (rTest r) := ⟨fun x s n h q => sim_test x s n h q⟩
def rAnd (r u : DB) : DB := fun ρ xw μ Φ => r ρ xw μ fun b μ' => if b = true then u ρ xw μ' Φ else Φ false μ'
def rOr (r u : DB) : DB := fun ρ xw μ Φ => r ρ xw μ fun b μ' => if b = true then Φ true μ' else u ρ xw μ' Φ
def rNot (r : DB) : DB := fun ρ xw μ Φ => r ρ xw μ fun b μ' => Φ (!b) μ'
instance sim_and {t u : TT} {r r'} [a : SimB K E t r] [b : SimB K E u r'] : SimB K E (tAnd t u) (rAnd r r') := ⟨fun x s n h q => a.run x s n h fun {b1 W1 H1 μ1} l1 x1 h1 => by
  cases b1 with
  | true => exact iteT (b.run x1 (s.mono l1) (n.mono l1) h1 fun l2 x2 h2 => q (l1.trans l2) x2 h2)
  | false => exact iteF (q l1 x1 h1)⟩
instance sim_or {t u : TT} {r r'} [a : SimB K E t r] [b : SimB K E u r'] : SimB K E (tOr t u) (rOr r r') := ⟨fun x s n h q => a.run x s n h fun {b1 W1 H1 μ1} l1 x1 h1 => by
  cases b1 with
  | false => exact iteF (b.run x1 (s.mono l1) (n.mono l1) h1 fun l2 x2 h2 => q (l1.trans l2) x2 h2)
  | true => exact iteT (q l1 x1 h1)⟩
instance sim_not {t : TT} {r} [a : SimB K E t r] : SimB K E (tNot t) (rNot r) := ⟨fun x s n h q => a.run x s n h fun l1 x1 h1 => q l1 x1 h1⟩
def rAndV (r u : DE) : DE := fun ρ xw μ Φ => r ρ xw μ fun t μ' => match t with
  | .bl b => if b = true then u ρ xw μ' Φ else Φ (.bl false) μ'
  | _ => False
def rOrV (r u : DE) : DE := fun ρ xw μ Φ => r ρ xw μ fun t μ' => match t with
  | .bl b => if b = true then Φ (.bl true) μ' else u ρ xw μ' Φ
  | _ => False
def rNotV (r : DE) : DE := fun ρ xw μ Φ => r ρ xw μ fun t μ' => match t with
  | .bl b => Φ (.bl !b) μ'
  | _ => False
instance sim_andV {t u : TE} {r r'} [a : SimE K E t r] [b : SimE K E u r'] : SimE K E (tAndV t u) (rAndV r r') := ⟨fun x s n h q => a.run x s n h fun {v τ W1 H1 μ1} l1 x1 d1 h1 => by
  cases τ with
  | bl b1 =>
    refine ⟨b1, d1.bl, ?_⟩
    cases b1 with
    | true => exact iteT (b.run x1 (s.mono l1) (n.mono l1) h1 fun l2 x2 d2 h2 => q (l1.trans l2) x2 d2 h2)
    | false => exact iteF (q l1 x1 (.of (.bl _)) h1)
  | _ => exact h1.elim⟩
instance sim_orV {t u : TE} {r r'} [a : SimE K E t r] [b : SimE K E u r'] : SimE K E (tOrV t u) (rOrV r r') := ⟨fun x s n h q => a.run x s n h fun {v τ W1 H1 μ1} l1 x1 d1 h1 => by
  cases τ with
  | bl b1 =>
    refine ⟨b1, d1.bl, ?_⟩
    cases b1 with
    | false => exact iteF (b.run x1 (s.mono l1) (n.mono l1) h1 fun l2 x2 d2 h2 => q (l1.trans l2) x2 d2 h2)
    | true => exact iteT (q l1 x1 (.of (.bl _)) h1)
  | _ => exact h1.elim⟩
instance sim_notV {t : TE} {r} [a : SimE K E t r] : SimE K E (tNotV t) (rNotV r) := ⟨fun x s n h q => a.run x s n h fun {v τ W1 H1 μ1} l1 x1 d1 h1 => by
  cases τ with
  | bl b1 => exact ⟨b1, d1.bl, q l1 x1 (.of (.bl _)) h1⟩
  | _ => exact h1.elim⟩
def rIf (c : DB) (r u : DE) : DE := fun ρ xw μ Φ => c ρ xw μ fun b μ' => if b = true then r ρ xw μ' Φ else u ρ xw μ' Φ
instance sim_if {c : TT} {t u : TE} {rc r r'} [cc : SimB K E c rc] [a : SimE K E t r] [b : SimE K E u r'] : SimE K E (tIf c t u) (rIf rc r r') := ⟨fun x s n h q => cc.run x s n h fun {b1 W1 H1 μ1} l1 x1 h1 => by
  cases b1 with
  | true => exact iteT (a.run x1 (s.mono l1) (n.mono l1) h1 fun l2 x2 d2 h2 => q (l1.trans l2) x2 d2 h2)
  | false => exact iteF (b.run x1 (s.mono l1) (n.mono l1) h1 fun l2 x2 d2 h2 => q (l1.trans l2) x2 d2 h2)⟩
def rChain (d d' : Mu → T → T → (T → Prop) → Prop) (ra rb rc : DE) : DE := fun ρ xw μ Φ => ra ρ xw μ fun a μ1 => rb ρ xw μ1 fun b μ2 => d μ2 a b fun z => match z with
  | .bl k => if k = true then rc ρ xw μ2 fun c μ3 => d' μ3 b c fun z => Φ z μ3 else Φ (.bl false) μ2
  | _ => False
instance sim_chain {r r' : R2} {ta tb tc : TE} {d d' ra rb rc} [o : SimOp K r d] [o' : SimOp K r' d'] [a : SimE K E ta ra] [b : SimE K E tb rb] [c : SimE K E tc rc] : SimE K E (tChain r r' ta tb tc) (rChain d d' ra rb rc) := ⟨fun {W H σ ρ μ xw Φ Q} x s n h q =>
  a.run x s n h fun {v τ W1 H1 μ1} l1 x1 d1 h1 => b.run x1 (s.mono l1) (n.mono l1) h1 fun {v2 τ2 W2 H2 μ2} l2 x2 d2 h2 => o.run x2 (d1.mono l2) d2 h2 fun {v3 τ3 W3 H3} g d3 h3 => by
    have l3 := (l1.trans l2).trans (g.le x2)
    cases τ3 with
    | bl k =>
      refine ⟨k, d3.bl, ?_⟩
      cases k with
      | true => exact iteT (c.run (g.ok x2) (s.mono l3) (n.mono l3) h3 fun {v4 τ4 W4 H4 μ4} l4 x4 d4 h4 => o'.run x4 ((d2.mono (g.le x2)).mono l4) d4 h4 fun g5 d5 h5 => q ((l3.trans l4).trans (g5.le x4)) (g5.ok x4) d5 h5)
      | false => exact iteF (q l3 (g.ok x2) (.of (.bl _)) h3)
    | _ => exact h3.elim⟩
/-- what a value's truth is -/
def T.tru (μ : Mu) (t : T) : Option Bool := match view μ t with
  | .bl b => some b
  | .int i => some (i != 0)
  | .str z => some ((z.length : Int) != 0)
  | .lst l => some !l.isEmpty
  | .tup l => some !l.isEmpty
  | .non => some false
  | _ => none
/-! ### arguments -/
def rNil : DA := fun _ _ μ Φ => Φ [] μ
def rCons (r : DE) (ra : DA) : DA := fun ρ xw μ Φ => r ρ xw μ fun t μ1 => ra ρ xw μ1 fun ts μ2 => Φ (t :: ts) μ2
instance sim_nil : SimA K E tNil rNil := ⟨fun x _ _ h q => q Wd.Le.refl x .nil h⟩
instance sim_cons {t : TE} {ta : TA} {r ra} [a : SimE K E t r] [b : SimA K E ta ra] : SimA K E (tCons t ta) (rCons r ra) := ⟨fun x s n h q =>
  a.run x s n h fun l1 x1 d1 h1 => b.run x1 (s.mono l1) (n.mono l1) h1 fun l2 x2 d2 h2 => q (l1.trans l2) x2 (.cons (d1.mono l2) d2) h2⟩
/-- data alone -/
def T.flat : T → Bool
  | .rs _ => false
  | _ => true
def flats : List T → Bool
  | [] => true
  | t :: r => t.flat && flats r
theorem flat_dn {W : Wd} {v : V} {t : T} (d : Dv K W v t) (h : t.flat = true) : Dn K W.B v t := by
  cases t with
  | rs k => cases h
  | _ => exact d
theorem flats_dn {W : Wd} : ∀ {vs : List V} {ts : List T}, DvAll K W vs ts → flats ts = true → DnAll K W.B vs ts
  | _, _, .nil, _ => .nil
  | _, _, .cons d r, h => by
    simp only [flats, Bool.and_eq_true] at h
    exact .cons (flat_dn d h.1) (flats_dn r h.2)
/-! ### displays -/
def rTup (ra : DA) : DE := fun ρ xw μ Φ => ra ρ xw μ fun ts μ' => flats ts = true ∧ ts.length ≤ 1000000 ∧ Φ (.tup ts) μ'
instance sim_tup {ta : TA} {ra} [a : SimA K E ta ra] : SimE K E (tTup ta) (rTup ra) := ⟨fun x s n h q => a.run x s n h fun {vs τs W1 H1 μ1} l1 x1 d1 h1 => by
  have dn := flats_dn d1 h1.1
  refine ⟨by rw [dn.length]; exact line1 h1.2.1, fun p f => ?_⟩
  obtain ⟨W', g, d⟩ := new_tup x1 f dn
  exact q (l1.trans (g.le x1)) (g.ok x1) (.of d) h1.2.2⟩
/-- a list that is new: known to none -/
structure Fr (K : PySem.W.Frag) (W : Wd) (H : Hp) (p : Addr) (xs : List V) (l : List T) : Prop where
  b : W.B p = none
  g : W.G p = none
  o : W.own p = none
  h : H p = some (.lst xs)
  d : DnAll K W.B xs l
theorem Fr.froz {W : Wd} {H : Hp} {μ : Mu} {p : Addr} {xs : List V} {l : List T} (x : Ok K W H μ) (f : Fr K W H p xs l) : ∃ W', W.Le W' ∧ Ok K W' H μ ∧ Dn K W'.B (.ref p) (.lst l) := by
  have sB : Same W.B (upd W.B p (.lst xs)) := same_new f.b
  refine ⟨{ W with B := upd W.B p (.lst xs) }, ⟨rfl, sB, fun a u e => ?_, fun _ _ e => e, rfl⟩, ⟨x.sg, fun a u e => ?_, fun a k e => ?_, x.len, fun k r e => ?_, x.tb.wd rfl (fun a q => ?_) fun a q => .inl q⟩, .lst upd_same (f.d.mono sB)⟩
  · by_cases z : a = p
    · subst z
      exact .inr f.g
    · exact .inl ((upd_ne z).symm.trans e)
  · by_cases z : a = p
    · subst z
      have e : upd W.B a (.lst xs) a = some u := e
      rw [upd_same] at e
      cases e
      exact f.h
    · exact x.sb _ _ ((upd_ne z).symm.trans e)
  · obtain ⟨a1, a2, a3, a4⟩ := x.lab a k e
    refine ⟨?_, a2, a3, a4⟩
    have z : a ≠ p := fun z => by
      subst z
      rw [show W.own a = none from f.o] at e
      cases e
    exact (upd_ne z).trans a1
  · obtain ⟨p1, e1, r1⟩ := x.res k r e
    exact ⟨p1, e1, ResOk.mono (W := W) rfl sB (fun _ _ q => q) (fun _ _ _ q => q) r1⟩
  · rcases q with q | q | q
    · exact .inl (.inl q)
    · by_cases z : a = p
      · subst z
        exact .inr ⟨_, f.h, nt_lst⟩
      · exact .inl (.inr (.inl (by rw [← upd_ne (H := W.B) (o := .lst xs) z]; exact q)))
    · exact .inl (.inr (.inr q))
theorem Fr.keep {W : Wd} {H : Hp} {μ : Mu} {p : Addr} {xs : List V} {l : List T} (x : Ok K W H μ) (f : Fr K W H p xs l) : ∃ W', W.Le W' ∧ Ok K W' H (μ ++ [.lst l]) ∧ Dv K W' (.ref p) (.rs μ.length) := by
  obtain ⟨a, b⟩ := x.put f.b f.g f.o (by rw [f.h]; exact fun z => by cases z) f.h f.d
  refine ⟨_, b, a, p, ?_, rfl⟩
  show (W.ad ++ [p])[μ.length]? = _
  rw [← x.len]
  simp
/-- just laid -/
theorem Fr.new {W : Wd} {H : Hp} {μ : Mu} {p : Addr} {xs : List V} {l : List T} (x : Ok K W H μ) (f : H p = none) (d : DnAll K W.B xs l) : Ok K W (upd H p (.lst xs)) μ ∧ Fr K W (upd H p (.lst xs)) p xs l := by
  refine ⟨(Grow.side x.sb _ f).ok x, x.sb.free f, x.sg.free f, ?_, upd_same, d⟩
  cases e : W.own p with
  | none => rfl
  | some k => exact absurd f (x.lab p k e).2.2.1
abbrev DL := Rho → XW → Mu → (List T → Mu → Prop) → Prop
class SimL (K : PySem.W.Frag) (E : XK) (t : TE) (r : outParam DL) : Prop where
  run : ∀ {W : Wd} {H : Hp} {σ : L2.St} {ρ : Rho} {μ : Mu} {xw : XW} {Φ : List T → Mu → Prop} {Q : VK}, Ok K W H μ → Sl K W σ ρ → XL K W xw E → r ρ xw μ Φ →
    (∀ {p xs l W' H' μ'}, W.Le W' → Ok K W' H' μ' → Fr K W' H' p xs l → Φ l μ' → Q (.ref p) H') → t σ H Q
def rFroz (r : DL) : DE := fun ρ xw μ Φ => r ρ xw μ fun l μ' => Φ (.lst l) μ'
instance (priority := 50) sim_froz {t : TE} {r} [a : SimL K E t r] : SimE K E t (rFroz r) := ⟨fun x s n h q => a.run x s n h fun l1 x1 f h1 => by
  obtain ⟨W', l2, x2, d⟩ := f.froz x1
  exact q (l1.trans l2) x2 (.of d) h1⟩
/-- the list may be changed later -/
def tKeep (t : TE) : TE := t
def rKeep (r : DL) : DE := fun ρ xw μ Φ => r ρ xw μ fun l μ' => Φ (.rs μ'.length) (μ' ++ [.lst l])
instance sim_keep {t : TE} {r} [a : SimL K E t r] : SimE K E (tKeep t) (rKeep r) := ⟨fun x s n h q => a.run (t := t) x s n h fun l1 x1 f h1 => by
  obtain ⟨W', l2, x2, d⟩ := f.keep x1
  exact q (l1.trans l2) x2 d h1⟩
theorem pe_keep {X : Cx} {e : Expr} {t : TE} (h : PE X e t) : PE X e (tKeep t) := h
def rLst (ra : DA) : DL := fun ρ xw μ Φ => ra ρ xw μ fun ts μ' => flats ts = true ∧ ts.length ≤ 1000000 ∧ Φ ts μ'
instance sim_lst {ta : TA} {ra} [a : SimA K E ta ra] : SimL K E (tLst ta) (rLst ra) := ⟨fun x s n h q => a.run x s n h fun {vs τs W1 H1 μ1} l1 x1 d1 h1 => by
  have dn := flats_dn d1 h1.1
  refine ⟨by rw [dn.length]; exact line1 h1.2.1, fun p f => ?_⟩
  obtain ⟨x2, fr⟩ := Fr.new x1 f dn
  exact q l1 x2 fr h1.2.2⟩
/-- a + b of lists, kept -/
class SimOpL (K : PySem.W.Frag) (r : R2) (d : outParam (Mu → T → T → (List T → Prop) → Prop)) : Prop where
  run : ∀ {W : Wd} {H : Hp} {μ : Mu} {x y : V} {tx ty : T} {Ψ : List T → Prop} {Q : VK}, Ok K W H μ → Dv K W x tx → Dv K W y ty → d μ tx ty Ψ → (∀ {p xs l H'}, Ok K W H' μ → Fr K W H' p xs l → Ψ l → Q (.ref p) H') → r x y H Q
def rOpL (d : Mu → T → T → (List T → Prop) → Prop) (ra rb : DE) : DL := fun ρ xw μ Φ => ra ρ xw μ fun a μ1 => rb ρ xw μ1 fun b μ2 => d μ2 a b fun z => Φ z μ2
instance sim_opL {r : R2} {ta tb : TE} {d ra rb} [o : SimOpL K r d] [a : SimE K E ta ra] [b : SimE K E tb rb] : SimL K E (tOp r ta tb) (rOpL d ra rb) := ⟨fun {W H σ ρ μ xw Φ Q} x s n h q =>
  a.run x s n h fun {v τ W1 H1 μ1} l1 x1 d1 h1 => b.run x1 (s.mono l1) (n.mono l1) h1 fun {v2 τ2 W2 H2 μ2} l2 x2 d2 h2 => o.run x2 (d1.mono l2) d2 h2 fun x3 f h3 => q (l1.trans l2) x3 f h3⟩
def dCatL : Mu → T → T → (List T → Prop) → Prop := fun μ a b Ψ => ∃ l m, view μ a = .lst l ∧ view μ b = .lst m ∧ l.length + m.length ≤ 1000000 ∧ Ψ (l ++ m)
instance sim_catL : SimOpL K rCat dCatL := ⟨fun {W H μ x y tx ty Ψ Q} o dx dy h q => by
  obtain ⟨l, m, e1, e2, z, h⟩ := h
  obtain ⟨p, xs, rfl, s1, d1⟩ := view_lst o dx e1
  obtain ⟨p2, ys, rfl, s2, d2⟩ := view_lst o dy e2
  refine ⟨p, p2, xs, ys, rfl, rfl, s1, s2, by rw [d1.length, d2.length]; exact line1 z, fun p3 f => ?_⟩
  obtain ⟨x2, fr⟩ := Fr.new o f (d1.append d2)
  exact q x2 fr h⟩
/-! ### slices -/
abbrev DO := Rho → XW → Mu → (Option Int → Mu → Prop) → Prop
class SimO (K : PySem.W.Frag) (E : XK) (t : TO) (r : outParam DO) : Prop where
  run : ∀ {W : Wd} {H : Hp} {σ : L2.St} {ρ : Rho} {μ : Mu} {xw : XW} {Φ : Option Int → Mu → Prop} {Q : Option Int → Hp → Prop}, Ok K W H μ → Sl K W σ ρ → XL K W xw E → r ρ xw μ Φ →
    (∀ {o W' H' μ'}, W.Le W' → Ok K W' H' μ' → Φ o μ' → Q o H') → t σ H Q
def rNoPart : DO := fun _ _ μ Φ => Φ none μ
def rPart (r : DE) : DO := fun ρ xw μ Φ => r ρ xw μ fun t μ' => match t with
  | .int i => Φ (some i) μ'
  | _ => False
instance sim_noPart : SimO K E tNoPart rNoPart := ⟨fun x _ _ h q => q Wd.Le.refl x h⟩
instance sim_part {t : TE} {r} [a : SimE K E t r] : SimO K E (tPart t) (rPart r) := ⟨fun x s n h q => a.run x s n h fun {v τ W1 H1 μ1} l1 x1 d1 h1 => by
  cases τ with
  | int i => exact ⟨i, d1.int, q l1 x1 h1⟩
  | _ => exact h1.elim⟩
def cutT {α : Type} (xs : List α) (lo hi : Option Int) : List α := (xs.drop (HT.sIx xs.length 0 lo)).take (HT.sIx xs.length xs.length hi - HT.sIx xs.length 0 lo)
theorem DnAll.cut {B : Hp} {xs : List V} {l : List T} (d : DnAll K B xs l) (lo hi : Option Int) : DnAll K B (cutV xs lo hi) (cutT l lo hi) := by
  unfold cutV cutT
  rw [d.length]
  exact (d.drop _).take _
def rSlcL (r : DE) (rl rh : DO) : DL := fun ρ xw μ Φ => r ρ xw μ fun t μ1 => rl ρ xw μ1 fun lo μ2 => rh ρ xw μ2 fun hi μ3 => ∃ l, view μ3 t = .lst l ∧ Φ (cutT l lo hi) μ3
instance sim_slL {t : TE} {tl th : TO} {r rl rh} [a : SimE K E t r] [b : SimO K E tl rl] [c : SimO K E th rh] : SimL K E (tSl (rSlL K) t tl th) (rSlcL r rl rh) := ⟨fun x s n h q => a.run x s n h fun l1 x1 d1 h1 => b.run x1 (s.mono l1) (n.mono l1) h1 fun l2 x2 h2 =>
  c.run x2 (s.mono (l1.trans l2)) (n.mono (l1.trans l2)) h2 fun l3 x3 h3 => by
    obtain ⟨l, e, h3⟩ := h3
    obtain ⟨p, xs, rfl, s1, da⟩ := view_lst x3 ((d1.mono l2).mono l3) e
    refine ⟨p, xs, rfl, SqL.of s1, fun p2 f => ?_⟩
    obtain ⟨x4, fr⟩ := Fr.new x3 f (da.cut _ _)
    exact q ((l1.trans l2).trans l3) x4 fr h3⟩
theorem view_tup_dn {W : Wd} {μ : Mu} {v : V} {t : T} {l : List T} (d : Dv K W v t) (e : view μ t = .tup l) : Dn K W.B v (.tup l) := by
  rcases d.dn with ⟨k, p, rfl, e1, rfl⟩ | d
  · have e : seeR μ k = .tup l := e
    unfold seeR at e
    split at e <;> cases e
  · have e : unp t = .tup l := by cases t <;> first | exact e | cases d
    have d := unp_dn d
    rw [e] at d
    exact d
theorem view_tup_eq {t : T} {l : List T} (e : t = .tup l) : t = .tup l := e
def rSlcT (r : DE) (rl rh : DO) : DE := fun ρ xw μ Φ => r ρ xw μ fun t μ1 => rl ρ xw μ1 fun lo μ2 => rh ρ xw μ2 fun hi μ3 => ∃ l, t = .tup l ∧ Φ (.tup (cutT l lo hi)) μ3
theorem cut_whole {α : Type} {l : List α} {lo hi : Option Int} (h : HT.sIx l.length 0 lo = 0 ∧ HT.sIx l.length l.length hi = l.length) : cutT l lo hi = l := by
  unfold cutT
  rw [h.1, h.2, List.drop_zero, Nat.sub_zero, List.take_length]
instance sim_slT {t : TE} {tl th : TO} {r rl rh} [a : SimE K E t r] [b : SimO K E tl rl] [c : SimO K E th rh] : SimE K E (tSl (rSlA K) t tl th) (rSlcT r rl rh) := ⟨fun x s n h q => a.run x s n h fun l1 x1 d1 h1 => b.run x1 (s.mono l1) (n.mono l1) h1 fun l2 x2 h2 =>
  c.run x2 (s.mono (l1.trans l2)) (n.mono (l1.trans l2)) h2 fun {hi W3 H3 μ3} l3 x3 h3 => by
    obtain ⟨l, e, h3⟩ := h3
    obtain ⟨p, xs, rfl, s1, da⟩ := view_tup x3 ((d1.mono l2).mono l3) (show view μ3 _ = .tup l by rw [e]; rfl)
    refine ⟨p, xs, rfl, s1, fun w => ?_, fun w p2 f => ?_⟩
    · rw [da.length] at w
      rw [cut_whole w] at h3
      have dn := (d1.mono l2).mono l3
      rw [view_tup_eq e] at dn
      exact q ((l1.trans l2).trans l3) x3 dn h3
    · obtain ⟨W', g, d⟩ := new_tup x3 f (da.cut _ _)
      exact q (((l1.trans l2).trans l3).trans (g.le x3)) (g.ok x3) (.of d) h3⟩
def rSlcS (r : DE) (rl rh : DO) : DE := fun ρ xw μ Φ => r ρ xw μ fun t μ1 => rl ρ xw μ1 fun lo μ2 => rh ρ xw μ2 fun hi μ3 => match t with
  | .str z => z.length ≤ 1000000 ∧ Φ (.str (cutS z lo hi)) μ3
  | _ => False
theorem okS.cut {z : PySem.Str} (h : okS z) (lo hi : Option Int) : okS (cutS z lo hi) := fun c hc => by
  have e : (cutS z lo hi).cps.toList = (z.cps.toList.drop (HT.sIx z.length 0 lo)).take (HT.sIx z.length z.length hi - HT.sIx z.length 0 lo) := by
    show (List.toArray _).toList = _
    rw [List.toList_toArray]
  rw [e] at hc
  exact h c (List.mem_of_mem_drop (List.mem_of_mem_take hc))
instance sim_slS {t : TE} {tl th : TO} {r rl rh} [a : SimE K E t r] [b : SimO K E tl rl] [c : SimO K E th rh] : SimE K E (tSl rSlS t tl th) (rSlcS r rl rh) := ⟨fun x s n h q => a.run x s n h fun {v τ W1 H1 μ1} l1 x1 d1 h1 => b.run x1 (s.mono l1) (n.mono l1) h1 fun l2 x2 h2 =>
  c.run x2 (s.mono (l1.trans l2)) (n.mono (l1.trans l2)) h2 fun {hi W3 H3 μ3} l3 x3 h3 => by
    cases τ with
    | str z => exact ⟨z, d1.str.1, line1 h3.1, q ((l1.trans l2).trans l3) x3 (.of (.str (d1.str.2.cut _ _))) h3.2⟩
    | _ => exact h3.elim⟩
/-! ### fields -/
def rFld (r : DE) (f : PySem.Str) : DE := fun ρ xw μ Φ => r ρ xw μ fun t μ' => match view μ' t with
  | .obj _ fs => match fs.lookup f with
    | some s => Φ s μ'
    | none => False
  | _ => False
theorem lookup_mem {fs : List (PySem.Str × T)} {f : PySem.Str} {s : T} (e : fs.lookup f = some s) : f ∈ fs.map (·.1) := by
  induction fs with
  | nil => cases e
  | cons a l ih =>
    by_cases h : f = a.1
    · simp [h]
    · have hb : (f == a.1) = false := by simpa using h
      simp only [List.lookup, hb] at e
      simp only [List.map_cons, List.mem_cons]
      exact .inr (ih e)
/-- an object as it stands -/
theorem view_obj {W : Wd} {H : Hp} {μ : Mu} {v : V} {t : T} {C : Addr} {fs : List (PySem.Str × T)} (x : Ok K W H μ) (d : Dv K W v t) (e : view μ t = .obj C fs) : ∃ p dx vs, v = .ref p ∧ H p = some (.ins C dx vs) ∧ DnF K W.B vs fs ∧ COk K C (fs.map (·.1)) := by
  rcases d.dn with ⟨k, p, rfl, e1, rfl⟩ | d
  · have e : seeR μ k = .obj C fs := e
    unfold seeR at e
    split at e
    · cases e
    · rename_i C2 fs2 e2
      obtain ⟨p1, e3, r⟩ := x.res k _ e2
      rw [e1] at e3
      cases e3
      obtain ⟨_, dx, vs, _, e4, _, d4, c⟩ := r
      cases e
      exact ⟨_, _, _, rfl, e4, d4, c⟩
    · cases e
  · have e : unp t = .obj C fs := by cases t <;> first | exact e | cases d
    have d := unp_dn d
    rw [e] at d
    cases d with
    | obj e c d => exact ⟨_, _, _, rfl, x.sb _ _ e, d, c⟩
instance sim_fld {t : TE} {r} {f : PySem.Str} [a : SimE K E t r] : SimE K E (tFld K t f) (rFld r f) := ⟨fun x s n h q => a.run x s n h fun {v τ W1 H1 μ1} l1 x1 d1 h1 => by
  split at h1
  · rename_i C fs e
    split at h1
    · rename_i s2 e2
      obtain ⟨p, dx, vs, rfl, e3, d3, c⟩ := view_obj x1 d1 e
      obtain ⟨v2, e4, d4⟩ := d3.look e2
      exact ⟨p, C, dx, vs, v2, rfl, e3, c.cl, c.no _ (lookup_mem e2), e4, q l1 x1 (.of d4) h1⟩
    · exact h1.elim
  · exact h1.elim⟩
end Dl

set_option maxRecDepth 100000
set_option maxHeartbeats 4000000
namespace Dl
open PySem PySem.Spec PyProof.Rows L2 Gd
variable {K : PySem.W.Frag} {E : XK}
/-! ### built-in functions -/
class SimC (K : PySem.W.Frag) (r : List V → Hp → VK → Prop) (d : outParam (Mu → List T → (T → Prop) → Prop)) : Prop where
  run : ∀ {W : Wd} {H : Hp} {μ : Mu} {vs : List V} {ts : List T} {Ψ : T → Prop} {Q : VK}, Ok K W H μ → DvAll K W vs ts → d μ ts Ψ → (∀ {v τ W' H'}, Grow W H W' H' → Dv K W' v τ → Ψ τ → Q v H') → r vs H Q
def rCB (d : Mu → List T → (T → Prop) → Prop) (ra : DA) : DE := fun ρ xw μ Φ => ra ρ xw μ fun ts μ' => d μ' ts fun z => Φ z μ'
instance sim_cb {r : List V → Hp → VK → Prop} {t : TA} {d ra} [o : SimC K r d] [a : SimA K E t ra] : SimE K E (tCB r t) (rCB d ra) := ⟨fun x s n h q => a.run x s n h fun l1 x1 d1 h1 => o.run x1 d1 h1 fun g d2 h2 => q (l1.trans (g.le x1)) (g.ok x1) d2 h2⟩
def d1 (f : Mu → T → (T → Prop) → Prop) : Mu → List T → (T → Prop) → Prop := fun μ ts Ψ => match ts with
  | [t] => f μ t Ψ
  | _ => False
theorem one_dv {W : Wd} {vs : List V} {t : T} (d : DvAll K W vs [t]) : ∃ v, vs = [v] ∧ Dv K W v t := by
  cases d with
  | cons a b => cases b; exact ⟨_, rfl, a⟩
theorem two_dv {W : Wd} {vs : List V} {t u : T} (d : DvAll K W vs [t, u]) : ∃ v w, vs = [v, w] ∧ Dv K W v t ∧ Dv K W w u := by
  cases d with
  | cons a b => cases b with
    | cons c e => cases e; exact ⟨_, _, rfl, a, c⟩
theorem sim_1 {r : List V → Hp → VK → Prop} {f : Mu → T → (T → Prop) → Prop} (h : ∀ {W : Wd} {H : Hp} {μ : Mu} {v : V} {t : T} {Ψ : T → Prop} {Q : VK}, Ok K W H μ → Dv K W v t → f μ t Ψ → (∀ {v τ W' H'}, Grow W H W' H' → Dv K W' v τ → Ψ τ → Q v H') → r [v] H Q) : SimC K r (d1 f) := ⟨fun {W H μ vs ts Ψ Q} x d e q => by
  unfold d1 at e
  split at e
  · obtain ⟨v, rfl, dv⟩ := one_dv d
    exact h x dv e q
  · exact e.elim⟩
def fLenS : Mu → T → (T → Prop) → Prop := fun _ t Ψ => match t with
  | .str z => z.length ≤ 1000000 ∧ Ψ (.int z.length)
  | _ => False
instance sim_lenS : SimC K (fun xs H Q => ∃ z, xs = [V.str z] ∧ z.length ≤ sizeLine ∧ Q (V.int z.length) H) (d1 fLenS) := sim_1 fun {W H μ v t Ψ Q} x d e q => by
  cases t with
  | str z => exact ⟨z, by rw [d.str.1], line1 e.1, q (Grow.refl x.sb) (.of (.int _)) e.2⟩
  | _ => exact e.elim
def fLenQ : Mu → T → (T → Prop) → Prop := fun μ t Ψ => match view μ t with
  | .lst l => Ψ (.int l.length)
  | .tup l => Ψ (.int l.length)
  | _ => False
theorem sim_lenq : SimC K (fun xs H Q => ∃ p ys, xs = [V.ref p] ∧ (SqL K H p ys ∨ SqT K H p ys) ∧ Q (V.int (ys.length : Nat)) H) (d1 fLenQ) := sim_1 fun {W H μ v t Ψ Q} x d e q => by
  unfold fLenQ at e
  split at e
  · rename_i l e1
    obtain ⟨p, xs, rfl, s, da⟩ := view_lst x d e1
    exact ⟨p, xs, rfl, .inl (SqL.of s), q (Grow.refl x.sb) (.of (.int _)) (by rw [da.length]; exact e)⟩
  · rename_i l e1
    obtain ⟨p, xs, rfl, s, da⟩ := view_tup x d e1
    exact ⟨p, xs, rfl, .inr s, q (Grow.refl x.sb) (.of (.int _)) (by rw [da.length]; exact e)⟩
  · exact e.elim
instance sim_lenQ : SimC K (fun xs H Q => ∃ p ys, xs = [V.ref p] ∧ (SqL K H p ys ∨ SqT K H p ys) ∧ Q (V.int (ys.length : Nat)) H) (d1 fLenQ) := sim_lenq
instance sim_lenK : SimC K (rLenK K) (d1 fLenQ) := sim_lenq
/-- of which built-in type -/
def T.tyn : T → Option String
  | .non => some "NoneType"
  | .bl _ => some "bool"
  | .int _ => some "int"
  | .str _ => some "str"
  | .lst _ => some "list"
  | .tup _ => some "tuple"
  | .far _ n => some n
  | _ => none
theorem Dn.tyB {H : Hp} {v : V} {t : T} {n : String} (d : Dn K H v t) (e : t.tyn = some n) : TyB K H v n := by
  cases d with
  | non => cases e; exact .non
  | bl b => cases e; exact .bl b
  | int i => cases e; exact .int i
  | str t => cases e; exact .str _
  | lst a b => cases e; exact .lst (SqL.of a)
  | tup a b => cases e; exact .tup a
  | far o => cases e; exact o.ty
  | _ => cases e
def fTyp : Mu → T → (T → Prop) → Prop := fun μ t Ψ => match (view μ t).tyn with
  | some n => Ψ (.ty n)
  | none => False
theorem tyn_rs {t : T} {n : String} (e : t.tyn = some n) : ∀ k, t ≠ .rs k := fun k z => by
  subst z
  cases e
instance sim_typ : SimC K (rTyp K) (d1 fTyp) := sim_1 fun {W H μ v t Ψ Q} x d e q => by
  unfold fTyp at e
  split at e
  · rename_i n e1
    exact ⟨v, n, rfl, (view_dn x d rfl (tyn_rs e1)).tyB e1, q (Grow.refl x.sb) (.of (.ty _)) e⟩
  · exact e.elim
def T.bls : List T → Option (List Bool)
  | [] => some []
  | .bl b :: r => (T.bls r).map (b :: ·)
  | _ :: _ => none
theorem bls_is {B : Hp} : ∀ {xs : List V} {l : List T} {ns : List Bool}, DnAll K B xs l → T.bls l = some ns → xs = ns.map V.bl
  | _, _, _, .nil, e => by cases e; rfl
  | _, _, _, .cons (t := t) d r, e => by
    cases t with
    | bl n =>
      simp only [T.bls, Option.map_eq_some_iff] at e
      obtain ⟨ms, e1, rfl⟩ := e
      cases d
      rw [bls_is r e1]
      rfl
    | _ => cases e
theorem bls_map (bs : List Bool) : T.bls (bs.map T.bl) = some bs := by
  induction bs with
  | nil => rfl
  | cons b r ih => simp [T.bls, ih]
def fAll (all : Bool) : Mu → T → (T → Prop) → Prop := fun μ t Ψ => ∃ l bs, view μ t = .lst l ∧ T.bls l = some bs ∧ Ψ (.bl (match all with | true => bs.all id | false => bs.any id))
instance sim_all : SimC K (rAll K) (d1 (fAll true)) := sim_1 fun {W H μ v t Ψ Q} x d e q => by
  obtain ⟨l, bs, e1, e2, e⟩ := e
  obtain ⟨p, xs, rfl, s, da⟩ := view_lst x d e1
  rw [bls_is da e2] at s
  exact ⟨p, bs, rfl, SqL.of s, q (Grow.refl x.sb) (.of (.bl _)) e⟩
instance sim_any : SimC K (rAny K) (d1 (fAll false)) := sim_1 fun {W H μ v t Ψ Q} x d e q => by
  obtain ⟨l, bs, e1, e2, e⟩ := e
  obtain ⟨p, xs, rfl, s, da⟩ := view_lst x d e1
  rw [bls_is da e2] at s
  exact ⟨p, bs, rfl, SqL.of s, q (Grow.refl x.sb) (.of (.bl _)) e⟩
def T.ints : List T → Option (List Int)
  | [] => some []
  | .int b :: r => (T.ints r).map (b :: ·)
  | _ :: _ => none
theorem ints_is {B : Hp} : ∀ {xs : List V} {l : List T} {ns : List Int}, DnAll K B xs l → T.ints l = some ns → xs = ns.map V.int
  | _, _, _, .nil, e => by cases e; rfl
  | _, _, _, .cons (t := t) d r, e => by
    cases t with
    | int n =>
      simp only [T.ints, Option.map_eq_some_iff] at e
      obtain ⟨ms, e1, rfl⟩ := e
      cases d
      rw [ints_is r e1]
      rfl
    | _ => cases e
theorem ints_map (bs : List Int) : T.ints (bs.map T.int) = some bs := by
  induction bs with
  | nil => rfl
  | cons b r ih => simp [T.ints, ih]
def fSum : Mu → T → (T → Prop) → Prop := fun μ t Ψ => ∃ l bs, view μ t = .lst l ∧ T.ints l = some bs ∧ Ψ (.int bs.sum)
instance sim_sum : SimC K (rSum K) (d1 fSum) := sim_1 fun {W H μ v t Ψ Q} x d e q => by
  obtain ⟨l, bs, e1, e2, e⟩ := e
  obtain ⟨p, xs, rfl, s, da⟩ := view_lst x d e1
  rw [ints_is da e2] at s
  exact ⟨p, bs, rfl, SqL.of s, q (Grow.refl x.sb) (.of (.int _)) e⟩
def fStrI : Mu → T → (T → Prop) → Prop := fun _ t Ψ => match t with
  | .int i => 0 ≤ i ∧ i.natAbs.log2 < 1920 ∧ Ψ (.str (toString i))
  | _ => False
theorem okS_int {i : Int} (h : 0 ≤ i) : okS (PySem.Str.ofString (toString i)) := by
  obtain ⟨n, rfl⟩ := Int.eq_ofNat_of_zero_le h
  intro c hc
  have e : (PySem.Str.ofString (toString (n : Int))).cps.toList = TL.numL n := TL.tl_num n
  rw [e] at hc
  have := TL.numL_digits n c hc
  omega
instance sim_strI : SimC K (fun xs H Q => ∃ i, xs = [V.int i] ∧ i.natAbs.log2 < 1920 ∧ Q (V.str (toString i)) H) (d1 fStrI) := sim_1 fun {W H μ v t Ψ Q} x d e q => by
  cases t with
  | int i => exact ⟨i, by rw [d.int], e.2.1, q (Grow.refl x.sb) (.of (.str (okS_int e.1))) e.2.2⟩
  | _ => exact e.elim
def dII (f : Int → Int → Int) : Mu → List T → (T → Prop) → Prop := fun _ ts Ψ => match ts with
  | [.int i, .int j] => Ψ (.int (f i j))
  | _ => False
instance sim_cII {f : Int → Int → Int} : SimC K (fun xs H Q => ∃ i j, xs = [V.int i, V.int j] ∧ Q (V.int (f i j)) H) (dII f) := ⟨fun {W H μ vs ts Ψ Q} x d e q => by
  unfold dII at e
  split at e
  · obtain ⟨v, w, rfl, a, b⟩ := two_dv d
    exact ⟨_, _, by rw [a.int, b.int], q (Grow.refl x.sb) (.of (.int _)) e⟩
  · exact e.elim⟩
/-- tuple(x) -/
def fTupOf : Mu → T → (T → Prop) → Prop := fun μ t Ψ => match view μ t with
  | .lst l => Ψ (.tup l)
  | .tup l => Ψ (.tup l)
  | _ => False
instance sim_tupOf : SimC K (fun xs H Q => ∃ p ys, xs = [V.ref p] ∧ ((SqL K H p ys ∧ ∀ l, H l = none → Q (V.ref l) (upd H l (.tup ys))) ∨ (SqT K H p ys ∧ Q (V.ref p) H))) (d1 fTupOf) := sim_1 fun {W H μ v t Ψ Q} x d e q => by
  unfold fTupOf at e
  split at e
  · rename_i l e1
    obtain ⟨p, xs, rfl, s, da⟩ := view_lst x d e1
    refine ⟨p, xs, rfl, .inl ⟨SqL.of s, fun p2 f => ?_⟩⟩
    obtain ⟨W', g, d2⟩ := new_tup x f da
    exact q g (.of d2) e
  · rename_i l e1
    obtain ⟨p, xs, rfl, s, da⟩ := view_tup x d e1
    exact ⟨p, xs, rfl, .inr ⟨s, q (Grow.refl x.sb) (.of (view_tup_dn d e1)) e⟩⟩
  · exact e.elim
/-- .. a new list -/
class SimCL (K : PySem.W.Frag) (r : List V → Hp → VK → Prop) (d : outParam (Mu → List T → (List T → Prop) → Prop)) : Prop where
  run : ∀ {W : Wd} {H : Hp} {μ : Mu} {vs : List V} {ts : List T} {Ψ : List T → Prop} {Q : VK}, Ok K W H μ → DvAll K W vs ts → d μ ts Ψ → (∀ {p xs l H'}, Ok K W H' μ → Fr K W H' p xs l → Ψ l → Q (.ref p) H') → r vs H Q
def rCBL (d : Mu → List T → (List T → Prop) → Prop) (ra : DA) : DL := fun ρ xw μ Φ => ra ρ xw μ fun ts μ' => d μ' ts fun z => Φ z μ'
instance sim_cbL {r : List V → Hp → VK → Prop} {t : TA} {d ra} [o : SimCL K r d] [a : SimA K E t ra] : SimL K E (tCB r t) (rCBL d ra) := ⟨fun x s n h q => a.run x s n h fun l1 x1 d1 h1 => o.run x1 d1 h1 fun x2 f h2 => q l1 x2 f h2⟩
def dListOf : Mu → List T → (List T → Prop) → Prop := fun μ ts Ψ => match ts with
  | [t] => match view μ t with
    | .lst l => Ψ l
    | .tup l => Ψ l
    | _ => False
  | _ => False
instance sim_listOf : SimCL K (fun xs H Q => ∃ p ys, xs = [V.ref p] ∧ (SqL K H p ys ∨ SqT K H p ys) ∧ ∀ l, H l = none → Q (V.ref l) (upd H l (.lst ys))) dListOf := ⟨fun {W H μ vs ts Ψ Q} x d e q => by
  unfold dListOf at e
  split at e
  · obtain ⟨v, rfl, dv⟩ := one_dv d
    split at e
    · rename_i l e1
      obtain ⟨p, xs, rfl, s, da⟩ := view_lst x dv e1
      refine ⟨p, xs, rfl, .inl (SqL.of s), fun p2 f => ?_⟩
      obtain ⟨x2, fr⟩ := Fr.new x f da
      exact q x2 fr e
    · rename_i l e1
      obtain ⟨p, xs, rfl, s, da⟩ := view_tup x dv e1
      refine ⟨p, xs, rfl, .inr s, fun p2 f => ?_⟩
      obtain ⟨x2, fr⟩ := Fr.new x f da
      exact q x2 fr e
    · exact e.elim
  · exact e.elim⟩
/-! ### plain data: ==, repr -/
mutual
def T.pd : T → Option PyData
  | .non => some .none
  | .bl b => some (.bool b)
  | .int i => some (.int i)
  | .str z => some (.str z)
  | .lst l => (T.pds l).map .list
  | .tup l => (T.pds l).map .tuple
  | _ => none
def T.pds : List T → Option (List PyData)
  | [] => some []
  | t :: r => (T.pd t).bind fun d => (T.pds r).map (d :: ·)
end
mutual
theorem pd_dp {H : Hp} : ∀ {t : T} {v : V} {d : PyData}, Dn K H v t → t.pd = some d → Dp K H v d
  | .non, _, _, .non, e => by simp only [T.pd] at e; cases e; exact .non
  | .bl b, _, _, .bl _, e => by simp only [T.pd] at e; cases e; exact .bl b
  | .int b, _, _, .int _, e => by simp only [T.pd] at e; cases e; exact .int b
  | .str b, _, _, .str _, e => by simp only [T.pd] at e; cases e; exact .str b
  | .lst l, _, _, .lst s a, e => by
    simp only [T.pd, Option.map_eq_some_iff] at e
    obtain ⟨ds, e1, rfl⟩ := e
    exact .lst (SqL.of s) (pds_dp a e1)
  | .tup l, _, _, .tup s a, e => by
    simp only [T.pd, Option.map_eq_some_iff] at e
    obtain ⟨ds, e1, rfl⟩ := e
    exact .tup s (pds_dp a e1)
theorem pds_dp {H : Hp} : ∀ {ts : List T} {vs : List V} {ds : List PyData}, DnAll K H vs ts → T.pds ts = some ds → DpAll K H vs ds
  | [], _, _, .nil, e => by simp only [T.pds] at e; cases e; exact .nil
  | t :: r, _, _, .cons a b, e => by
    simp only [T.pds, Option.bind_eq_some_iff, Option.map_eq_some_iff] at e
    obtain ⟨d, e0, ms, e1, rfl⟩ := e
    exact .cons (pd_dp a e0) (pds_dp b e1)
end
mutual
theorem pd_lay {H : Hp} : ∀ {t : T} {v : V} {d : PyData}, Dn K H v t → t.pd = some d → d.canLay0 = true
  | .non, _, _, .non, e => by simp only [T.pd] at e; cases e; simp [PyData.canLay0]
  | .bl b, _, _, .bl _, e => by simp only [T.pd] at e; cases e; simp [PyData.canLay0]
  | .int b, _, _, .int _, e => by simp only [T.pd] at e; cases e; simp [PyData.canLay0]
  | .str b, _, _, .str o, e => by
    simp only [T.pd] at e
    cases e
    simp only [PyData.canLay0]
    unfold PyData.strOk
    rw [← Array.all_toList, List.all_eq_true]
    exact fun c hc => decide_eq_true (o c hc)
  | .lst l, _, _, .lst s a, e => by
    simp only [T.pd, Option.map_eq_some_iff] at e
    obtain ⟨ds, e1, rfl⟩ := e
    simp only [PyData.canLay0]
    exact pds_lay a e1
  | .tup l, _, _, .tup s a, e => by
    simp only [T.pd, Option.map_eq_some_iff] at e
    obtain ⟨ds, e1, rfl⟩ := e
    simp only [PyData.canLay0]
    exact pds_lay a e1
theorem pds_lay {H : Hp} : ∀ {ts : List T} {vs : List V} {ds : List PyData}, DnAll K H vs ts → T.pds ts = some ds → PyData.canLayAll0 ds = true
  | [], _, _, .nil, e => by simp only [T.pds] at e; cases e; simp [PyData.canLayAll0]
  | t :: r, _, _, .cons a b, e => by
    simp only [T.pds, Option.bind_eq_some_iff, Option.map_eq_some_iff] at e
    obtain ⟨d, e0, ms, e1, rfl⟩ := e
    simp only [PyData.canLayAll0, pd_lay a e0, pds_lay b e1, Bool.and_self]
end
theorem pd_rs {t : T} {d : PyData} (e : t.pd = some d) : ∀ k, t ≠ .rs k := fun k z => by
  subst z
  simp only [T.pd] at e
  cases e
theorem shaped_of {d : PyData} (h : d.canLay0 = true) (k : d.depth ≤ 64) : SeqAt.shaped d = true := by
  simp [SeqAt.shaped, h, k]
def dEqD (neg : Bool) : Mu → T → T → (T → Prop) → Prop := fun μ a b Ψ => ∃ d e, (view μ a).pd = some d ∧ (view μ b).pd = some e ∧ d.depth ≤ 64 ∧ e.depth ≤ 64 ∧ Ψ (.bl (nb neg (PyData.eqv d e)))
instance sim_eqD : SimOp K (rEqD K) (dEqD false) := ⟨fun {W H μ x y tx ty Ψ Q} o dx dy h q => by
  obtain ⟨d, e, e1, e2, k1, k2, h⟩ := h
  have a := view_dn o dx rfl (pd_rs e1)
  have b := view_dn o dy rfl (pd_rs e2)
  exact ⟨d, e, pd_dp a e1, pd_dp b e2, shaped_of (pd_lay a e1) k1, shaped_of (pd_lay b e2) k2, q (Grow.refl o.sb) (.of (.bl _)) h⟩⟩
instance sim_neD : SimOp K (rNeD K) (dEqD true) := ⟨fun {W H μ x y tx ty Ψ Q} o dx dy h q => by
  obtain ⟨d, e, e1, e2, k1, k2, h⟩ := h
  have a := view_dn o dx rfl (pd_rs e1)
  have b := view_dn o dy rfl (pd_rs e2)
  exact ⟨d, e, pd_dp a e1, pd_dp b e2, shaped_of (pd_lay a e1) k1, shaped_of (pd_lay b e2) k2, q (Grow.refl o.sb) (.of (.bl _)) h⟩⟩
theorem shw_of {d : PyData} (h1 : d.showable = true) (h2 : d.hasDict = false) (h3 : d.depth ≤ 60) (h4 : d.leavesShort 30 = true) (h5 : d.bulk ≤ 100000) : Shw d := by
  refine ⟨h1, h2, h3, ?_⟩
  have := PyData.shown_le_bulk 30 (by decide) d h4
  rw [sizeLine_eq]
  omega
def fRepr : Mu → T → (T → Prop) → Prop := fun μ t Ψ => ∃ d, (view μ t).pd = some d ∧ Shw d ∧ Ψ (.wst d.shown)
instance sim_repr : SimC K (rRepr K) (d1 fRepr) := sim_1 fun {W H μ v t Ψ Q} x d e q => by
  obtain ⟨dd, e1, s, e⟩ := e
  exact ⟨v, dd, rfl, pd_dp (view_dn x d rfl (pd_rs e1)) e1, s, q (Grow.refl x.sb) (.of (.wst _)) e⟩
/-! ### methods of built-in types -/
/-- a method that changes its list -/
class SimM (K : PySem.W.Frag) (T' : String) (r : V → List V → Hp → VK → Prop) (d : outParam (Mu → T → List T → (T → Mu → Prop) → Prop)) : Prop where
  run : ∀ {W : Wd} {H : Hp} {μ : Mu} {v : V} {vs : List V} {t : T} {ts : List T} {Ψ : T → Mu → Prop} {Q : VK}, Ok K W H μ → Dv K W v t → DvAll K W vs ts → d μ t ts Ψ → (∀ {v τ W' H' μ'}, W.Le W' → Ok K W' H' μ' → Dv K W' v τ → Ψ τ μ' → Q v H') → r v vs H Q
/-- of which type the thing is -/
def T.mty (μ : Mu) (t : T) : Option String := match view μ t with
  | .str _ => some "str"
  | .int _ => some "int"
  | .lst _ => some "list"
  | _ => none
theorem mty_is {W : Wd} {H : Hp} {μ : Mu} {v : V} {t : T} {n : String} (x : Ok K W H μ) (d : Dv K W v t) (e : t.mty μ = some n) : tyV K n v H := by
  unfold T.mty at e
  split at e
  · rename_i z e1
    cases e
    have dn := view_dn x d e1 (fun k z => by cases z)
    cases dn
    rfl
  · rename_i z e1
    cases e
    have dn := view_dn x d e1 (fun k z => by cases z)
    cases dn
    rfl
  · rename_i l e1
    cases e
    obtain ⟨p, xs, rfl, s, _⟩ := view_lst x d e1
    exact .inl ⟨rfl, xs, SqL.of s⟩
  · cases e
def rBM (n : String) (d : Mu → T → List T → (T → Mu → Prop) → Prop) (ro : DE) (ra : DA) : DE := fun ρ xw μ Φ => ro ρ xw μ fun t μ1 => t.mty μ1 = some n ∧ ra ρ xw μ1 fun ts μ2 => d μ2 t ts Φ
instance sim_bm {n : String} {r : V → List V → Hp → VK → Prop} {to : TE} {t : TA} {d ro ra} [m : SimM K n r d] [a : SimE K E to ro] [b : SimA K E t ra] : SimE K E (tBM K n r to t) (rBM n d ro ra) := ⟨fun x s k h q => a.run x s k h fun l1 x1 d1 h1 =>
  ⟨mty_is x1 d1 h1.1, b.run x1 (s.mono l1) (k.mono l1) h1.2 fun l2 x2 d2 h2 => m.run x2 (d1.mono l2) d2 h2 fun l3 x3 d3 h3 => q ((l1.trans l2).trans l3) x3 d3 h3⟩⟩
instance sim_bm0 {n : String} {r : V → List V → Hp → VK → Prop} {to : TE} {d ro} [m : SimM K n r d] [a : SimE K E to ro] : SimE K E (tBM0 K n r to) (rBM n d ro rNil) := ⟨fun x s k h q => a.run x s k h fun l1 x1 d1 h1 =>
  ⟨mty_is x1 d1 h1.1, m.run x1 d1 .nil h1.2 fun l3 x3 d3 h3 => q (l1.trans l3) x3 d3 h3⟩⟩
/-- the list that may be changed gets other items -/
theorem res_put {W : Wd} {H : Hp} {μ : Mu} {k : Nat} {p : Addr} {l' : List T} {xs' : List V} {l : List T} (x : Ok K W H μ) (e : μ[k]? = some (.lst l)) (ep : W.ad[k]? = some p) (d : DnAll K W.B xs' l') : Ok K W (upd H p (.lst xs')) (μ.set k (.lst l')) := by
  obtain ⟨p1, e1, o, xs, eh, _⟩ := x.res k _ e
  rw [ep] at e1
  cases e1
  obtain ⟨b1, g1, _, lt⟩ := x.lab p k o
  have ne : ∀ {a : Addr} {u : HO}, W.B a = some u → a ≠ p := fun q z => by
    subst z
    rw [b1] at q
    cases q
  have neg : ∀ {a : Addr} {u : HO}, W.G a = some u → a ≠ p := fun q z => by
    subst z
    rw [g1] at q
    cases q
  refine ⟨fun a u q => ?_, fun a u q => ?_, fun a j q => ?_, by rw [List.length_set]; exact x.len, fun j r q => ?_, x.tb.put (fun u q => by rw [eh] at q; cases q; exact pl_lst) pl_lst⟩
  · rw [upd_ne (neg q)]
    exact x.sg _ _ q
  · rw [upd_ne (ne q)]
    exact x.sb _ _ q
  · obtain ⟨a1, a2, a3, a4⟩ := x.lab a j q
    refine ⟨a1, a2, ?_, by rw [List.length_set]; exact a4⟩
    by_cases z : a = p
    · subst z
      rw [upd_same]
      exact fun z => by cases z
    · rw [upd_ne z]
      exact a3
  · by_cases z : k = j
    · subst z
      rw [List.getElem?_set_self lt] at q
      cases q
      exact ⟨p, ep, o, xs', upd_same, d⟩
    · rw [List.getElem?_set_ne z] at q
      obtain ⟨p2, e2, r2⟩ := x.res j r q
      refine ⟨p2, e2, ResOk.mono (W := W) rfl (Same.refl _) (fun _ _ q => q) (fun a u o2 eh2 => ?_) r2⟩
      rw [upd_ne (fun z2 => by subst z2; rw [o] at o2; cases o2; exact z rfl)]
      exact eh2
def dAppend : Mu → T → List T → (T → Mu → Prop) → Prop := fun μ t ts Ψ => match t, ts with
  | .rs k, [y] => ∃ l, μ[k]? = some (.lst l) ∧ y.flat = true ∧ l.length < 1000000 ∧ Ψ .non (μ.set k (.lst (l ++ [y])))
  | _, _ => False
instance sim_append {n : String} : SimM K n rAppend dAppend := ⟨fun {W H μ v vs t ts Ψ Q} x d da e q => by
  unfold dAppend at e
  split at e
  · obtain ⟨l, e1, f, sz, e⟩ := e
    obtain ⟨y, rfl, dy⟩ := one_dv da
    obtain ⟨p, ep, rfl⟩ := (show ∃ p, _ from d)
    obtain ⟨p1, ep1, o, xs, eh, dx⟩ := x.res _ _ e1
    rw [ep] at ep1
    cases ep1
    exact ⟨p, xs, y, rfl, rfl, eh, by rw [dx.length]; exact Nat.lt_of_lt_of_le sz (line1 (Nat.le_refl _)), q Wd.Le.refl (res_put x e1 ep (dx.append (.cons (flat_dn dy f) .nil))) (.of .non) e⟩
  · exact e.elim⟩
def dReverse : Mu → T → List T → (T → Mu → Prop) → Prop := fun μ t ts Ψ => match t, ts with
  | .rs k, [] => ∃ l, μ[k]? = some (.lst l) ∧ Ψ .non (μ.set k (.lst l.reverse))
  | _, _ => False
instance sim_reverse {n : String} : SimM K n rReverse dReverse := ⟨fun {W H μ v vs t ts Ψ Q} x d da e q => by
  unfold dReverse at e
  split at e
  · obtain ⟨l, e1, e⟩ := e
    cases da
    obtain ⟨p, ep, rfl⟩ := (show ∃ p, _ from d)
    obtain ⟨p1, ep1, o, xs, eh, dx⟩ := x.res _ _ e1
    rw [ep] at ep1
    cases ep1
    exact ⟨p, xs, rfl, rfl, eh, q Wd.Le.refl (res_put x e1 ep dx.reverse) (.of .non) e⟩
  · exact e.elim⟩
def dClear : Mu → T → List T → (T → Mu → Prop) → Prop := fun μ t ts Ψ => match t, ts with
  | .rs k, [] => ∃ l, μ[k]? = some (.lst l) ∧ Ψ .non (μ.set k (.lst []))
  | _, _ => False
instance sim_clear {n : String} : SimM K n rClear dClear := ⟨fun {W H μ v vs t ts Ψ Q} x d da e q => by
  unfold dClear at e
  split at e
  · obtain ⟨l, e1, e⟩ := e
    cases da
    obtain ⟨p, ep, rfl⟩ := (show ∃ p, _ from d)
    obtain ⟨p1, ep1, o, xs, eh, dx⟩ := x.res _ _ e1
    rw [ep] at ep1
    cases ep1
    exact ⟨p, xs, rfl, rfl, eh, q Wd.Le.refl (res_put x e1 ep .nil) (.of .non) e⟩
  · exact e.elim⟩
/-- '..'.join(x) -/
def T.strs : List T → Option (List PySem.Str)
  | [] => some []
  | .str b :: r => (T.strs r).map (b :: ·)
  | _ :: _ => none
theorem strs_is {B : Hp} : ∀ {xs : List V} {l : List T} {ns : List PySem.Str}, DnAll K B xs l → T.strs l = some ns → xs = ns.map V.str ∧ ∀ z ∈ ns, okS z
  | _, _, _, .nil, e => by cases e; exact ⟨rfl, fun z hz => by cases hz⟩
  | _, _, _, .cons (t := t) d r, e => by
    cases t with
    | str n =>
      simp only [T.strs, Option.map_eq_some_iff] at e
      obtain ⟨ms, e1, rfl⟩ := e
      cases d with
      | str o =>
        obtain ⟨a, b⟩ := strs_is r e1
        rw [a]
        exact ⟨rfl, fun z hz => (List.mem_cons.mp hz).elim (fun q => by subst q; exact o) (b z)⟩
    | _ => cases e
theorem strs_map (bs : List PySem.Str) : T.strs (bs.map T.str) = some bs := by
  induction bs with
  | nil => rfl
  | cons b r ih => simp [T.strs, ih]
def dJoin : Mu → T → List T → (T → Mu → Prop) → Prop := fun μ t ts Ψ => match t, ts with
  | .str a, [u] => ∃ l ys, asSeq μ u = some l ∧ T.strs l = some ys ∧ (ys.map (·.length)).sum + ys.length * a.length ≤ 1000000 ∧ okSb a = true ∧ Ψ (.str (Txt.join a ys)) μ
  | _, _ => False
theorem okS_joinS {a : PySem.Str} (ha : okS a) : ∀ (ys : List PySem.Str), (∀ z ∈ ys, okS z) → okS (PySem.Str.join a ys)
  | [], _ => fun c hc => by cases hc
  | [x], h => h x (List.mem_singleton.mpr rfl)
  | x :: y :: r, h => ((h x List.mem_cons_self).add ha).add (okS_joinS ha (y :: r) fun z hz => h z (List.mem_cons_of_mem _ hz))
theorem txt_join (a : PySem.Str) (ys : List PySem.Str) : Txt.join a ys = PySem.Str.join a ys := eq_of_beq (PyProof.Rows.join_plain_closes a ys)
instance sim_join : SimM K "str" (fun x xs H Q => ∃ a p, ∃ ys : List PySem.Str, x = V.str a ∧ xs = [V.ref p] ∧ (SqL K H p (ys.map V.str) ∨ SqT K H p (ys.map V.str)) ∧
    (ys.map (·.length)).sum + ys.length * a.length ≤ 16777216 ∧ Q (V.str (Txt.join a ys)) H) dJoin := ⟨fun {W H μ v vs t ts Ψ Q} x d da e q => by
  unfold dJoin at e
  split at e
  · obtain ⟨l, ys, e1, e2, sz, oa, e⟩ := e
    obtain ⟨y, rfl, dy⟩ := one_dv da
    obtain ⟨p, xs, rfl, s, dx⟩ := seq_is x dy e1
    obtain ⟨rfl, o⟩ := strs_is dx e2
    refine ⟨_, p, ys, d.str.1, rfl, s, by omega, q Wd.Le.refl x (.of (.str ?_)) e⟩
    rw [txt_join]
    exact okS_joinS (okSb_ok oa) ys o
  · exact e.elim⟩
/-! ### f-strings -/
def rFmt (r : DE) : DE := fun ρ xw μ Φ => r ρ xw μ fun t μ' => match t with
  | .str z => z.length ≤ 1000000 ∧ Φ (.str z) μ'
  | .int i => 0 ≤ i ∧ i.natAbs.log2 < 1920 ∧ Φ (.str (toString i)) μ'
  | _ => False
instance sim_fmt {t : TE} {r} [a : SimE K E t r] : SimE K E (tFmt t) (rFmt r) := ⟨fun x s n h q => a.run x s n h fun {v τ W1 H1 μ1} l1 x1 d1 h1 => by
  cases τ with
  | str z => exact .inl ⟨z, d1.str.1, line1 h1.1, q l1 x1 (.of (.str d1.str.2)) h1.2⟩
  | int i => exact .inr ⟨i, d1.int, h1.2.1, q l1 x1 (.of (.str (okS_int h1.1))) h1.2.2⟩
  | _ => exact h1.elim⟩
class SimJ (K : PySem.W.Frag) (E : XK) (ts : List TE) (r : outParam (PySem.Str → Rho → XW → Mu → (PySem.Str → Mu → Prop) → Prop)) : Prop where
  run : ∀ {acc : PySem.Str} {W : Wd} {H : Hp} {σ : L2.St} {ρ : Rho} {μ : Mu} {xw : XW} {Φ : PySem.Str → Mu → Prop} {Q : PySem.Str → Hp → Prop}, okS acc → Ok K W H μ → Sl K W σ ρ → XL K W xw E → r acc ρ xw μ Φ →
    (∀ {z W' H' μ'}, W.Le W' → Ok K W' H' μ' → okS z → Φ z μ' → Q z H') → tJs ts acc σ H Q
def rJn : PySem.Str → Rho → XW → Mu → (PySem.Str → Mu → Prop) → Prop := fun acc _ _ μ Φ => Φ acc μ
def rJc (r : DE) (rs : PySem.Str → Rho → XW → Mu → (PySem.Str → Mu → Prop) → Prop) : PySem.Str → Rho → XW → Mu → (PySem.Str → Mu → Prop) → Prop := fun acc ρ xw μ Φ => r ρ xw μ fun t μ1 => match t with
  | .str y => (acc ++ y).length ≤ 1000000 ∧ rs (acc ++ y) ρ xw μ1 Φ
  | _ => False
instance sim_jn : SimJ K E [] rJn := ⟨fun o x _ _ h q => q Wd.Le.refl x o h⟩
instance sim_jc {t : TE} {ts : List TE} {r rs} [a : SimE K E t r] [b : SimJ K E ts rs] : SimJ K E (t :: ts) (rJc r rs) := ⟨fun o x s n h q => a.run x s n h fun {v τ W1 H1 μ1} l1 x1 d1 h1 => by
  cases τ with
  | str y => exact ⟨y, d1.str.1, line1 h1.1, b.run (o.add d1.str.2) x1 (s.mono l1) (n.mono l1) h1.2 fun l2 x2 o2 h2 => q (l1.trans l2) x2 o2 h2⟩
  | _ => exact h1.elim⟩
def rJs (rs : PySem.Str → Rho → XW → Mu → (PySem.Str → Mu → Prop) → Prop) : DE := fun ρ xw μ Φ => rs Str.empty ρ xw μ fun z μ' => Φ (.str z) μ'
instance sim_js {ts : List TE} {rs} [b : SimJ K E ts rs] : SimE K E (fun σ H Q => tJs ts Str.empty σ H fun out H1 => Q (V.str out) H1) (rJs rs) := ⟨fun x s n h q => b.run (fun c hc => by cases hc) x s n h fun l1 x1 o h1 => q l1 x1 (.of (.str o)) h1⟩
/-! ### a value's truth, as a test -/
def T.shs : T → Prop
  | .str z => z.length ≤ 1000000
  | _ => True
def rTru (r : DE) : DB := fun ρ xw μ Φ => r ρ xw μ fun t μ' => match t.tru μ' with
  | some b => t.shs ∧ Φ b μ'
  | none => False
end Dl
namespace Dl
open PySem PySem.Spec PyProof.Rows L2 Gd
variable {K : PySem.W.Frag} {E : XK}
theorem isEmpty_dn {B : Hp} {xs : List V} {l : List T} (d : DnAll K B xs l) : (!l.isEmpty) = !xs.isEmpty := by
  cases d <;> rfl
theorem tru_is {W : Wd} {H : Hp} {μ : Mu} {v : V} {t : T} {b : Bool} (x : Ok K W H μ) (d : Dv K W v t) (e : t.tru μ = some b) (z : t.shs) : TruV K v H b := by
  unfold T.tru at e
  split at e
  · rename_i c e1
    cases e
    have dn := view_dn x d e1 (fun k z => by cases z)
    cases dn
    rfl
  · rename_i c e1
    cases e
    have dn := view_dn x d e1 (fun k z => by cases z)
    cases dn
    rfl
  · rename_i c e1
    cases e
    have dn := view_dn x d e1 (fun k z => by cases z)
    generalize hcc : (T.str c) = tc at dn
    cases dn <;> cases hcc
    cases t with
    | rs k =>
      have e1 : seeR μ k = .str c := e1
      unfold seeR at e1
      split at e1 <;> cases e1
    | str c2 =>
      cases e1
      exact ⟨line1 z, rfl⟩
    | pin a t2 =>
      have e1 : unp t2 = .str c := e1
      have d : Dn K W.B (.str c) (.pin a t2) := d
      cases d
    | _ => cases e1
  · rename_i l e1
    cases e
    obtain ⟨p, xs, rfl, s, da⟩ := view_lst x d e1
    exact .inl ⟨xs, SqL.of s, isEmpty_dn da⟩
  · rename_i l e1
    cases e
    obtain ⟨p, xs, rfl, s, da⟩ := view_tup x d e1
    exact .inr (.inl ⟨xs, s, isEmpty_dn da⟩)
  · rename_i e1
    cases e
    have dn := view_dn x d e1 (fun k z => by cases z)
    cases dn
    rfl
  · cases e
instance sim_truth {t : TE} {r} [a : SimE K E t r] : SimB K E (fun σ H Q => t σ H fun x H' => ∃ k, TruV K x H' k ∧ Q k H') (rTru r) := ⟨fun x s n h q => a.run x s n h fun {v τ W1 H1 μ1} l1 x1 d1 h1 => by
  split at h1
  · rename_i b e
    exact ⟨b, tru_is x1 d1 e h1.1, q l1 x1 h1.2⟩
  · exact h1.elim⟩
end Dl

set_option maxRecDepth 100000
set_option maxHeartbeats 4000000
namespace Dl
open PySem PySem.Spec PyProof.Rows L2 Gd
variable {K : PySem.W.Frag} {E : XK}
/-! ### statements -/
structure DEnds where
  nx : Rho → Mu → Prop
  rt : T → Mu → Prop
  bk : Rho → Mu → Prop := fun _ _ => False
  ct : Rho → Mu → Prop := fun _ _ => False
abbrev DS := DEnds → XW → Rho → Mu → Prop
/-- what is wanted behind, told of data -/
structure Lk (K : PySem.W.Frag) (W : Wd) (D : DEnds) (De : Ends) : Prop where
  nx : ∀ {σ ρ W' H' μ'}, W.Le W' → Ok K W' H' μ' → Sl K W' σ ρ → D.nx ρ μ' → De.nx σ H'
  rt : ∀ {v τ W' H' μ'}, W.Le W' → Ok K W' H' μ' → Dv K W' v τ → D.rt τ μ' → De.rt v H'
  bk : ∀ {σ ρ W' H' μ'}, W.Le W' → Ok K W' H' μ' → Sl K W' σ ρ → D.bk ρ μ' → De.bk σ H'
  ct : ∀ {σ ρ W' H' μ'}, W.Le W' → Ok K W' H' μ' → Sl K W' σ ρ → D.ct ρ μ' → De.ct σ H'
theorem Lk.mono {W W' : Wd} {D : DEnds} {De : Ends} (l : W.Le W') (k : Lk K W D De) : Lk K W' D De :=
  ⟨fun l' => k.nx (l.trans l'), fun l' => k.rt (l.trans l'), fun l' => k.bk (l.trans l'), fun l' => k.ct (l.trans l')⟩
class SimS (K : PySem.W.Frag) (E : XK) (t : TS) (r : outParam DS) : Prop where
  run : ∀ {W : Wd} {H : Hp} {σ : L2.St} {ρ : Rho} {μ : Mu} {xw : XW} {D : DEnds} {De : Ends}, Ok K W H μ → Sl K W σ ρ → XL K W xw E → Lk K W D De → r D xw ρ μ → t De σ H
def rNext : DS := fun D _ ρ μ => D.nx ρ μ
instance sim_next : SimS K E tNext rNext := ⟨fun x s _ k h => k.nx Wd.Le.refl x s h⟩
def rBreak : DS := fun D _ ρ μ => D.bk ρ μ
instance sim_break : SimS K E tBreak rBreak := ⟨fun x s _ k h => k.bk Wd.Le.refl x s h⟩
def rCont : DS := fun D _ ρ μ => D.ct ρ μ
instance sim_cont : SimS K E tCont rCont := ⟨fun x s _ k h => k.ct Wd.Le.refl x s h⟩
instance sim_never : SimS K E tNever (fun _ _ _ _ => False) := ⟨fun x s _ k h => h.elim⟩
def rSeq (a b : DS) : DS := fun D xw ρ μ => a { D with nx := fun ρ' μ' => b D xw ρ' μ' } xw ρ μ
instance sim_seq {t u : TS} {a b} [x : SimS K E t a] [y : SimS K E u b] : SimS K E (tSeq t u) (rSeq a b) := ⟨fun {W H σ ρ μ xw D De} o s n k h =>
  x.run (xw := xw) (D := { D with nx := fun ρ' μ' => b D xw ρ' μ' }) o s n ⟨fun l o' s' h' => y.run (xw := xw) (D := D) o' s' (n.mono l) (k.mono l) h', k.rt, k.bk, k.ct⟩ h⟩
def rDrop (r : DE) : DS := fun D xw ρ μ => r ρ xw μ fun _ μ' => D.nx ρ μ'
instance sim_drop {t : TE} {r} [a : SimE K E t r] : SimS K E (tDrop t) (rDrop r) := ⟨fun o s n k h => a.run o s n h fun l o' _ h' => k.nx l o' (s.mono l) h'⟩
def rRet (r : DE) : DS := fun D xw ρ μ => r ρ xw μ D.rt
instance sim_ret {t : TE} {r} [a : SimE K E t r] : SimS K E (tRet t) (rRet r) := ⟨fun o s n k h => a.run o s n h fun l o' d h' => k.rt l o' d h'⟩
def rRetN : DS := fun D _ _ μ => D.rt .non μ
instance sim_retN : SimS K E tRetN rRetN := ⟨fun o s n k h => k.rt Wd.Le.refl o (.of .non) h⟩
def rIfS (c : DB) (a b : DS) : DS := fun D xw ρ μ => c ρ xw μ fun t μ' => if t = true then a D xw ρ μ' else b D xw ρ μ'
instance sim_ifS {c : TT} {t u : TS} {rc a b} [cc : SimB K E c rc] [x : SimS K E t a] [y : SimS K E u b] : SimS K E (tIfS c t u) (rIfS rc a b) := ⟨fun o s n k h => cc.run o s n h fun {b1 W1 H1 μ1} l o' h' => by
  cases b1 with
  | true => exact iteT (x.run o' (s.mono l) (n.mono l) (k.mono l) h')
  | false => exact iteF (y.run o' (s.mono l) (n.mono l) (k.mono l) h')⟩
/-! ### targets -/
abbrev DG := T → Rho → XW → Mu → (Rho → Mu → Prop) → Prop
class SimG (K : PySem.W.Frag) (E : XK) (g : TG) (vs : outParam (List Nat)) (r : outParam DG) : Prop where
  run : ∀ {W : Wd} {H : Hp} {σ : L2.St} {ρ : Rho} {μ : Mu} {xw : XW} {v : V} {t : T} {Ψ : Rho → Mu → Prop} {Q : L2.St → Hp → Prop}, Ok K W H μ → Sl K W σ ρ → XL K W xw E → Dv K W v t → r t ρ xw μ Ψ →
    (∀ {σ' ρ' W' H' μ'}, W.Le W' → Ok K W' H' μ' → Sl K W' σ' ρ' → (∀ js : List Nat, (∀ i ∈ vs, i ∈ js) → wipe σ' js = wipe σ js) → Ψ ρ' μ' → Q σ' H') → g v σ H Q
theorem wipe_at : ∀ (σ : L2.St) (vs : List Nat) (i : Nat), (wipe σ vs)[i]? = if i ∈ vs then (if i < σ.length then some none else none) else σ[i]?
  | σ, [], i => by simp [wipe]
  | σ, v :: vs, i => by
    show ((wipe σ vs).set v none)[i]? = _
    by_cases e : v = i
    · subst e
      rw [List.getElem?_set]
      simp [wipe_length]
    · rw [List.getElem?_set_ne e, wipe_at σ vs i]
      simp [show i ≠ v from fun z => e z.symm]
theorem wipe_set {σ : L2.St} {i : Nat} {v : Option V} {js : List Nat} (h : i ∈ js) : wipe (σ.set i v) js = wipe σ js := by
  apply List.ext_getElem?
  intro j
  rw [wipe_at, wipe_at, List.length_set]
  by_cases m : j ∈ js
  · simp [m]
  · simp only [m, if_false]
    rw [List.getElem?_set_ne (fun z => m (by rw [← z]; exact h))]
def rName (i : Nat) : DG := fun t ρ _ μ Ψ => Ψ (ρ.set i (some t)) μ
instance sim_name (i : Nat) : SimG K E (gName i) [i] (rName i) := ⟨fun o s n d h q => q Wd.Le.refl o (s.set d) (fun js hj => wipe_set (hj i (List.mem_singleton.mpr rfl))) h⟩
abbrev DGs := List T → Rho → XW → Mu → (Rho → Mu → Prop) → Prop
class SimGs (K : PySem.W.Frag) (E : XK) (g : TGs) (vs : outParam (List Nat)) (r : outParam DGs) : Prop where
  run : ∀ {W : Wd} {H : Hp} {σ : L2.St} {ρ : Rho} {μ : Mu} {xw : XW} {ws : List V} {ts : List T} {Ψ : Rho → Mu → Prop} {Q : L2.St → Hp → Prop}, Ok K W H μ → Sl K W σ ρ → XL K W xw E → DnAll K W.B ws ts → r ts ρ xw μ Ψ →
    (∀ {σ' ρ' W' H' μ'}, W.Le W' → Ok K W' H' μ' → Sl K W' σ' ρ' → (∀ js : List Nat, (∀ i ∈ vs, i ∈ js) → wipe σ' js = wipe σ js) → Ψ ρ' μ' → Q σ' H') → g ws σ H Q
def rGnil : DGs := fun ts ρ _ μ Ψ => match ts with
  | [] => Ψ ρ μ
  | _ => False
def rGcons (r : DG) (rs : DGs) : DGs := fun ts ρ xw μ Ψ => match ts with
  | t :: ts => r t ρ xw μ fun ρ1 μ1 => rs ts ρ1 xw μ1 Ψ
  | _ => False
instance sim_gnil : SimGs K E gNil [] rGnil := ⟨fun {W H σ ρ μ xw ws ts Ψ Q} o s n d h q => by
  cases d with
  | nil => exact ⟨rfl, q Wd.Le.refl o s (fun _ _ => rfl) h⟩
  | cons a b => exact h.elim⟩
instance sim_gcons {g : TG} {gs : TGs} {vs us r rs} [a : SimG K E g vs r] [b : SimGs K E gs us rs] : SimGs K E (gCons g gs) (vs ++ us) (rGcons r rs) := ⟨fun {W H σ ρ μ xw ws ts Ψ Q} o s n d h q => by
  cases d with
  | nil => exact h.elim
  | cons d1 d2 =>
    exact ⟨_, _, rfl, a.run o s n (.of d1) h fun l o1 s1 w1 h1 => b.run o1 s1 (n.mono l) (d2.mono l.b) h1 fun l2 o2 s2 w2 h2 => q (l.trans l2) o2 s2 (fun js hj => by
      rw [w2 js fun i hi => hj i (List.mem_append_right _ hi), w1 js fun i hi => hj i (List.mem_append_left _ hi)]) h2⟩⟩
def rGtup (n : Nat) (rs : DGs) : DG := fun t ρ xw μ Ψ => match view μ t with
  | .tup l => l.length = n ∧ rs l ρ xw μ Ψ
  | _ => False
instance sim_gtup {m : Nat} {gs : TGs} {vs rs} [b : SimGs K E gs vs rs] : SimG K E (gTup K m gs) vs (rGtup m rs) := ⟨fun {W H σ ρ μ xw v t Ψ Q} o s n d h q => by
  unfold rGtup at h
  split at h
  · rename_i l e
    obtain ⟨p, xs, rfl, sq, da⟩ := view_tup o d e
    exact ⟨p, xs, rfl, sq, by rw [da.length]; exact h.1, b.run o s n da h.2 q⟩
  · exact h.elim⟩
/-- xs[i] = v, of a list that may be changed -/
def rGset (ro ri : DE) : DG := fun t ρ xw μ Ψ => ro ρ xw μ fun o μ1 => ri ρ xw μ1 fun i μ2 => match o, i with
  | .rs k, .int i => ∃ l j, μ2[k]? = some (.lst l) ∧ ixN l.length i = some j ∧ t.flat = true ∧ Ψ ρ (μ2.set k (.lst (l.set j t)))
  | _, _ => False
instance sim_gset {to ti : TE} {ro ri} [a : SimE K E to ro] [b : SimE K E ti ri] : SimG K E (gSub to ti rSetL) [] (rGset ro ri) := ⟨fun {W H σ ρ μ xw v t Ψ Q} o s n d h q =>
  a.run o s n h fun {v1 τ1 W1 H1 μ1} l1 o1 d1 h1 => b.run o1 (s.mono l1) (n.mono l1) h1 fun {v2 τ2 W2 H2 μ2} l2 o2 d2 h2 => by
    split at h2
    · obtain ⟨l, j, e1, e2, f, h2⟩ := h2
      obtain ⟨p, ep, rfl⟩ := (show ∃ p, _ from d1.mono l2)
      obtain ⟨p1, ep1, o3, xs, eh, dx⟩ := o2.res _ _ e1
      rw [ep] at ep1
      cases ep1
      exact ⟨p, xs, _, j, rfl, d2.int, eh, by rw [dx.length]; exact e2, q (l1.trans l2) (res_put o2 e1 ep (dx.set (flat_dn (d.mono (l1.trans l2)) f) j)) (s.mono (l1.trans l2)) (fun _ _ => rfl) h2⟩
    · exact h2.elim⟩
def rAsg (r : DE) (g : DG) : DS := fun D xw ρ μ => r ρ xw μ fun t μ1 => g t ρ xw μ1 D.nx
instance sim_asg {t : TE} {g : TG} {vs r rg} [a : SimE K E t r] [b : SimG K E g vs rg] : SimS K E (tAsg t g) (rAsg r rg) := ⟨fun o s n k h => a.run o s n h fun l o1 d1 h1 => b.run o1 (s.mono l) (n.mono l) d1 h1 fun l2 o2 s2 _ h2 => k.nx (l.trans l2) o2 s2 h2⟩
def rPar (i j : Nat) (r : DA) : DS := fun D xw ρ μ => r ρ xw μ fun ts μ1 => match ts with
  | [a, b] => D.nx ((ρ.set i (some a)).set j (some b)) μ1
  | _ => False
instance sim_par {i j : Nat} {t : TA} {r} [a : SimA K E t r] : SimS K E (tPar i j t) (rPar i j r) := ⟨fun o s n k h => a.run o s n h fun l o1 d1 h1 => by
  split at h1
  · obtain ⟨v, w, rfl, a1, a2⟩ := two_dv d1
    exact ⟨v, w, rfl, k.nx l o1 (((s.mono l).set a1).set a2) h1⟩
  · exact h1.elim⟩
def rPar3 (i j m : Nat) (r : DA) : DS := fun D xw ρ μ => r ρ xw μ fun ts μ1 => match ts with
  | [a, b, c] => D.nx (((ρ.set i (some a)).set j (some b)).set m (some c)) μ1
  | _ => False
instance sim_par3 {i j m : Nat} {t : TA} {r} [a : SimA K E t r] : SimS K E (tPar3 i j m t) (rPar3 i j m r) := ⟨fun o s n k h => a.run o s n h fun l o1 d1 h1 => by
  split at h1
  · cases d1 with
    | cons x1 r1 => cases r1 with
      | cons x2 r2 => cases r2 with
        | cons x3 r3 =>
          cases r3
          exact ⟨_, _, _, rfl, k.nx l o1 ((((s.mono l).set x1).set x2).set x3) h1⟩
  · exact h1.elim⟩
/-! ### what is walked -/
/-- what is frozen, stays -/
structure Wd.Lb (W W' : Wd) : Prop where
  b : Same W.B W'.B
/-- the iterator yields l, whatever comes in between -/
def Wk (K : PySem.W.Frag) (W : Wd) (J : It) (l : List T) : Prop := ∀ {W' : Wd} {H' : Hp} {μ' : Mu}, W.Lb W' → Ok K W' H' μ' → ∀ i : Nat,
  (i < l.length → J.go i H' ∧ ∀ x H'', J.yld i H' x H'' → ∃ (W'' : Wd) (t : T), Grow W' H' W'' H'' ∧ l[i]? = some t ∧ Dn K W''.B x t) ∧ (l.length ≤ i → J.stop i H')
class SimI (K : PySem.W.Frag) (E : XK) (wi : TI) (r : outParam DL) : Prop where
  run : ∀ {W : Wd} {H : Hp} {σ : L2.St} {ρ : Rho} {μ : Mu} {xw : XW} {Φ : List T → Mu → Prop} {R : It → Hp → Prop}, Ok K W H μ → Sl K W σ ρ → XL K W xw E → r ρ xw μ Φ →
    (∀ {J l W' H' μ'}, W.Le W' → Ok K W' H' μ' → Wk K W' J l → Φ l μ' → R J H') → wi σ H R
def rIlst (r : DE) : DL := fun ρ xw μ Φ => r ρ xw μ fun t μ' => match t with
  | .lst l => Φ l μ'
  | _ => False
instance sim_ilist {t : TE} {r} [a : SimE K E t r] : SimI K E (iList K t) (rIlst r) := ⟨fun o s n h q => a.run o s n h fun {v τ W1 H1 μ1} l1 o1 d1 h1 => by
  cases τ with
  | lst l =>
    cases (show Dn K W1.B v (.lst l) from d1) with
    | @lst p xs _ e da =>
      refine ⟨p, rfl, ⟨xs, SqL.of (o1.sb _ _ e)⟩, q l1 o1 (fun {W' H' μ'} l' o' i => ?_) h1⟩
      have e' : H' p = some (.lst xs) := o'.sb _ _ (l'.b _ _ e)
      refine ⟨fun lt => ?_, fun le => ⟨xs, SqL.of e', by rw [da.length]; exact le⟩⟩
      obtain ⟨v, ev, dv⟩ := da.get (List.getElem?_eq_getElem lt)
      refine ⟨⟨xs, v, SqL.of e', ev⟩, fun y H'' yl => ?_⟩
      obtain ⟨rfl, k⟩ := yl
      have e2 := k xs (SqL.of e')
      rw [ev] at e2
      cases e2
      exact ⟨W', _, Grow.refl o'.sb, List.getElem?_eq_getElem lt, dv.mono l'.b⟩
  | _ => exact h1.elim⟩
def rItup (r : DE) : DL := fun ρ xw μ Φ => r ρ xw μ fun t μ' => match t with
  | .tup l => Φ l μ'
  | _ => False
theorem tup_inj {H : Hp} {p : Addr} {xs ys : List V} (a : SqT K H p xs) (b : SqT K H p ys) (fr : ∀ o, H p ≠ some (.frz o (.tup ys)) ∨ True) : True := trivial
instance sim_irng1 {t : TA} {r} [a : SimA K E t r] : SimI K E (iRng1 t) (fun ρ xw μ Φ => r ρ xw μ fun ts μ' => match ts with
    | [.int j] => -(2 ^ 62) ≤ j ∧ j < 2 ^ 62 ∧ Φ ((List.range j.toNat).map fun i => .int (i : Nat)) μ'
    | _ => False) := ⟨fun o s n h q => a.run o s n h fun {vs τs W1 H1 μ1} l1 o1 d1 h1 => by
  split at h1
  · obtain ⟨v, rfl, dv⟩ := one_dv d1
    refine ⟨_, by rw [dv.int], h1.1, h1.2.1, q l1 o1 (fun {W' H' μ'} l' o' i => ?_) h1.2.2⟩
    simp only [List.length_map, List.length_range]
    refine ⟨fun lt => ⟨lt, fun y H'' yl => ?_⟩, fun le => le⟩
    obtain ⟨rfl, rfl⟩ := yl
    refine ⟨W', .int (i : Nat), Grow.refl o'.sb, by simp [lt], ?_⟩
    rw [Int.zero_add]
    exact .int _
  · exact h1.elim⟩
instance sim_irng2 {t : TA} {r} [a : SimA K E t r] : SimI K E (iRng2 t) (fun ρ xw μ Φ => r ρ xw μ fun ts μ' => match ts with
    | [.int i, .int j] => (-(2 ^ 62) ≤ i ∧ i < 2 ^ 62 ∧ -(2 ^ 62) ≤ j ∧ j < 2 ^ 62) ∧ Φ ((List.range (j - i).toNat).map fun k => .int (i + (k : Nat))) μ'
    | _ => False) := ⟨fun o s n h q => a.run o s n h fun {vs τs W1 H1 μ1} l1 o1 d1 h1 => by
  split at h1
  · obtain ⟨v, w, rfl, dv, dw⟩ := two_dv d1
    refine ⟨_, _, by rw [dv.int, dw.int], h1.1, q l1 o1 (fun {W' H' μ'} l' o' i => ?_) h1.2⟩
    simp only [List.length_map, List.length_range]
    refine ⟨fun lt => ⟨lt, fun y H'' yl => ?_⟩, fun le => le⟩
    obtain ⟨rfl, rfl⟩ := yl
    exact ⟨W', .int (_ + (i : Nat)), Grow.refl o'.sb, by simp [lt], .int _⟩
  · exact h1.elim⟩
def rIenum (r : DA) : DL := fun ρ xw μ Φ => r ρ xw μ fun ts μ' => match ts with
  | [.lst l] => Φ ((l.zipIdx).map fun p => .tup [.int (p.2 : Nat), p.1]) μ'
  | _ => False
instance sim_ienum {t : TA} {r} [a : SimA K E t r] : SimI K E (iEnum K t) (rIenum r) := ⟨fun o s n h q => a.run o s n h fun {vs τs W1 H1 μ1} l1 o1 d1 h1 => by
  split at h1
  · rename_i l
    obtain ⟨v, rfl, dv⟩ := one_dv d1
    cases (show Dn K W1.B v (.lst l) from dv) with
    | @lst p xs _ e da =>
      refine ⟨p, xs, rfl, SqL.of (o1.sb _ _ e), q l1 o1 (fun {W' H' μ'} l' o' i => ?_) h1⟩
      have e' : H' p = some (.lst xs) := o'.sb _ _ (l'.b _ _ e)
      simp only [List.length_map, List.length_zipIdx]
      refine ⟨fun lt => ?_, fun le => ⟨xs, SqL.of e', by rw [da.length]; exact le⟩⟩
      obtain ⟨v, ev, dv⟩ := da.get (List.getElem?_eq_getElem lt)
      refine ⟨⟨xs, v, SqL.of e', ev⟩, fun y H'' yl => ?_⟩
      obtain ⟨p2, z, rfl, f, rfl, k⟩ := yl
      have e2 := k xs (SqL.of e')
      rw [ev] at e2
      cases e2
      refine ⟨{ W' with B := upd W'.B p2 (.tup [.int (i : Nat), v]) }, .tup [.int (i : Nat), l[i]], Grow.new o'.sb _ f, by simp [lt], ?_⟩
      exact .tup (SqT.of upd_same) (.cons (.int _) (.cons (dv.mono (l'.b.trans (same_new (o'.sb.free f)))) .nil))
  · exact h1.elim⟩
instance sim_istr {t : TE} {r} [a : SimE K E t r] : SimI K E (iStr t) (fun ρ xw μ Φ => r ρ xw μ fun t μ' => match t with
    | .str z => Φ (z.cps.toList.map fun c => .str ⟨#[c]⟩) μ'
    | _ => False) := ⟨fun o s n h q => a.run o s n h fun {v τ W1 H1 μ1} l1 o1 d1 h1 => by
  cases τ with
  | str z =>
    refine ⟨z, d1.str.1, q l1 o1 (fun {W' H' μ'} l' o' i => ?_) h1⟩
    simp only [List.length_map]
    refine ⟨fun lt => ⟨by show i < z.cps.size; simpa using lt, fun y H'' yl => ?_⟩, fun le => by show z.cps.size ≤ i; simpa using le⟩
    obtain ⟨rfl, c, ec, rfl⟩ := yl
    have ec' : z.cps.toList[i]? = some c := by simpa using ec
    refine ⟨W', .str ⟨#[c]⟩, Grow.refl o'.sb, by rw [List.getElem?_map, ec']; rfl, .str fun d hd => ?_⟩
    have : d = c := by simpa using hd
    rw [this]
    exact d1.str.2 c (List.mem_of_getElem? ec')
  | _ => exact h1.elim⟩
/-! ### for -/
def rFor (ri : DL) (g : DG) (b : DS) : DS := fun D xw ρ μ => ri ρ xw μ fun l μ1 => ∃ Pv : Nat → Rho → Mu → Prop, Pv 0 ρ μ1 ∧
  (∀ (i : Nat) (t : T) (ρ : Rho) (μ : Mu), l[i]? = some t → Pv i ρ μ → g t ρ xw μ fun ρ2 μ2 => b { D with nx := Pv (i + 1), ct := Pv (i + 1), bk := D.nx } xw ρ2 μ2) ∧ (∀ ρ μ, Pv l.length ρ μ → D.nx ρ μ)
instance sim_for {wi : TI} {g : TG} {tb : TS} {ri vs rg rb} [a : SimI K E wi ri] [b : SimG K E g vs rg] [c : SimS K E tb rb] : SimS K E (tFor wi g tb) (rFor ri rg rb) := ⟨fun {W H σ ρ μ xw D De} o s n k h => a.run o s n h fun {J l W1 H1 μ1} l1 o1 wk h1 => by
  obtain ⟨Pv, p0, turn, fin⟩ := h1
  refine ⟨fun i m σ H => i + m = l.length ∧ ∃ W' ρ μ, W1.Le W' ∧ Ok K W' H μ ∧ Sl K W' σ ρ ∧ Pv i ρ μ, ⟨l.length, Nat.zero_add _, W1, ρ, μ1, Wd.Le.refl, o1, s.mono l1, p0⟩, ?_⟩
  rintro i m σ2 H2 ⟨e, W2, ρ2, μ2, l2, o2, s2, p2⟩
  match m, e with
  | 0, e =>
    obtain rfl : i = l.length := e
    exact .inl ⟨(wk ⟨l2.b⟩ o2 _).2 (Nat.le_refl _), k.nx (l1.trans l2) o2 s2 (fin _ _ p2)⟩
  | m + 1, e =>
    have lt : i < l.length := by omega
    obtain ⟨go, yl⟩ := (wk ⟨l2.b⟩ o2 i).1 lt
    refine .inr ⟨go, fun σ H => ∃ W' ρ μ, W1.Le W' ∧ Ok K W' H μ ∧ Sl K W' σ ρ ∧ Pv (i + 1) ρ μ, fun σ' H' z => ⟨m, Nat.lt_succ_self m, by omega, z⟩, fun x H3 y => ?_⟩
    obtain ⟨W3, t, g3, et, dt⟩ := yl x H3 y
    have l3 := l2.trans (g3.le o2)
    refine b.run (g3.ok o2) (s2.mono (g3.le o2)) (n.mono (l1.trans l3)) (.of dt) (turn i t ρ2 μ2 et p2) fun l4 o4 s4 _ h4 => ?_
    have l5 := l3.trans l4
    exact c.run (xw := xw) (D := { D with nx := Pv (i + 1), ct := Pv (i + 1), bk := D.nx }) o4 s4 (n.mono (l1.trans l5)) ⟨fun l6 o6 s6 h6 => ⟨_, _, _, l5.trans l6, o6, s6, h6⟩, (k.mono (l1.trans l5)).rt, fun l6 o6 s6 h6 => (k.mono (l1.trans l5)).nx l6 o6 s6 h6, fun l6 o6 s6 h6 => ⟨_, _, _, l5.trans l6, o6, s6, h6⟩⟩ h4⟩
end Dl

set_option maxRecDepth 100000
set_option maxHeartbeats 4000000
namespace Dl
open PySem PySem.Spec PyProof.Rows L2 Gd
variable {K : PySem.W.Frag} {E : XK}
instance sim_yes : SimB K E tYes (fun ρ xw μ Φ => Φ true μ) := ⟨fun o _ _ h q => q Wd.Le.refl o h⟩
instance sim_itup {t : TE} {r} [a : SimE K E t r] : SimI K E (iTup K t) (rItup r) := ⟨fun o s n h q => a.run o s n h fun {v τ W1 H1 μ1} l1 o1 d1 h1 => by
  cases τ with
  | tup l =>
    cases (show Dn K W1.B v (.tup l) from d1) with
    | @tup p xs _ e da =>
      refine ⟨p, rfl, ⟨xs, sqT_mono o1.sb e⟩, q l1 o1 (fun {W' H' μ'} l' o' i => ?_) h1⟩
      have e' : SqT K H' p xs := sqT_mono (l'.b.trans o'.sb) e
      refine ⟨fun lt => ?_, fun le => ⟨xs, e', by rw [da.length]; exact le⟩⟩
      obtain ⟨v, ev, dv⟩ := da.get (List.getElem?_eq_getElem lt)
      refine ⟨⟨xs, v, e', ev⟩, fun y H'' yl => ?_⟩
      obtain ⟨rfl, k⟩ := yl
      have e2 := k xs e'
      rw [ev] at e2
      cases e2
      exact ⟨W', _, Grow.refl o'.sb, List.getElem?_eq_getElem lt, dv.mono l'.b⟩
  | _ => exact h1.elim⟩
/-! ### comprehensions -/
/-- a thing that is known to none is kept while the block runs -/
def Wd.gd (W : Wd) (D : Addr) (o : HO) : Wd := { W with G := upd W.G D o }
theorem gd_ok {W : Wd} {H : Hp} {μ : Mu} {D : Addr} {o : HO} (x : Ok K W H μ) (h : H D = some o) (ho : W.own D = none) (nt : ∀ ps, o ≠ .tbl ps := by intro ps z; cases z) : Ok K (W.gd D o) H μ := by
  refine ⟨fun a u q => ?_, x.sb, fun a k q => ?_, x.len, fun k r q => ?_, x.tb.wd rfl (fun a q => ?_) fun a q => .inl q⟩
  · by_cases z : a = D
    · subst z
      have q : upd W.G a o a = some u := q
      rw [upd_same] at q
      cases q
      exact h
    · exact x.sg _ _ ((upd_ne z).symm.trans q)
  · obtain ⟨a1, a2, a3, a4⟩ := x.lab a k q
    refine ⟨a1, ?_, a3, a4⟩
    have z : a ≠ D := fun z => by
      subst z
      have q : W.own a = some k := q
      rw [ho] at q
      cases q
    exact (upd_ne z).trans a2
  · obtain ⟨p, e, r1⟩ := x.res k r q
    exact ⟨p, e, ResOk.mono (W := W) rfl (Same.refl _) (fun _ _ q => q) (fun _ _ _ q => q) r1⟩
  · by_cases z : a = D
    · subst z
      exact .inr ⟨o, h, nt⟩
    · rcases q with q | q | q
      · exact .inl (.inl (by rw [← upd_ne (H := W.G) (o := o) z]; exact q))
      · exact .inl (.inr (.inl q))
      · exact .inl (.inr (.inr q))
/-- .. and told no more -/
theorem un_gd {W W2 : Wd} {H : Hp} {μ : Mu} {D : Addr} {o : HO} (g : W.G D = none) (b : W.B D = none) (l : (W.gd D o).Le W2) (x : Ok K W2 H μ) :
    W.Le { W2 with G := W.G } ∧ Ok K { W2 with G := W.G } H μ ∧ H D = some o ∧ W2.own D = none ∧ W2.B D = none := by
  have eg : W2.G = upd W.G D o := l.g
  have sg : Same W.G W2.G := by
    rw [eg]
    exact same_new g
  have gn : ∀ a, W2.G a = none → W.G a = none := fun a q => sg.free q
  refine ⟨⟨rfl, l.b, fun a u q => (l.nb a u q).imp id fun q => ?_, l.ad, l.t⟩, ⟨sg.trans x.sg, x.sb, fun a k q => ?_, x.len, fun k r q => ?_, x.tb.wd rfl (fun a q => .inl ?_) fun a q => .inl q⟩, x.sg _ _ (by rw [eg]; exact upd_same), ?_, ?_⟩
  · rw [show (W.gd D o).G = W2.G from l.g.symm] at q
    exact gn a q
  · obtain ⟨a1, a2, a3, a4⟩ := x.lab a k q
    exact ⟨a1, gn a a2, a3, a4⟩
  · obtain ⟨p, e, r1⟩ := x.res k r q
    exact ⟨p, e, ResOk.mono (W := W2) rfl (Same.refl _) (fun _ _ q => q) (fun _ _ _ q => q) r1⟩
  · rcases q with q | q | q
    · cases z : W.G a with
      | none => exact absurd z q
      | some u => exact .inl (by rw [sg _ _ z]; exact fun z => by cases z)
    · exact .inr (.inl q)
    · exact .inr (.inr q)
  · cases q : W2.own D with
    | none => rfl
    | some k =>
      have := (x.lab D k q).2.1
      rw [eg, upd_same] at this
      cases this
  · cases q : W2.B D with
    | none => rfl
    | some u =>
      rcases l.nb D u q with q | q
      · rw [show (W.gd D o).B D = W.B D from rfl, b] at q
        cases q
      · rw [show (W.gd D o).G D = some o from upd_same] at q
        cases q
theorem write_ok {W : Wd} {H : Hp} {μ : Mu} {D : Addr} {o : HO} (x : Ok K W H μ) (hb : W.B D = none) (hg : W.G D = none) (ho : W.own D = none) (hp : ∀ u, H D = some u → plainO u) (nt : plainO o := by constructor <;> intro ps z <;> cases z) : Ok K W (upd H D o) μ := by
  refine ⟨fun a u q => ?_, fun a u q => ?_, fun a k q => ?_, x.len, fun k r q => ?_, x.tb.put hp nt⟩
  · rw [upd_ne (ne_of_none q hg)]
    exact x.sg _ _ q
  · rw [upd_ne (ne_of_none q hb)]
    exact x.sb _ _ q
  · obtain ⟨a1, a2, a3, a4⟩ := x.lab a k q
    refine ⟨a1, a2, ?_, a4⟩
    rw [upd_ne (fun z => by subst z; rw [ho] at q; cases q)]
    exact a3
  · obtain ⟨p, e, r1⟩ := x.res k r q
    refine ⟨p, e, ResOk.mono (W := W) rfl (Same.refl _) (fun _ _ q => q) (fun a u o2 q => ?_) r1⟩
    rw [upd_ne (fun z => by subst z; rw [ho] at o2; cases o2)]
    exact q
def wipeR (ρ : Rho) : List Nat → Rho
  | [] => ρ
  | v :: vs => (wipeR ρ vs).set v none
theorem Sl.wipes {W : Wd} {σ : L2.St} {ρ : Rho} (s : Sl K W σ ρ) : ∀ vs : List Nat, Sl K W (L2.wipe σ vs) (wipeR ρ vs)
  | [] => s
  | _ :: vs => (s.wipes vs).wipe
def rLc (ri : DL) (js : List Nat) (rg : DG) (rt : DB) (re : DE) (vs : List Nat) : DL := fun ρ xw μ Φ => ri ρ xw μ fun l μ1 => (∀ i ∈ js, i ∈ vs) ∧ ∃ Pv : Nat → List T → Mu → Prop, Pv 0 [] μ1 ∧
  (∀ (i : Nat) (t : T) (acc : List T) (μ : Mu), l[i]? = some t → Pv i acc μ → rg t (wipeR ρ vs) xw μ fun ρ2 μ2 => rt ρ2 xw μ2 fun b μ3 => if b = true then re ρ2 xw μ3 fun y μ4 => y.flat = true ∧ acc.length < 1000000 ∧ Pv (i + 1) (acc ++ [y]) μ4 else Pv (i + 1) acc μ3) ∧
  ∀ acc μ, Pv l.length acc μ → Φ acc μ
theorem Wd.Le.own_free {W W' : Wd} {H : Hp} {μ : Mu} {D : Addr} (x : Ok K W' H μ) (h : H D = none) : W'.own D = none := by
  cases q : W'.own D with
  | none => rfl
  | some k => exact absurd h (x.lab D k q).2.2.1
instance sim_lc {wi : TI} {g : TG} {tt : TT} {te : TE} {vs ri js rg rt re} [a : SimI K E wi ri] [b : SimG K E g js rg] [c : SimB K E tt rt] [d : SimE K E te re] : SimL K E (tLc wi g tt te vs) (rLc ri js rg rt re vs) := ⟨fun {W H σ ρ μ xw Φ Q} o s n h q => a.run o s n h fun {J l W1 H1 μ1} l1 o1 wk h1 => by
  obtain ⟨sub, Pv, p0, turn, fin⟩ := h1
  intro D fD
  have gD : W1.G D = none := o1.sg.free fD
  refine ⟨fun i m H => i + m = l.length ∧ ∃ W' μ acc xs, W1.Le W' ∧ Ok K W' H μ ∧ Fr K W' H D xs acc ∧ Pv i acc μ, ⟨l.length, Nat.zero_add _, W1, μ1, [], [], Wd.Le.refl, (Fr.new o1 fD .nil).1, (Fr.new o1 fD .nil).2, p0⟩, ?_⟩
  rintro i m H2 ⟨e, W2, μ2, acc, xs, l2, o2, f2, p2⟩
  match m, e with
  | 0, e =>
    obtain rfl : i = l.length := e
    exact .inl ⟨(wk ⟨l2.b⟩ o2 _).2 (Nat.le_refl _), q (l1.trans l2) o2 f2 (fin _ _ p2)⟩
  | m + 1, e =>
    have lt : i < l.length := by omega
    obtain ⟨go, yl⟩ := (wk ⟨l2.b⟩ o2 i).1 lt
    refine .inr ⟨go, fun H => ∃ W' μ acc xs, W1.Le W' ∧ Ok K W' H μ ∧ Fr K W' H D xs acc ∧ Pv (i + 1) acc μ, fun H' z => ⟨m, Nat.lt_succ_self m, by omega, z⟩, fun x H3 y => ?_⟩
    obtain ⟨W3, t, g3, et, dt⟩ := yl x H3 y
    have l3 := l2.trans (g3.le o2)
    have o3 := g3.ok o2
    have h3 : H3 D = some (.lst xs) := g3.h _ _ f2.h
    have own3 : W3.own D = none := by rw [g3.own]; exact f2.o
    have b3 : W3.B D = none := by
      cases q : W3.B D with
      | none => rfl
      | some u =>
        rcases g3.nb D u q with q | q
        · rw [f2.b] at q; cases q
        · rw [f2.h] at q; cases q
    have g3n : W3.G D = none := by rw [g3.g]; exact f2.g
    have og := gd_ok o3 h3 own3
    have sg : Sl K (W3.gd D (.lst xs)) (L2.wipe σ vs) (wipeR ρ vs) := (s.mono (l1.trans l3)).wipes vs
    have xg : XL K (W3.gd D (.lst xs)) xw E := fun {C d fs τs W' H' μ'} l' o' ed df x => by
      obtain ⟨u1, u2, _⟩ := un_gd g3n b3 l' o'
      exact n ((l1.trans l3).trans u1) u2 ed df x
    have dt3 : Dv K (W3.gd D (.lst xs)) x t := .of dt
    refine b.run og sg xg dt3 (turn i t acc μ2 et p2) fun {σ5 ρ5 W5 H5 μ5} l5 o5 s5 w5 h5 => ⟨(w5 vs sub).trans ?_, ?_⟩
    · have : ∀ vs : List Nat, L2.wipe (L2.wipe σ vs) vs = L2.wipe σ vs := fun vs => by
        apply List.ext_getElem?
        intro j
        rw [wipe_at, wipe_at, wipe_length]
        by_cases m : j ∈ vs <;> simp [m]
      exact this vs
    · refine c.run o5 s5 (xg.mono l5) h5 fun {bb W6 H6 μ6} l6 o6 h6 => ?_
      cases bb with
      | false =>
        refine iteF ?_
        obtain ⟨u1, u2, u3, u4, u5⟩ := un_gd g3n b3 (l5.trans l6) o6
        have dn : DnAll K W6.B xs acc := (f2.d.mono g3.b).mono (l5.trans l6).b
        exact ⟨_, _, acc, xs, l3.trans u1, u2, ⟨u5, g3n, u4, u3, dn⟩, (if_neg Bool.false_ne_true).mp h6⟩
      | true =>
        refine iteT (d.run o6 (s5.mono l6) (xg.mono (l5.trans l6)) h6 fun {v7 τ7 W7 H7 μ7} l7 o7 d7 h7 => ?_)
        obtain ⟨u1, u2, u3, u4, u5⟩ := un_gd g3n b3 ((l5.trans l6).trans l7) o7
        have dn : DnAll K W7.B xs acc := (f2.d.mono g3.b).mono ((l5.trans l6).trans l7).b
        refine ⟨xs, u3, by rw [dn.length]; exact Nat.lt_of_lt_of_le h7.2.1 (line1 (Nat.le_refl _)), _, μ7, acc ++ [τ7], xs ++ [v7], l3.trans u1, write_ok u2 u5 g3n u4 (fun u q => by rw [u3] at q; cases q; exact pl_lst), ⟨u5, g3n, u4, upd_same, dn.append (.cons (flat_dn d7 h7.1) .nil)⟩, h7.2.2⟩⟩
/-- a map: nothing is changed by its turns -/
theorem rLc_map {l : List T} {js : List Nat} {rg : DG} {re : DE} {vs : List Nat} {ρ : Rho} {xw : XW} {μ : Mu} {Φ : List T → Mu → Prop} (f : T → T) (sub : ∀ i ∈ js, i ∈ vs) (sz : l.length ≤ 1000000)
    (turn : ∀ t ∈ l, (f t).flat = true ∧ ∀ Ψ : T → Mu → Prop, Ψ (f t) μ → rg t (wipeR ρ vs) xw μ fun ρ2 μ2 => re ρ2 xw μ2 Ψ) (h : Φ (l.map f) μ) :
    (∀ i ∈ js, i ∈ vs) ∧ ∃ Pv : Nat → List T → Mu → Prop, Pv 0 [] μ ∧
  (∀ (i : Nat) (t : T) (acc : List T) (μ : Mu), l[i]? = some t → Pv i acc μ → rg t (wipeR ρ vs) xw μ fun ρ2 μ2 => (fun ρ xw μ (Φ : Bool → Mu → Prop) => Φ true μ) ρ2 xw μ2 fun b μ3 => if b = true then re ρ2 xw μ3 fun y μ4 => y.flat = true ∧ acc.length < 1000000 ∧ Pv (i + 1) (acc ++ [y]) μ4 else Pv (i + 1) acc μ3) ∧
  ∀ acc μ, Pv l.length acc μ → Φ acc μ := by
  refine ⟨sub, fun i acc m => m = μ ∧ acc = (l.take i).map f, ⟨rfl, by simp⟩, ?_, ?_⟩
  · rintro i t acc m e ⟨rfl, rfl⟩
    obtain ⟨fl, tr⟩ := turn t (List.mem_of_getElem? e)
    have lt := (List.getElem?_eq_some_iff.mp e).1
    refine tr (fun y μ4 => y.flat = true ∧ _) ⟨fl, ?_, rfl, ?_⟩
    · rw [List.length_map, List.length_take]
      omega
    · rw [all_take e, List.map_append]
      rfl
  · rintro acc m ⟨rfl, rfl⟩
    rw [List.take_length]
    exact h
end Dl

set_option maxRecDepth 100000
set_option maxHeartbeats 4000000
namespace Dl
open PySem PySem.Spec PyProof.Rows L2 Gd
variable {K : PySem.W.Frag} {E : XK}
/-! ### what a def promises, told of data -/
/-- arguments (a thing that may be changed by its number among those handed in), what may be changed, what is wanted of an answer, of an error -/
abbrev DSpec := List T → Mu → (T → Mu → Prop) → XW → Prop
def liftSp (K : PySem.W.Frag) (n : Nat) (d : DSpec) : Sp := fun vs H Q E => vs.length = n ∧ ∃ (W : Wd) (ts : List T) (μ : Mu) (Φ : T → Mu → Prop) (xw : XW), Ok K W H μ ∧ DvAll K W vs ts ∧ d ts μ Φ xw ∧
  XL K W (fun C fs μ' => xw C fs (μ'.take μ.length)) E ∧ (∀ {v τ W' H' μ'}, W.Le W' → Ok K W' H' μ' → Dn K W'.B v τ → Φ τ (μ'.take μ.length) → Q v H')
/-- .. of a def that hands back a list that is new -/
def liftSpL (K : PySem.W.Frag) (n : Nat) (d : List T → Mu → (List T → Mu → Prop) → XW → Prop) : Sp := fun vs H Q E => vs.length = n ∧ ∃ (W : Wd) (ts : List T) (μ : Mu) (Φ : List T → Mu → Prop) (xw : XW), Ok K W H μ ∧ DvAll K W vs ts ∧ d ts μ Φ xw ∧
  XL K W (fun C fs μ' => xw C fs (μ'.take μ.length)) E ∧ (∀ {p xs l W' H' μ'}, W.Le W' → Ok K W' H' μ' → Fr K W' H' p xs l → Φ l (μ'.take μ.length) → Q (.ref p) H')
theorem DvAll.length {W : Wd} : ∀ {vs : List V} {ts : List T}, DvAll K W vs ts → vs.length = ts.length
  | _, _, .nil => rfl
  | _, _, .cons _ r => congrArg (· + 1) r.length
theorem DvAll.get {W : Wd} : ∀ {vs : List V} {ts : List T} {i : Nat} {t : T}, DvAll K W vs ts → ts[i]? = some t → ∃ v, vs[i]? = some v ∧ Dv K W v t
  | _, _, 0, _, .cons d _, e => by
    cases (Option.some.inj e)
    exact ⟨_, rfl, d⟩
  | _, _, i + 1, _, .cons _ r, e => r.get (i := i) e
theorem sl_start {W : Wd} {vs : List V} {ts : List T} (N : List PySem.Str) (d : DvAll K W vs ts) : Sl K W (L2.start N vs) (ts.map some ++ List.replicate (N.length - ts.length) none) := by
  unfold L2.start
  rw [d.length]
  refine ⟨by simp [d.length], fun i t e => ?_⟩
  by_cases lt : i < ts.length
  · rw [List.getElem?_append_left (by simpa using lt), List.getElem?_map] at e
    rw [List.getElem?_append_left (by simpa [d.length] using lt), List.getElem?_map]
    cases q : ts[i]? with
    | none => rw [q] at e; cases e
    | some s =>
      rw [q] at e
      cases e
      obtain ⟨v, a, b⟩ := d.get q
      exact ⟨v, by rw [a]; rfl, b⟩
  · rw [List.getElem?_append_right (by simpa using lt)] at e
    simp only [List.getElem?_replicate] at e
    split at e <;> cases e
/-- what may be changed is told no more: its place is known to none -/
theorem Ok.drop {W : Wd} {H : Hp} {μ : Mu} {k : Nat} {l : List T} (x : Ok K W H μ) (e : μ[k]? = some (.lst l)) : ∃ p xs W', W.ad[k]? = some p ∧ W.Le W' ∧ Ok K W' H (μ.set k .gone) ∧ Fr K W' H p xs l := by
  obtain ⟨p, e1, o, xs, eh, d⟩ := x.res k _ e
  obtain ⟨b1, g1, _, lt⟩ := x.lab p k o
  refine ⟨p, xs, { W with own := fun a => if a = p then none else W.own a }, e1, ⟨rfl, Same.refl _, fun _ _ q => .inl q, fun _ _ q => q, rfl⟩, ⟨x.sg, x.sb, fun a j q => ?_, by rw [List.length_set]; exact x.len, fun j r q => ?_, x.tb.wd rfl (fun a q => .inl ?_) fun a q => .inl fun z => q ?_⟩, ⟨b1, g1, if_pos rfl, eh, d⟩⟩
  · by_cases z : a = p
    · subst z
      have q : (if a = a then (none : Option Nat) else W.own a) = some j := q
      rw [if_pos rfl] at q
      cases q
    · have q : (if a = p then (none : Option Nat) else W.own a) = some j := q
      rw [if_neg z] at q
      obtain ⟨a1, a2, a3, a4⟩ := x.lab a j q
      exact ⟨a1, a2, a3, by rw [List.length_set]; exact a4⟩
  · by_cases z : k = j
    · subst z
      rw [List.getElem?_set_self lt] at q
      cases q
      exact ⟨p, e1, trivial⟩
    · rw [List.getElem?_set_ne z] at q
      obtain ⟨p2, e2, r2⟩ := x.res j r q
      refine ⟨p2, e2, ?_⟩
      have key : ∀ a i, W.own a = some i → i = j → (if a = p then (none : Option Nat) else W.own a) = some i := fun a i q2 q3 => by
        rw [if_neg (fun z2 => by subst z2; rw [o] at q2; cases q2; exact z q3)]
        exact q2
      cases r with
      | lst l =>
        obtain ⟨o2, xs2, eh2, d2⟩ := r2
        exact ⟨key _ _ o2 rfl, xs2, eh2, d2⟩
      | drw s n =>
        obtain ⟨o2, lc, ll, cs, ls, i, o3, o4, rest⟩ := r2
        exact ⟨key _ _ o2 rfl, lc, ll, cs, ls, i, key _ _ o3 rfl, key _ _ o4 rfl, rest⟩
      | obj C fs =>
        obtain ⟨o2, dx, vs, o3, rest⟩ := r2
        exact ⟨key _ _ o2 rfl, dx, vs, key _ _ o3 rfl, rest⟩
      | gone => trivial
      | tab TT => exact r2
  · rcases q with q | q | q
    · exact .inl q
    · exact .inr (.inl q)
    · refine .inr (.inr fun z => q ?_)
      show (if a = p then none else W.own a) = none
      rw [z, ite_self]
  · show (if a = p then none else W.own a) = none
    rw [z, ite_self]
/-- an answer -/
def rtD (n : Nat) (Φ : T → Mu → Prop) : T → Mu → Prop := fun τ μ => match τ with
  | .rs k => n ≤ k ∧ ∃ l, μ[k]? = some (.lst l) ∧ Φ (.lst l) (μ.take n)
  | τ => Φ τ (μ.take n)
def rtL (n : Nat) (Φ : List T → Mu → Prop) : T → Mu → Prop := fun τ μ => match τ with
  | .rs k => n ≤ k ∧ ∃ l, μ[k]? = some (.lst l) ∧ Φ l (μ.take n)
  | _ => False
theorem take_set {μ : Mu} {n k : Nat} {r : Res} (h : n ≤ k) : (μ.set k r).take n = μ.take n := by
  apply List.ext_getElem?
  intro i
  simp only [List.getElem?_take]
  by_cases lt : i < n
  · simp only [lt, if_true]
    rw [List.getElem?_set_ne (by omega)]
  · simp [lt]
theorem body_sim {t : TS} {r : DS} {N : List PySem.Str} {n : Nat} {d : DSpec} {vs : List V} {H : Hp} {Q : VK} (h : liftSp K n d vs H Q E) [s : SimS K E t r]
    (k : ∀ ts μ Φ xw, ts.length = n → d ts μ Φ xw → r ⟨fun _ μ' => Φ .non (μ'.take μ.length), rtD μ.length Φ, fun _ _ => False, fun _ _ => False⟩ (fun C fs μ' => xw C fs (μ'.take μ.length)) (ts.map some ++ List.replicate (N.length - n) none) μ) :
    t { nx := fun _ H' => Q .non H', rt := Q } (L2.start N vs) H := by
  obtain ⟨hn, W, ts, μ, Φ, xw, o, dv, sp, xl, q⟩ := h
  have ln : ts.length = n := by rw [← dv.length]; exact hn
  have st := sl_start N dv
  rw [ln] at st
  refine s.run o st xl ⟨fun l o' s' h => q l o' .non h, fun {v τ W' H' μ'} l o' d' h => ?_, fun _ _ _ h => h, fun _ _ _ h => h⟩ (k ts μ Φ xw ln sp)
  rcases d'.dn with ⟨k2, p, rfl, e1, rfl⟩ | dn
  · obtain ⟨le, l2, e2, h⟩ := h
    obtain ⟨p2, xs, W2, e3, l3, o3, f3⟩ := o'.drop e2
    rw [e1] at e3
    cases e3
    obtain ⟨W3, l4, o4, d4⟩ := f3.froz o3
    exact q ((l.trans l3).trans l4) o4 d4 (by rw [take_set le]; exact h)
  · cases τ with
    | rs k2 => cases dn
    | _ => exact q l o' dn h
theorem body_simL {t : TS} {r : DS} {N : List PySem.Str} {n : Nat} {d} {vs : List V} {H : Hp} {Q : VK} (h : liftSpL K n d vs H Q E) [s : SimS K E t r]
    (k : ∀ ts μ Φ xw, ts.length = n → d ts μ Φ xw → r ⟨fun _ μ' => False, rtL μ.length Φ, fun _ _ => False, fun _ _ => False⟩ (fun C fs μ' => xw C fs (μ'.take μ.length)) (ts.map some ++ List.replicate (N.length - n) none) μ) :
    t { nx := fun _ H' => Q .non H', rt := Q } (L2.start N vs) H := by
  obtain ⟨hn, W, ts, μ, Φ, xw, o, dv, sp, xl, q⟩ := h
  have ln : ts.length = n := by rw [← dv.length]; exact hn
  have st := sl_start N dv
  rw [ln] at st
  refine s.run o st xl ⟨fun l o' s' h => False.elim h, fun {v τ W' H' μ'} l o' d' h => ?_, fun _ _ _ h => h, fun _ _ _ h => h⟩ (k ts μ Φ xw ln sp)
  cases τ with
  | rs k2 =>
    obtain ⟨p, e1, rfl⟩ := (show ∃ p, _ from d')
    obtain ⟨le, l2, e2, h⟩ := h
    obtain ⟨p2, xs, W2, e3, l3, o3, f3⟩ := o'.drop e2
    rw [e1] at e3
    cases e3
    exact q (l.trans l3) o3 f3 (by rw [take_set le]; exact h)
  | _ => exact h.elim
/-! ### calls -/
inductive Ren (ks : List Nat) : T → T → Prop
  | fl {t : T} (h : t.flat = true) : Ren ks t t
  | rs {k i : Nat} (h : ks[i]? = some k) : Ren ks (.rs k) (.rs i)
inductive RenAll (ks : List Nat) : List T → List T → Prop
  | nil : RenAll ks [] []
  | cons {t s : T} {ts ss : List T} (h : Ren ks t s) (r : RenAll ks ts ss) : RenAll ks (t :: ts) (s :: ss)
def mget (μ : Mu) : List Nat → Option (List Res)
  | [] => some []
  | k :: ks => match μ[k]? with
    | some r => (mget μ ks).map (r :: ·)
    | none => none
def mput (μ : Mu) : List Nat → List Res → Mu
  | k :: ks, r :: rs => (mput μ ks rs).set k r
  | _, _ => μ
def CallD {α : Type} (d : List T → Mu → (α → Mu → Prop) → XW → Prop) (ts : List T) (μ : Mu) (Φ : α → Mu → Prop) (xw : XW) : Prop :=
  ∃ ks ts' rs, ks.Nodup ∧ RenAll ks ts ts' ∧ mget μ ks = some rs ∧ d ts' rs (fun τ μc => Φ τ (mput μ ks μc)) (fun C fs μc => xw C fs (mput μ ks μc))
theorem ren_flats : ∀ {ts : List T}, flats ts = true → RenAll [] ts ts
  | [], _ => .nil
  | t :: r, h => by
    simp only [flats, Bool.and_eq_true] at h
    exact .cons (.fl h.1) (ren_flats h.2)
theorem callF {α : Type} {d : List T → Mu → (α → Mu → Prop) → XW → Prop} {ts : List T} {μ : Mu} {Φ : α → Mu → Prop} {xw : XW} (h : flats ts = true) (k : d ts [] (fun τ _ => Φ τ μ) (fun C fs _ => xw C fs μ)) : CallD d ts μ Φ xw :=
  ⟨[], ts, [], .nil, ren_flats h, rfl, k⟩
/-- the first is the thing at k, all others are data -/
theorem callR {α : Type} {d : List T → Mu → (α → Mu → Prop) → XW → Prop} {k : Nat} {ts : List T} {μ : Mu} {r : Res} {Φ : α → Mu → Prop} {xw : XW} (e : μ[k]? = some r) (h : flats ts = true) (q : d (.rs 0 :: ts) [r] (fun τ μc => Φ τ (mput μ [k] μc)) (fun C fs μc => xw C fs (mput μ [k] μc))) : CallD d (.rs k :: ts) μ Φ xw := by
  refine ⟨[k], .rs 0 :: ts, [r], (by simp), .cons (.rs rfl) ?_, by simp [mget, e], q⟩
  have : ∀ {ts : List T}, flats ts = true → RenAll [k] ts ts := by
    intro ts
    induction ts with
    | nil => exact fun _ => .nil
    | cons t r ih =>
      intro h
      simp only [flats, Bool.and_eq_true] at h
      exact .cons (.fl h.1) (ih h.2)
  exact this h
def ixk (ks : List Nat) (k : Nat) : Option Nat := if k ∈ ks then some (ks.idxOf k) else none
theorem ixk_some {ks : List Nat} {k i : Nat} (h : ixk ks k = some i) : ks[i]? = some k := by
  unfold ixk at h
  split at h
  · rename_i m
    cases h
    rw [List.getElem?_eq_getElem (List.idxOf_lt_length_of_mem m), List.getElem_idxOf]
  · cases h
theorem ixk_of {ks : List Nat} (nd : ks.Nodup) {k i : Nat} (h : ks[i]? = some k) : ixk ks k = some i := by
  have m : k ∈ ks := List.mem_of_getElem? h
  obtain ⟨lt, e⟩ := List.getElem?_eq_some_iff.mp h
  unfold ixk
  rw [if_pos m]
  congr 1
  subst e
  exact nd.idxOf_getElem i lt
theorem mget_len {μ : Mu} : ∀ {ks : List Nat} {rs : List Res}, mget μ ks = some rs → rs.length = ks.length
  | [], _, h => by cases h; rfl
  | k :: ks, _, h => by
    simp only [mget] at h
    split at h
    · rw [Option.map_eq_some_iff] at h
      obtain ⟨r2, e, rfl⟩ := h
      simp [mget_len e]
    · cases h
theorem mget_at {μ : Mu} : ∀ {ks : List Nat} {rs : List Res} {i : Nat} {r : Res}, mget μ ks = some rs → rs[i]? = some r → ∃ k, ks[i]? = some k ∧ μ[k]? = some r
  | [], _, i, r, h, e => by cases h; simp at e
  | k :: ks, _, i, r, h, e => by
    simp only [mget] at h
    split at h
    · rename_i r0 e0
      rw [Option.map_eq_some_iff] at h
      obtain ⟨r2, e2, rfl⟩ := h
      match i, e with
      | 0, e => cases e; exact ⟨k, rfl, e0⟩
      | i + 1, e => exact mget_at e2 (i := i) e
    · cases h
theorem mget_lt {μ : Mu} : ∀ {ks : List Nat} {rs : List Res} {k : Nat}, mget μ ks = some rs → k ∈ ks → k < μ.length
  | k0 :: ks, _, k, h, m => by
    simp only [mget] at h
    split at h
    · rename_i r0 e0
      rw [Option.map_eq_some_iff] at h
      obtain ⟨r2, e2, rfl⟩ := h
      rcases List.mem_cons.mp m with z | z
      · subst z; exact (List.getElem?_eq_some_iff.mp e0).1
      · exact mget_lt e2 z
    · cases h
theorem mput_len {μ : Mu} : ∀ {ks : List Nat} {rs : List Res}, (mput μ ks rs).length = μ.length
  | [], _ => by simp [mput]
  | _ :: _, [] => by simp [mput]
  | k :: ks, r :: rs => by simp [mput, mput_len]
theorem mput_out {μ : Mu} {j : Nat} : ∀ {ks : List Nat} {rs : List Res}, j ∉ ks → (mput μ ks rs)[j]? = μ[j]?
  | [], _, _ => by simp [mput]
  | _ :: _, [], _ => by simp [mput]
  | k :: ks, r :: rs, h => by
    simp only [mput]
    rw [List.getElem?_set_ne (fun z => h (by simp [z])), mput_out (fun z => h (List.mem_cons_of_mem _ z))]
theorem mput_in {μ : Mu} : ∀ {ks : List Nat} {rs : List Res} {i k : Nat}, ks.Nodup → (∀ k ∈ ks, k < μ.length) → ks[i]? = some k → ks.length ≤ rs.length → (mput μ ks rs)[k]? = rs[i]?
  | k0 :: ks, r :: rs, 0, k, nd, lt, e, le => by
    cases e
    simp only [mput]
    rw [List.getElem?_set_self (by rw [mput_len]; exact lt _ List.mem_cons_self)]
    rfl
  | k0 :: ks, r :: rs, i + 1, k, nd, lt, e, le => by
    simp only [mput]
    have m : k ∈ ks := List.mem_of_getElem? (show ks[i]? = some k from e)
    rw [List.getElem?_set_ne (fun z => (List.nodup_cons.mp nd).1 (by rw [z]; exact m))]
    exact mput_in (List.nodup_cons.mp nd).2 (fun k hk => lt k (List.mem_cons_of_mem _ hk)) (show ks[i]? = some k from e) (by simpa using le)
/-- the callee's world: all but tables -/
def ntO : Option HO → Option HO
  | some (.tbl _) => none
  | o => o
theorem ntO_some {o : Option HO} {u : HO} (h : ntO o = some u) : o = some u ∧ ∀ ps, u ≠ .tbl ps := by
  unfold ntO at h
  split at h
  · cases h
  · rename_i h2
    exact ⟨h, fun ps z => h2 ps (by rw [h, z])⟩
theorem ntO_of {o : Option HO} (h : ∀ ps, o ≠ some (.tbl ps)) : ntO o = o := by
  unfold ntO
  split
  · rename_i ps
    exact absurd rfl (h ps)
  · rfl
theorem Ok.ntk {W : Wd} {H : Hp} {μ : Mu} {a : Addr} (x : Ok K W H μ) (h : W.Kn a) : ∃ u, H a = some u ∧ ntO (H a) = H a := by
  obtain ⟨u, e, n⟩ := x.tb.nt a h
  exact ⟨u, e, ntO_of fun ps z => by rw [e] at z; exact n ps (Option.some.inj z)⟩
theorem Ok.nte {W : Wd} {H : Hp} {μ : Mu} {a : Addr} (x : Ok K W H μ) (h : W.Kn a) : ntO (H a) = H a := by
  obtain ⟨u, e, z⟩ := x.ntk h
  exact z
def Wd.cal (W : Wd) (H : Hp) (ks : List Nat) : Wd where
  T := W.T
  G := fun a => if (∃ k, W.own a = some k ∧ k ∈ ks) then none else ntO (H a)
  B := W.B
  ad := ks.filterMap fun k => W.ad[k]?
  own := fun a => (W.own a).bind (ixk ks)
open Classical in
theorem cal_ad {W : Wd} : ∀ {ks : List Nat} {i k : Nat}, (∀ k ∈ ks, k < W.ad.length) → ks[i]? = some k → (ks.filterMap fun k => W.ad[k]?)[i]? = W.ad[k]?
  | k0 :: ks, i, k, lt, e => by
    have h0 := lt k0 List.mem_cons_self
    rw [List.filterMap_cons, List.getElem?_eq_getElem h0]
    match i, e with
    | 0, e => cases e; simp [List.getElem?_eq_getElem h0]
    | i + 1, e => exact cal_ad (ks := ks) (fun k hk => lt k (List.mem_cons_of_mem _ hk)) (show ks[i]? = some k from e)
theorem cal_len {W : Wd} : ∀ {ks : List Nat}, (∀ k ∈ ks, k < W.ad.length) → (ks.filterMap fun k => W.ad[k]?).length = ks.length
  | [], _ => rfl
  | k0 :: ks, lt => by
    have h0 := lt k0 List.mem_cons_self
    rw [List.filterMap_cons, List.getElem?_eq_getElem h0]
    simp [cal_len (ks := ks) fun k hk => lt k (List.mem_cons_of_mem _ hk)]
theorem ResOk.relab {W W' : Wd} {H H' : Hp} {k j : Nat} {p : Addr} {r : Res} (eT : W'.T = W.T) (b : Same W.B W'.B) (o : ∀ a, W.own a = some k → W'.own a = some j ∧ ∀ u, H a = some u → H' a = some u) (h : ResOk K W H k p r) : ResOk K W' H' j p r := by
  cases r with
  | lst l =>
    obtain ⟨o2, xs2, eh2, d2⟩ := h
    exact ⟨(o _ o2).1, xs2, (o _ o2).2 _ eh2, d2.mono b⟩
  | drw s n =>
    obtain ⟨o2, lc, ll, cs, ls, i, o3, o4, ne, e1, e2, e3, rest⟩ := h
    exact ⟨(o _ o2).1, lc, ll, cs, ls, i, (o _ o3).1, (o _ o4).1, ne, (o _ o2).2 _ e1, (o _ o3).2 _ e2, (o _ o4).2 _ e3, rest⟩
  | obj C fs =>
    obtain ⟨o2, dx, vs, o3, e1, e2, d, c⟩ := h
    exact ⟨(o _ o2).1, dx, vs, (o _ o3).1, (o _ o2).2 _ e1, (o _ o3).2 _ e2, d.mono b, c⟩
  | gone => trivial
  | tab TT => exact eT.trans h
theorem cal_ok {W : Wd} {H : Hp} {μ : Mu} {ks : List Nat} {rs : List Res} (x : Ok K W H μ) (nd : ks.Nodup) (g : mget μ ks = some rs) : Ok K (W.cal H ks) H rs := by
  have lt : ∀ k ∈ ks, k < W.ad.length := fun k hk => by rw [x.len]; exact mget_lt g hk
  refine ⟨fun a u q => ?_, x.sb, fun a i q => ?_, by rw [mget_len g]; exact cal_len lt, fun i r q => ?_, x.tb.wd rfl (fun a q => ?_) fun a q => .inl fun z => q ?_⟩
  · have q : (if (∃ k, W.own a = some k ∧ k ∈ ks) then none else ntO (H a)) = some u := q
    split at q
    · cases q
    · exact (ntO_some q).1
  · obtain ⟨k, e1, e2⟩ := Option.bind_eq_some_iff.mp (show (W.own a).bind (ixk ks) = some i from q)
    obtain ⟨a1, a2, a3, a4⟩ := x.lab a k e1
    have ek := ixk_some e2
    refine ⟨a1, ?_, a3, ?_⟩
    · show (if (∃ k, W.own a = some k ∧ k ∈ ks) then none else ntO (H a)) = none
      rw [if_pos ⟨k, e1, List.mem_of_getElem? ek⟩]
    · rw [mget_len g]
      exact (List.getElem?_eq_some_iff.mp ek).1
  · obtain ⟨k, ek, er⟩ := mget_at g q
    obtain ⟨p, ep, r1⟩ := x.res k r er
    refine ⟨p, ?_, ResOk.relab (W := W) (H := H) (k := k) rfl (Same.refl _) (fun a o => ⟨?_, fun _ q => q⟩) r1⟩
    · show (ks.filterMap fun k => W.ad[k]?)[i]? = some p
      rw [cal_ad lt ek]
      exact ep
    · show (W.own a).bind (ixk ks) = some i
      rw [o]
      exact ixk_of nd ek
  · rcases q with q | q | q
    · cases z : (W.cal H ks).G a with
      | none => exact absurd z q
      | some u =>
        have z : (if (∃ k, W.own a = some k ∧ k ∈ ks) then none else ntO (H a)) = some u := z
        split at z
        · cases z
        · exact .inr ⟨u, ntO_some z⟩
    · exact .inl (.inr (.inl q))
    · refine .inl (.inr (.inr fun z => q ?_))
      show (W.own a).bind (ixk ks) = none
      rw [z]
      rfl
  · show (W.own a).bind (ixk ks) = none
    rw [z]
    rfl
theorem cal_dv {W : Wd} {H : Hp} {μ : Mu} {ks : List Nat} {rs : List Res} (x : Ok K W H μ) (g : mget μ ks = some rs) : ∀ {vs : List V} {ts ts' : List T}, DvAll K W vs ts → RenAll ks ts ts' → DvAll K (W.cal H ks) vs ts'
  | _, _, _, .nil, .nil => .nil
  | _, _, _, .cons d r, .cons h k => by
    refine .cons ?_ (cal_dv x g r k)
    cases h with
    | fl f =>
      have q : Dn K W.B _ _ := flat_dn d f
      exact Dv.of (W := W.cal H ks) q
    | rs e =>
      obtain ⟨p, ep, rfl⟩ := (show ∃ p, _ from d)
      refine ⟨p, ?_, rfl⟩
      show (ks.filterMap fun k => W.ad[k]?)[_]? = some p
      rw [cal_ad (fun k hk => by rw [x.len]; exact mget_lt g hk) e]
      exact ep
/-- behind the call -/
def Wd.bac (W W' : Wd) (ks : List Nat) : Wd where
  T := W.T
  G := W.G
  B := W'.B
  ad := W.ad
  own := fun a => match W'.own a with
    | some i => ks[i]?
    | none => if (∃ k, W.own a = some k ∧ k ∈ ks) then none else W.own a
theorem cal_bac {W W' : Wd} {H H' : Hp} {μ μ' : Mu} {ks : List Nat} {rs : List Res} (x : Ok K W H μ) (nd : ks.Nodup) (g : mget μ ks = some rs) (l : (W.cal H ks).Le W') (x' : Ok K W' H' μ') :
    W.Le (W.bac W' ks) ∧ Ok K (W.bac W' ks) H' (mput μ ks (μ'.take ks.length)) ∧ (W.bac W' ks).B = W'.B := by
  have lt : ∀ k ∈ ks, k < μ.length := fun k hk => mget_lt g hk
  have lta : ∀ k ∈ ks, k < W.ad.length := fun k hk => by rw [x.len]; exact lt k hk
  have gn : ∀ a, (W.cal H ks).G a = none → W.G a = none := fun a q => by
    have q : (if (∃ k, W.own a = some k ∧ k ∈ ks) then none else ntO (H a)) = none := q
    split at q
    · rename_i h
      obtain ⟨k, e, _⟩ := h
      exact (x.lab a k e).2.1
    · cases z : W.G a with
      | none => rfl
      | some u =>
        obtain ⟨_, e1, e2⟩ := x.ntk (.inl (by rw [z]; exact fun z => by cases z))
        rw [e2, e1] at q
        cases q
  -- a thing of another one stands as it stood
  have oth : ∀ a j, W.own a = some j → j ∉ ks → (W.cal H ks).G a = H a := fun a j e h => by
    show (if (∃ k, W.own a = some k ∧ k ∈ ks) then none else ntO (H a)) = H a
    rw [if_neg]
    · exact (x.nte (.inr (.inr (by rw [e]; exact fun z => by cases z))))
    rintro ⟨k, e2, m⟩
    rw [e] at e2
    cases e2
    exact h m
  have nown : ∀ a j, W.own a = some j → j ∉ ks → W'.own a = none := fun a j e h => by
    cases q : W'.own a with
    | none => rfl
    | some i =>
      have := (x'.lab a i q).2.1
      rw [l.g, oth a j e h] at this
      exact absurd this (x.lab a j e).2.2.1
  have stay : ∀ a j u, W.own a = some j → j ∉ ks → H a = some u → H' a = some u := fun a j u e h q => x'.sg a u (by rw [l.g, oth a j e h]; exact q)
  have len' : ks.length ≤ μ'.length := by
    rw [← x'.len]
    have : ks.length = (W.cal H ks).ad.length := (cal_len lta).symm
    rw [this]
    cases q : (W.cal H ks).ad.length with
    | zero => omega
    | succ n =>
      have := l.ad n ((W.cal H ks).ad[n]'(by omega)) (List.getElem?_eq_getElem _)
      have := (List.getElem?_eq_some_iff.mp this).1
      omega
  refine ⟨⟨rfl, l.b, fun a u q => (l.nb a u q).imp id (gn a), fun _ _ q => q, rfl⟩, ⟨fun a u q => ?_, x'.sb, fun a k q => ?_, by rw [mput_len]; exact x.len, fun j r q => ?_, x'.tb.wd l.t.symm (fun a q => .inl ?_) fun a q => ?_⟩, rfl⟩
  · apply x'.sg
    rw [l.g]
    show (if (∃ k, W.own a = some k ∧ k ∈ ks) then none else ntO (H a)) = some u
    rw [if_neg]
    · rw [(x.nte (.inl (by rw [show W.G a = some u from q]; exact fun z => by cases z)))]
      exact x.sg _ _ q
    · rintro ⟨k, e, _⟩
      have q : W.G a = some u := q
      rw [(x.lab a k e).2.1] at q
      cases q
  · have q : (match W'.own a with | some i => ks[i]? | none => if (∃ k, W.own a = some k ∧ k ∈ ks) then none else W.own a) = some k := q
    split at q
    · rename_i i e
      obtain ⟨a1, a2, a3, a4⟩ := x'.lab a i e
      refine ⟨a1, gn a (by rw [← l.g]; exact a2), a3, ?_⟩
      rw [mput_len]
      exact lt k (List.mem_of_getElem? q)
    · split at q
      · cases q
      · rename_i h
        have nk : k ∉ ks := fun m => h ⟨k, q, m⟩
        obtain ⟨a1, a2, a3, a4⟩ := x.lab a k q
        refine ⟨?_, a2, ?_, by rw [mput_len]; exact a4⟩
        · show W'.B a = none
          cases z : W'.B a with
          | none => rfl
          | some u =>
            rcases l.nb a u z with z | z
            · rw [show (W.cal H ks).B a = W.B a from rfl, a1] at z
              cases z
            · rw [oth a k q nk] at z
              exact absurd z a3
        · cases z : H a with
          | none => exact absurd z a3
          | some u =>
            rw [stay a k u q nk z]
            exact fun z => by cases z
  · by_cases m : j ∈ ks
    · obtain ⟨i, ei⟩ := List.getElem?_of_mem m
      have li : i < ks.length := (List.getElem?_eq_some_iff.mp ei).1
      rw [mput_in nd lt ei (by rw [List.length_take]; omega), List.getElem?_take, if_pos li] at q
      obtain ⟨p, ep, r1⟩ := x'.res i r q
      have ea : (W.cal H ks).ad[i]? = W.ad[j]? := cal_ad lta ei
      refine ⟨p, ?_, ResOk.relab (W := W') (H := H') (k := i) l.t.symm (Same.refl _) (fun a o => ⟨?_, fun _ q => q⟩) r1⟩
      · show W.ad[j]? = some p
        cases z : W.ad[j]? with
        | none =>
          have := lta j m
          rw [List.getElem?_eq_getElem this] at z
          cases z
        | some p2 =>
          rw [z] at ea
          have := l.ad i p2 ea
          rw [ep] at this
          exact this.symm
      · show (match W'.own a with | some i => ks[i]? | none => _) = some j
        rw [o]
        exact ei
    · rw [mput_out m] at q
      obtain ⟨p, ep, r1⟩ := x.res j r q
      refine ⟨p, ep, ResOk.relab (W := W) (H := H) (k := j) rfl l.b (fun a o => ⟨?_, fun u q => stay a j u o m q⟩) r1⟩
      show (match W'.own a with | some i => ks[i]? | none => _) = some j
      rw [nown a j o m]
      show (if (∃ k, W.own a = some k ∧ k ∈ ks) then none else W.own a) = some j
      rw [if_neg]
      · exact o
      · rintro ⟨k, e2, m2⟩
        rw [o] at e2
        cases e2
        exact m m2
  · rcases q with q | q | q
    · cases z : W.G a with
      | none => exact absurd z q
      | some u =>
        obtain ⟨u2, e1, e2⟩ := x.ntk (.inl (show W.G a ≠ none from q))
        refine .inl ?_
        rw [l.g]
        show (if (∃ k, W.own a = some k ∧ k ∈ ks) then none else ntO (H a)) ≠ none
        rw [if_neg]
        · rw [e2, e1]
          exact fun z => by cases z
        · rintro ⟨k, e, _⟩
          rw [(x.lab a k e).2.1] at z
          cases z
    · exact .inr (.inl q)
    · cases z : W'.own a with
      | some i => exact .inr (.inr (by rw [z]; exact fun z => by cases z))
      | none =>
        have q : (match W'.own a with | some i => ks[i]? | none => if (∃ k, W.own a = some k ∧ k ∈ ks) then none else W.own a) ≠ none := q
        rw [z] at q
        have q : (if (∃ k, W.own a = some k ∧ k ∈ ks) then none else W.own a) ≠ none := q
        split at q
        · exact absurd rfl q
        · rename_i h
          cases z2 : W.own a with
          | none => exact absurd z2 q
          | some k =>
            have nk : k ∉ ks := fun m => h ⟨k, z2, m⟩
            refine .inl ?_
            rw [l.g, oth a k z2 nk]
            exact (x.lab a k z2).2.2.1
  · have q : (match W'.own a with | some i => ks[i]? | none => if (∃ k, W.own a = some k ∧ k ∈ ks) then none else W.own a) ≠ none := q
    cases z : W'.own a with
    | some i => exact .inl (fun z => by cases z)
    | none =>
      rw [z] at q
      have q : (if (∃ k, W.own a = some k ∧ k ∈ ks) then none else W.own a) ≠ none := q
      split at q
      · exact absurd rfl q
      · rename_i h
        cases z2 : W.own a with
        | none => exact absurd z2 q
        | some k =>
          have nk : k ∉ ks := fun m => h ⟨k, z2, m⟩
          obtain ⟨u, e1, e2⟩ := x.tb.po a q
          exact .inr ⟨u, stay a k u z2 nk e1, e2⟩
end Dl

set_option maxRecDepth 100000
set_option maxHeartbeats 4000000
namespace Dl
open PySem PySem.Spec PyProof.Rows L2 Gd
variable {K : PySem.W.Frag} {E : XK}
/-- defaults, told of data -/
class SimD (K : PySem.W.Frag) (vs : List V) (ts : outParam (List T)) : Prop where
  all : ∀ W : Wd, DvAll K W vs ts
instance sim_dnil : SimD K [] [] := ⟨fun _ => .nil⟩
instance sim_dint {i : Int} {vs : List V} {ts} [a : SimD K vs ts] : SimD K (.int i :: vs) (.int i :: ts) := ⟨fun W => .cons (Dv.of (.int i)) (a.all W)⟩
instance sim_dbl {i : Bool} {vs : List V} {ts} [a : SimD K vs ts] : SimD K (.bl i :: vs) (.bl i :: ts) := ⟨fun W => .cons (Dv.of (.bl i)) (a.all W)⟩
instance sim_dnon {vs : List V} {ts} [a : SimD K vs ts] : SimD K (.non :: vs) (.non :: ts) := ⟨fun W => .cons (Dv.of .non) (a.all W)⟩
theorem DvAll.app {W : Wd} : ∀ {vs us : List V} {ts ss : List T}, DvAll K W vs ts → DvAll K W us ss → DvAll K W (vs ++ us) (ts ++ ss)
  | _, _, _, _, .nil, h => h
  | _, _, _, _, .cons d r, h => .cons d (r.app h)
theorem xl_cal {W : Wd} {H : Hp} {μ : Mu} {ks : List Nat} {rs : List Res} {xw : XW} (x : Ok K W H μ) (nd : ks.Nodup) (g : mget μ ks = some rs) (n : XL K W xw E) : XL K (W.cal H ks) (fun C fs μ' => (fun C fs μc => xw C fs (mput μ ks μc)) C fs (μ'.take rs.length)) E := fun {C d fs τs W' H' μ'} l o e df h => by
  obtain ⟨b1, b2, b3⟩ := cal_bac x nd g l o
  rw [mget_len g] at h
  exact n b1 b2 e (by rw [b3]; exact df) h
/-- the promise is called -/
theorem call_sim {n : Nat} {d : DSpec} {W : Wd} {H : Hp} {μ : Mu} {vs : List V} {ts : List T} {Φ : T → Mu → Prop} {xw : XW} {Q : VK} (x : Ok K W H μ) (dv : DvAll K W vs ts) (ln : ts.length = n) (xl : XL K W xw E) (h : CallD d ts μ Φ xw)
    (q : ∀ {v τ W' H' μ'}, W.Le W' → Ok K W' H' μ' → Dv K W' v τ → Φ τ μ' → Q v H') : liftSp K n d vs H Q E := by
  obtain ⟨ks, ts', rs, nd, ren, g, h⟩ := h
  refine ⟨by rw [dv.length]; exact ln, W.cal H ks, ts', rs, _, _, cal_ok x nd g, cal_dv x g dv ren, h, xl_cal x nd g xl, fun {v τ W' H' μ'} l o d2 h2 => ?_⟩
  obtain ⟨b1, b2, b3⟩ := cal_bac x nd g l o
  rw [mget_len g] at h2
  exact q b1 b2 (.of (by rw [b3]; exact d2)) h2
theorem call_simL {n : Nat} {d} {W : Wd} {H : Hp} {μ : Mu} {vs : List V} {ts : List T} {Φ : List T → Mu → Prop} {xw : XW} {Q : VK} (x : Ok K W H μ) (dv : DvAll K W vs ts) (ln : ts.length = n) (xl : XL K W xw E) (h : CallD d ts μ Φ xw)
    (q : ∀ {p xs l W' H' μ'}, W.Le W' → Ok K W' H' μ' → Fr K W' H' p xs l → Φ l μ' → Q (.ref p) H') : liftSpL K n d vs H Q E := by
  obtain ⟨ks, ts', rs, nd, ren, g, h⟩ := h
  refine ⟨by rw [dv.length]; exact ln, W.cal H ks, ts', rs, _, _, cal_ok x nd g, cal_dv x g dv ren, h, xl_cal x nd g xl, fun {p xs l W' H' μ'} le o f h2 => ?_⟩
  obtain ⟨b1, b2, b3⟩ := cal_bac x nd g le o
  rw [mget_len g] at h2
  refine q b1 b2 ⟨by rw [b3]; exact f.b, ?_, ?_, f.h, by rw [b3]; exact f.d⟩ h2
  · have := f.g
    rw [le.g] at this
    have z : (if (∃ k, W.own p = some k ∧ k ∈ ks) then none else ntO (H p)) = none := this
    split at z
    · rename_i h3
      obtain ⟨k, e, _⟩ := h3
      exact (x.lab p k e).2.1
    · cases z2 : W.G p with
      | none => exact z2
      | some u =>
        obtain ⟨_, e1, e2⟩ := x.ntk (.inl (by rw [z2]; exact fun z => by cases z))
        rw [e2, e1] at z
        cases z
  · show (match W'.own p with | some i => ks[i]? | none => if (∃ k, W.own p = some k ∧ k ∈ ks) then none else W.own p) = none
    rw [f.o]
    show (if (∃ k, W.own p = some k ∧ k ∈ ks) then none else W.own p) = none
    split
    · rfl
    · rename_i h3
      cases z : W.own p with
      | none => rfl
      | some k =>
        exfalso
        have nk : k ∉ ks := fun m => h3 ⟨k, z, m⟩
        have g2 : (W.cal H ks).G p = H p := by
          show (if (∃ k, W.own p = some k ∧ k ∈ ks) then none else ntO (H p)) = H p
          rw [if_neg h3]
          exact (x.nte (.inr (.inr (by rw [z]; exact fun z => by cases z))))
        have := f.g
        rw [le.g, g2] at this
        exact (x.lab p k z).2.2.1 this
def rCall (n : Nat) (d : DSpec) (τs : List T) (ra : DA) : DE := fun ρ xw μ Φ => ra ρ xw μ fun ts μ' => (ts ++ τs).length = n ∧ CallD d (ts ++ τs) μ' Φ xw
instance sim_call {n : Nat} {d : DSpec} {dvs : List V} {t : TA} {ra τs} [a : SimA K E t ra] [z : SimD K dvs τs] : SimE K E (tCall (liftSp K n d) dvs E t) (rCall n d τs ra) := ⟨fun x s k h q => a.run x s k h fun l1 x1 d1 h1 =>
  call_sim x1 (d1.app (z.all _)) h1.1 (k.mono l1) h1.2 fun l2 x2 d2 h2 => q (l1.trans l2) x2 d2 h2⟩
/-- .. of a def that raises nothing -/
theorem xl_none {W : Wd} {E : XK} : XL K W (fun _ _ _ => False) E := fun _ _ _ _ h => h.elim
theorem lift_E {n : Nat} {d : DSpec} {vs : List V} {H : Hp} {Q : VK} {E E' : XK} (h : liftSp K n d vs H Q E) (q : ∀ cls dx H', E cls dx H' → E' cls dx H') : liftSp K n d vs H Q E' := by
  obtain ⟨a, W, ts, μ, Φ, xw, o, dv, sp, xl, qq⟩ := h
  exact ⟨a, W, ts, μ, Φ, xw, o, dv, sp, fun l o e df x => q _ _ _ (xl l o e df x), qq⟩
def rCall0 (n : Nat) (d : DSpec) (τs : List T) (ra : DA) : DE := fun ρ xw μ Φ => ra ρ xw μ fun ts μ' => (ts ++ τs).length = n ∧ CallD d (ts ++ τs) μ' Φ (fun _ _ _ => False)
instance (priority := 500) sim_call0 {n : Nat} {d : DSpec} {dvs : List V} {t : TA} {ra τs} [a : SimA K E t ra] [z : SimD K dvs τs] : SimE K E (tCall (liftSp K n d) dvs (fun _ _ _ => False) t) (rCall0 n d τs ra) := ⟨fun x s k h q => a.run x s k h fun l1 x1 d1 h1 =>
  call_sim x1 (d1.app (z.all _)) h1.1 (@xl_none K _ _) h1.2 fun l2 x2 d2 h2 => q (l1.trans l2) x2 d2 h2⟩
def rCallL (n : Nat) (d : List T → Mu → (List T → Mu → Prop) → XW → Prop) (τs : List T) (ra : DA) : DL := fun ρ xw μ Φ => ra ρ xw μ fun ts μ' => (ts ++ τs).length = n ∧ CallD d (ts ++ τs) μ' Φ xw
instance sim_callL {n : Nat} {d} {dvs : List V} {t : TA} {ra τs} [a : SimA K E t ra] [z : SimD K dvs τs] : SimL K E (tCall (liftSpL K n d) dvs E t) (rCallL n d τs ra) := ⟨fun x s k h q => a.run x s k h fun l1 x1 d1 h1 =>
  call_simL x1 (d1.app (z.all _)) h1.1 (k.mono l1) h1.2 fun l2 x2 d2 h2 => q (l1.trans l2) x2 d2 h2⟩
def rCallL0 (n : Nat) (d : List T → Mu → (List T → Mu → Prop) → XW → Prop) (τs : List T) (ra : DA) : DL := fun ρ xw μ Φ => ra ρ xw μ fun ts μ' => (ts ++ τs).length = n ∧ CallD d (ts ++ τs) μ' Φ (fun _ _ _ => False)
instance (priority := 500) sim_callL0 {n : Nat} {d} {dvs : List V} {t : TA} {ra τs} [a : SimA K E t ra] [z : SimD K dvs τs] : SimL K E (tCall (liftSpL K n d) dvs (fun _ _ _ => False) t) (rCallL0 n d τs ra) := ⟨fun x s k h q => a.run x s k h fun l1 x1 d1 h1 =>
  call_simL x1 (d1.app (z.all _)) h1.1 (@xl_none K _ _) h1.2 fun l2 x2 d2 h2 => q (l1.trans l2) x2 d2 h2⟩
/-! ### methods of own objects -/
def rMeth (C : Addr) (m : PySem.Str) (n : Nat) (d : DSpec) (τs : List T) (r : DE) (ra : DA) : DE := fun ρ xw μ Φ => r ρ xw μ fun t μ1 => (∃ fs, view μ1 t = .obj C fs ∧ fs.lookup m = none) ∧
  ra ρ xw μ1 fun ts μ' => (t :: (ts ++ τs)).length = n ∧ CallD d (t :: (ts ++ τs)) μ' Φ xw
instance sim_meth {C : Addr} {m : PySem.Str} {n : Nat} {d : DSpec} {dvs : List V} {te : TE} {t : TA} {r ra τs} [b : SimE K E te r] [a : SimA K E t ra] [z : SimD K dvs τs] : SimE K E (tMeth C m (liftSp K n d) dvs E te t) (rMeth C m n d τs r ra) := ⟨fun x s k h q => b.run x s k h fun l0 x0 d0 h0 => by
  obtain ⟨⟨fs, e, no⟩, h0⟩ := h0
  obtain ⟨p, dx, vs, rfl, e3, d3, c⟩ := view_obj x0 d0 e
  exact ⟨p, dx, vs, rfl, e3, d3.lookN no, a.run x0 (s.mono l0) (k.mono l0) h0 fun l1 x1 d1 h1 => call_sim x1 (.cons (d0.mono l1) (d1.app (z.all _))) h1.1 (k.mono (l0.trans l1)) h1.2 fun l2 x2 d2 h2 => q ((l0.trans l1).trans l2) x2 d2 h2⟩⟩
def rMeth0 (C : Addr) (m : PySem.Str) (n : Nat) (d : DSpec) (τs : List T) (r : DE) (ra : DA) : DE := fun ρ xw μ Φ => r ρ xw μ fun t μ1 => (∃ fs, view μ1 t = .obj C fs ∧ fs.lookup m = none) ∧
  ra ρ xw μ1 fun ts μ' => (t :: (ts ++ τs)).length = n ∧ CallD d (t :: (ts ++ τs)) μ' Φ (fun _ _ _ => False)
instance (priority := 500) sim_meth0 {C : Addr} {m : PySem.Str} {n : Nat} {d : DSpec} {dvs : List V} {te : TE} {t : TA} {r ra τs} [b : SimE K E te r] [a : SimA K E t ra] [z : SimD K dvs τs] : SimE K E (tMeth C m (liftSp K n d) dvs (fun _ _ _ => False) te t) (rMeth0 C m n d τs r ra) := ⟨fun x s k h q => b.run x s k h fun l0 x0 d0 h0 => by
  obtain ⟨⟨fs, e, no⟩, h0⟩ := h0
  obtain ⟨p, dx, vs, rfl, e3, d3, c⟩ := view_obj x0 d0 e
  exact ⟨p, dx, vs, rfl, e3, d3.lookN no, a.run x0 (s.mono l0) (k.mono l0) h0 fun l1 x1 d1 h1 => call_sim x1 (.cons (d0.mono l1) (d1.app (z.all _))) h1.1 (@xl_none K _ _) h1.2 fun l2 x2 d2 h2 => q ((l0.trans l1).trans l2) x2 d2 h2⟩⟩
def rMethL0 (C : Addr) (m : PySem.Str) (n : Nat) (d : List T → Mu → (List T → Mu → Prop) → XW → Prop) (τs : List T) (r : DE) (ra : DA) : DL := fun ρ xw μ Φ => r ρ xw μ fun t μ1 => (∃ fs, view μ1 t = .obj C fs ∧ fs.lookup m = none) ∧
  ra ρ xw μ1 fun ts μ' => (t :: (ts ++ τs)).length = n ∧ CallD d (t :: (ts ++ τs)) μ' Φ (fun _ _ _ => False)
instance (priority := 500) sim_methL0 {C : Addr} {m : PySem.Str} {n : Nat} {d} {dvs : List V} {te : TE} {t : TA} {r ra τs} [b : SimE K E te r] [a : SimA K E t ra] [z : SimD K dvs τs] : SimL K E (tMeth C m (liftSpL K n d) dvs (fun _ _ _ => False) te t) (rMethL0 C m n d τs r ra) := ⟨fun x s k h q => b.run x s k h fun l0 x0 d0 h0 => by
  obtain ⟨⟨fs, e, no⟩, h0⟩ := h0
  obtain ⟨p, dx, vs, rfl, e3, d3, c⟩ := view_obj x0 d0 e
  exact ⟨p, dx, vs, rfl, e3, d3.lookN no, a.run x0 (s.mono l0) (k.mono l0) h0 fun l1 x1 d1 h1 => call_simL x1 (.cons (d0.mono l1) (d1.app (z.all _))) h1.1 (@xl_none K _ _) h1.2 fun l2 x2 d2 h2 => q ((l0.trans l1).trans l2) x2 d2 h2⟩⟩
/-! ### C(..) -/
/-- a new object, owned -/
theorem Ok.make {W : Wd} {H : Hp} {μ : Mu} {x dx C : Addr} (o : Ok K W H μ) (hx : H x = none) (hd : H dx = none) (ne : dx ≠ x) (c : COk K C []) :
    ∃ W', W.Le W' ∧ Ok K W' (upd (upd H dx (.own x)) x (.ins C dx [])) (μ ++ [.obj C []]) ∧ W'.ad[μ.length]? = some x := by
  have ad1 : (W.ad ++ [x])[μ.length]? = some x := by rw [← o.len]; simp
  have sH : Same H (upd (upd H dx (.own x)) x (.ins C dx [])) := (same_new hd).trans (same_new (by rw [upd_ne (Ne.symm ne)]; exact hx))
  have ox : ∀ a, H a = none → W.own a = none := fun a h => by
    cases e : W.own a with
    | none => rfl
    | some k => exact absurd h (o.lab a k e).2.2.1
  refine ⟨{ W with ad := W.ad ++ [x], own := fun a => if a = x ∨ a = dx then some μ.length else W.own a }, ⟨rfl, Same.refl _, fun _ _ q => .inl q, fun k p q => ?_, rfl⟩, ⟨o.sg.trans sH, o.sb.trans sH, fun a k q => ?_, by simp [o.len], fun k r q => ?_, o.tb.grow sH rfl (fun a q => ?_) fun a q => ?_⟩, ad1⟩
  · show (W.ad ++ [x])[k]? = _
    rw [List.getElem?_append_left (List.getElem?_eq_some_iff.mp q).1]
    exact q
  · have q : (if a = x ∨ a = dx then some μ.length else W.own a) = some k := q
    by_cases z : a = x ∨ a = dx
    · rw [if_pos z] at q
      cases q
      have ha : H a = none := by rcases z with z | z <;> subst z <;> assumption
      refine ⟨o.sb.free ha, o.sg.free ha, ?_, by simp⟩
      rcases z with z | z
      · subst z; rw [upd_same]; exact fun z => by cases z
      · subst z; rw [upd_ne ne, upd_same]; exact fun z => by cases z
    · rw [if_neg z] at q
      obtain ⟨a1, a2, a3, a4⟩ := o.lab a k q
      refine ⟨a1, a2, ?_, by simp; omega⟩
      rw [upd_ne (fun y => z (.inl y)), upd_ne (fun y => z (.inr y))]
      exact a3
  · by_cases lt : k < μ.length
    · rw [List.getElem?_append_left lt] at q
      obtain ⟨p, ep, r1⟩ := o.res k r q
      refine ⟨p, ?_, ResOk.relab (W := W) (H := H) (k := k) rfl (Same.refl _) (fun a oa => ⟨?_, fun u q => sH _ _ q⟩) r1⟩
      · show (W.ad ++ [x])[k]? = _
        rw [List.getElem?_append_left (by rw [o.len]; exact lt)]
        exact ep
      · show (if a = x ∨ a = dx then some μ.length else W.own a) = some k
        rw [if_neg]
        · exact oa
        · rintro (z | z) <;> subst z
          · rw [ox _ hx] at oa; cases oa
          · rw [ox _ hd] at oa; cases oa
    · have ek : k = μ.length := by
        have := (List.getElem?_eq_some_iff.mp q).1
        simp at this
        omega
      subst ek
      simp at q
      subst q
      exact ⟨x, ad1, if_pos (.inl rfl), dx, [], if_pos (.inr rfl), upd_same, by rw [upd_ne ne, upd_same], .nil, c⟩
  · rcases q with q | q | q
    · exact .inl (.inl q)
    · exact .inl (.inr (.inl q))
    · have q : (if a = x ∨ a = dx then some μ.length else W.own a) ≠ none := q
      by_cases z : a = x ∨ a = dx
      · rcases z with z | z
        · subst z; exact .inr ⟨_, upd_same, fun ps z => by cases z⟩
        · subst z; exact .inr ⟨.own x, by rw [upd_ne ne, upd_same], fun ps z => by cases z⟩
      · rw [if_neg z] at q
        exact .inl (.inr (.inr q))
  · have q : (if a = x ∨ a = dx then some μ.length else W.own a) ≠ none := q
    by_cases z : a = x ∨ a = dx
    · rcases z with z | z
      · subst z; exact .inr ⟨_, upd_same, fun ps z => (by cases z), fun ps z => (by cases z)⟩
      · subst z; exact .inr ⟨.own x, by rw [upd_ne ne, upd_same], fun ps z => (by cases z), fun ps z => (by cases z)⟩
    · rw [if_neg z] at q
      exact .inl q
/-- the object is done: data from here on -/
theorem Ok.done {W : Wd} {H : Hp} {μ : Mu} {k : Nat} {C : Addr} {fs : List (PySem.Str × T)} {p : Addr} (x : Ok K W H (μ ++ [.obj C fs])) (e : k = μ.length) (ep : W.ad[k]? = some p) : ∃ W', W'.G = W.G ∧ Same W.B W'.B ∧ (∀ a u, W'.B a = some u → W.B a = some u ∨ W.G a = none) ∧ W'.ad = W.ad.take μ.length ∧ Ok K W' H μ ∧ Dn K W'.B (.ref p) (.obj C fs) ∧ W'.T = W.T := by
  subst e
  obtain ⟨p1, e1, o, dx, vs, o2, eh, ed, d, c⟩ := x.res μ.length (.obj C fs) (by simp)
  rw [ep] at e1
  cases e1
  obtain ⟨b1, g1, _, _⟩ := x.lab p _ o
  have sB : Same W.B (upd W.B p (.ins C dx vs)) := same_new b1
  have oown : ∀ a k, W.own a = some k → k ≠ μ.length → a ≠ p := fun a k q h z => by
    subst z
    rw [o] at q
    cases q
    exact h rfl
  have lw : W.ad.length = μ.length + 1 := by rw [x.len]; simp
  refine ⟨⟨W.G, upd W.B p (.ins C dx vs), W.ad.take μ.length, fun a => if W.own a = some μ.length then none else W.own a, W.T⟩, rfl, sB, fun a u q => ?_, rfl, ⟨x.sg, fun a u q => ?_, fun a k q => ?_, by simp [lw], fun k r q => ?_, x.tb.wd rfl (fun a q => .inl ?_) fun a q => .inl fun z => q ?_⟩, .obj upd_same c (d.mono sB), rfl⟩
  · have q : upd W.B p (.ins C dx vs) a = some u := q
    by_cases z : a = p
    · subst z; exact .inr g1
    · rw [upd_ne z] at q; exact .inl q
  · have q : upd W.B p (.ins C dx vs) a = some u := q
    by_cases z : a = p
    · subst z; rw [upd_same] at q; cases q; exact eh
    · rw [upd_ne z] at q; exact x.sb _ _ q
  · have q : (if W.own a = some μ.length then none else W.own a) = some k := q
    split at q
    · cases q
    · rename_i h
      obtain ⟨a1, a2, a3, a4⟩ := x.lab a k q
      have ne : k ≠ μ.length := fun z => h (by rw [q, z])
      refine ⟨?_, a2, a3, by simp at a4; omega⟩
      show upd W.B p (.ins C dx vs) a = none
      rw [upd_ne (oown a k q ne)]
      exact a1
  · have lt : k < μ.length := (List.getElem?_eq_some_iff.mp q).1
    obtain ⟨p2, e2, r2⟩ := x.res k r (by rw [List.getElem?_append_left lt]; exact q)
    refine ⟨p2, by simp [lt, e2], ResOk.relab (W := W) (H := H) (k := k) rfl sB (fun a oa => ⟨?_, fun _ q => q⟩) r2⟩
    show (if W.own a = some μ.length then none else W.own a) = some k
    rw [if_neg (fun z => by rw [oa] at z; cases z; omega)]
    exact oa
  · rcases q with q | q | q
    · exact .inl q
    · by_cases z : a = p
      · subst z
        exact .inr (.inr (by rw [o]; exact fun z => by cases z))
      · exact .inr (.inl (by rw [← upd_ne (H := W.B) (o := .ins C dx vs) z]; exact q))
    · refine .inr (.inr fun z => q ?_)
      show (if W.own a = some μ.length then none else W.own a) = none
      rw [z, ite_self]
  · show (if W.own a = some μ.length then none else W.own a) = none
    rw [z, ite_self]
/-- what C(..) comes to: __init__ of a new object, which is data then -/
def rMake (C : Addr) (n : Nat) (d : DSpec) (τs : List T) (K : PySem.W.Frag) (ra : DA) : DE := fun ρ xw μ Φ => ra ρ xw μ fun ts μ' => COk K C [] ∧ (ts ++ τs).length + 1 = n ∧
  CallD d (.rs μ'.length :: (ts ++ τs)) (μ' ++ [.obj C []]) (fun τ μ2 => τ = .non ∧ μ2.length = μ'.length + 1 ∧ ∃ fs, μ2[μ'.length]? = some (.obj C fs) ∧ Φ (.obj C fs) (μ2.take μ'.length)) (fun C2 fs μ2 => xw C2 fs (μ2.set μ'.length .gone))
theorem mget_app {μ ν : Mu} : ∀ {ks : List Nat} {rs : List Res}, mget μ ks = some rs → mget (μ ++ ν) ks = some rs
  | [], _, h => h
  | k :: ks, _, h => by
    simp only [mget] at h ⊢
    split at h
    · rename_i r e
      rw [List.getElem?_append_left (List.getElem?_eq_some_iff.mp e).1, e]
      rw [Option.map_eq_some_iff] at h
      obtain ⟨r2, e2, rfl⟩ := h
      rw [mget_app e2]
      rfl
    · cases h
theorem mput_app {μ ν : Mu} : ∀ {ks : List Nat} {rs : List Res}, (∀ k ∈ ks, k < μ.length) → mput (μ ++ ν) ks rs = mput μ ks rs ++ ν
  | [], _, _ => by simp [mput]
  | _ :: _, [], _ => by simp [mput]
  | k :: ks, r :: rs, h => by
    simp only [mput]
    rw [mput_app fun k hk => h k (List.mem_cons_of_mem _ hk), List.set_append_left _ _ (by rw [mput_len]; exact h k List.mem_cons_self)]
end Dl
namespace Dl
open PySem PySem.Spec PyProof.Rows L2 Gd
variable {K : PySem.W.Frag} {E : XK}
theorem Ok.gone {W : Wd} {H : Hp} {μ : Mu} {k : Nat} (x : Ok K W H μ) : Ok K W H (μ.set k .gone) := by
  refine ⟨x.sg, x.sb, fun a j q => ?_, by rw [List.length_set]; exact x.len, fun j r q => ?_, x.tb⟩
  · rw [List.length_set]
    exact x.lab a j q
  · by_cases z : k = j
    · subst z
      have lt : k < μ.length := by simpa using (List.getElem?_eq_some_iff.mp q).1
      rw [List.getElem?_set_self lt] at q
      cases q
      obtain ⟨p, e, _⟩ := x.res k _ (List.getElem?_eq_getElem lt)
      exact ⟨p, e, trivial⟩
    · rw [List.getElem?_set_ne z] at q
      exact x.res j r q
instance sim_make {C : Addr} {n : Nat} {d : DSpec} {dvs : List V} {t : TA} {ra τs} [a : SimA K E t ra] [z : SimD K dvs τs] : SimE K E (tMake C (liftSp K n d) dvs E t) (rMake C n d τs K ra) := ⟨fun {W H σ ρ μ xw Φ Q} x s k h q => a.run x s k h fun {vs ts W1 H1 μ1} l1 x1 d1 h1 => by
  obtain ⟨c, ln, h1⟩ := h1
  intro ad dx fx fd ne
  obtain ⟨W2, l2, x2, e2⟩ := x1.make fx fd ne c
  refine call_sim (ts := .rs μ1.length :: (ts ++ τs)) x2 (.cons ⟨ad, e2, rfl⟩ ((d1.app (z.all _)).mono l2)) (by simp only [List.length_cons]; exact ln) (fun {C2 d2 fs τs2 W' H' μ'} l o e df h => k ((l1.trans l2).trans l) o.gone e df h) h1 (fun {v τ W' H' μ'} l o dv h => ?_)
  obtain ⟨rfl, len, fs, e3, h⟩ := h
  have em : μ' = μ'.take μ1.length ++ [.obj C fs] := by
    have : μ'.drop μ1.length = [.obj C fs] := by
      rw [List.drop_eq_getElem_cons (by omega), List.drop_eq_nil_of_le (by omega)]
      have := (List.getElem?_eq_some_iff.mp e3).2
      rw [this]
    rw [← this, List.take_append_drop]
  have tl : (μ'.take μ1.length).length = μ1.length := by rw [List.length_take]; omega
  rw [em] at o
  obtain ⟨W4, g4, b4, n4, a4, o4, dn, t4⟩ := o.done tl.symm (l.ad _ _ e2)
  have le4 : W2.Le W4 → True := fun _ => trivial
  refine ⟨dv.non, q (W' := W4) (l1.trans ⟨g4.trans (l.g.trans l2.g), (l2.b.trans l.b).trans b4, fun a u e => ?_, fun j p e => ?_, t4.trans (l.t.trans l2.t)⟩) o4 (.of dn) h⟩
  · rcases n4 a u e with e | e
    · exact (l2.trans l).nb a u e
    · exact .inr (by rw [← (l2.trans l).g]; exact e)
  · rw [a4, tl]
    have lt := (List.getElem?_eq_some_iff.mp e).1
    rw [x1.len] at lt
    rw [List.getElem?_take, if_pos lt]
    exact (l2.trans l).ad _ _ e⟩
end Dl

set_option maxRecDepth 100000
set_option maxHeartbeats 4000000
namespace Gd
open PySem PySem.Spec PyProof.Rows L2
/-! ### enumerate(tuple) -/
def IteT (K : PySem.W.Frag) (a : Addr) : It :=
  ⟨fun i H => ∃ (xs : List V) (x : V), SqT K H a xs ∧ xs[i]? = some x, fun i H v H' => ∃ T x, v = .ref T ∧ H T = none ∧ H' = upd H T (.tup [.int (i : Nat), x]) ∧ ∀ xs, SqT K H a xs → xs[i]? = some x, fun i H => ∃ xs : List V, SqT K H a xs ∧ xs.length ≤ i⟩
theorem turn_enumT {P : Program} {w : World} {K : PySem.W.Frag} {elts : List Expr} {kk : Nat} {tpos : Pos} (a e it : Addr) (hai : a ≠ it) (hae : a ≠ e) :
    Turn P w K (.Tuple elts kk tpos) (IteT K a) [e, it] e (fun i h => (∃ old, IsEnum h e it ((i : Nat) : Int) old) ∧ h.IsTupleIter it a i ∧ e ≠ it) where
  mem := by simp
  obj := fun i h st b hb => by
    obtain ⟨⟨old, he⟩, ⟨o, ho, hc, hd⟩, _⟩ := st
    have e' : b = e ∨ b = it := by simpa using hb
    rcases e' with z | z
    · rw [z]; exact ⟨_, he, fun v q => nomatch q⟩
    · rw [z]; exact ⟨o, ho, fun v q => by rw [hd] at q; cases q⟩
  keep := fun i h h' st k => let ⟨⟨old, he⟩, hi, hne⟩ := st; ⟨⟨old, k e (by simp) _ he⟩, hi.at fun o q => k it (by simp) o q, hne⟩
  item := by
    intro X hP hw hK hc i pins s σ H E I hf st hg
    subst hP hw hK
    obtain ⟨⟨old, he⟩, hit, hne⟩ := st
    obtain ⟨xs, x, hq, hx⟩ := hg
    obtain ⟨its, rv, p, hz⟩ := I.tuple hq
    obtain ⟨u, hu, ru⟩ := rv.get hx
    have hel : e < s.heap.objs.size := Heap.lt_size he
    have hil : it < s.heap.objs.size := by obtain ⟨_, q, _⟩ := hit; exact Heap.lt_size q
    have lt : i < its.toArray.size := by simpa using (List.getElem?_eq_some_iff.mp hu).1
    refine wpAny_pyNext_enum_itemD (Draws.tuple (show X.A.in1.handled = none from I.ok.hd hc) it a hai its.toArray) he ⟨hit, p⟩ lt hne (by simp [hne, Ne.symm hae]) fun x' h' tk hP ho hit' hT hsz hk => ?_
    have ex : x' = u := by
      have h1 : its.toArray[i]? = some x' := hP
      have h2 : its.toArray[i]? = some u := by simpa using hu
      rw [h1] at h2
      cases h2
      rfl
    subst ex
    refine ⟨_, rfl, wpAny_letOwnedTupleGo_enum (s := { s with heap := h', toks := tk + 1 }) ho fun h'' he' sb => ?_⟩
    have hT2 : h''.get? s.heap.objs.size = some { cls := .type "tuple", data := .seq #[.int i tk, x'] } := (sb.2 _ (Nat.ne_of_gt hel)).trans hT
    have new : ObjOk X.prog X.w (upd H s.heap.objs.size (.tup [.int (i : Nat), x])) h'' s.heap.objs.size (.tup [.int (i : Nat), x]) :=
      ⟨by show 2 ≤ sizeLine; decide, [.int i tk, x'], .cons ⟨_, rfl⟩ (.cons ru .nil), ⟨_, hT2, rfl, _, rfl⟩⟩
    have I1 : Inv X pins σ (upd H s.heap.objs.size (.tup [.int (i : Nat), x])) { s with heap := h'', toks := tk + 1 } :=
      I.turnedNew (ch := [e, it]) (fun b ob hb q => (sb.2 b (fun z => hb (by simp [z]))).trans (hk b ob (fun z => hb (by simp [z])) (fun z => hb (by simp [z])) q)) hf (Nat.le_refl _) new
    refine ⟨.ref s.heap.objs.size, _, I1, rfl, ⟨_, x, rfl, I.hok.fresh (Nat.le_refl _), rfl, fun ys hy => by rw [I.tuple_inj hy hq]; exact hx⟩, ⟨⟨x', ?_⟩, hit'.1.at fun o q => (sb.2 it (Ne.symm hne)).trans q, hne⟩, fun b hb => ?_⟩
    · have e1 : ((i + 1 : Nat) : Int) = (i : Int) + 1 := by omega
      rw [e1]; exact he'
    · have hb' : b < s.heap.objs.size := by
        have e' : b = e ∨ b = it := by simpa using hb
        rcases e' with z | z
        · rw [z]; exact hel
        · rw [z]; exact hil
      rw [upd_ne (Nat.ne_of_lt hb')]
      exact (hf b hb).1
  done := by
    intro X hP hw hK hc i pins s σ H E I hf st hg
    subst hP hw hK
    obtain ⟨⟨old, he⟩, hit, hne⟩ := st
    obtain ⟨xs, hq, hx⟩ := hg
    obtain ⟨its, rv, p, hz⟩ := I.tuple hq
    obtain ⟨f0, f1, f2, f3, f4, f5⟩ := hf it (by simp)
    have hl := rv.length
    have hT : s.TypeIs (.ref e) "enumerate" := ⟨_, he, rfl⟩
    unfold pyNext
    refine wpAny_bind (wpAny_attempt (wpAny_callSpecial?_slot (name := Str.ofString "__next__") hT F.slot_enumerate_next
      (wpAny_call_entry F.slot_enumerate_next hT F.entry_enumerate_next ?_ (F.args_enumerate_next_1 _))))
    show wpAny _ _ (field (.ref e) 2 >>= _) _ _ _
    refine wpAny_bind (wpAny_field he rfl (x := .ref it) rfl ?_)
    refine wpAny_bind (wpAny_nextOf_tuple_end (show X.A.in1.handled = none from I.ok.hd hc) hit p (by simp; omega) fun h' x he' hx' => ?_)
    obtain ⟨o, ho, hc'⟩ := hx'
    refine wpAny_bind (wpAny_isInstance (T := "StopIteration") (b := true) ⟨o, ho, hc'⟩ isSubtype_stop ?_)
    exact wpAny_pure ⟨rfl, I.turned (t' := s.toks) (fun b o hb q => he' b o hb q) f0 f1 f3 f4 f5⟩
  self := fun A i s Q E st h => let ⟨⟨_, he⟩, _⟩ := st; wpAny_pyIter_enum he h
def iEnumT (K : PySem.W.Frag) (ta : TA) : TI := fun σ H R => ta σ H fun vs H1 => ∃ a xs, vs = [.ref a] ∧ SqT K H1 a xs ∧ R (IteT K a) H1
open AutoSeq1 (wpAny_loadPart') in
set_option maxHeartbeats 4000000 in
theorem meets_enumerate_newT (l : Addr) (items : Array Value) (n : Nat) (dct : Option Addr) (sl : Array (Option Value)) :
    Meets (Builtin.«enumerate.__new__» ⟨[.type "enumerate", .ref l], []⟩) (fun _ R s => s.heap.get? l = some { cls := .type "tuple", dict := dct, data := .seq items n, slots := sl } ∧
      R (.ok (.ret (.ref (s.heap.push { cls := .type "tuple_iterator", data := .fields #[.ref l, .int 0 0] }).objs.size)))
        { s with heap := (s.heap.push { cls := .type "tuple_iterator", data := .fields #[.ref l, .int 0 0] }).push { cls := .type "enumerate", data := .fields #[.none, .bool false, .ref s.heap.objs.size, rawInt 0, .none, .none] } }) :=
  .of_wp fun prog w A R s h => by
    obtain ⟨hp, g, d, tk, os⟩ := s
    obtain ⟨hl, h⟩ := h
    have hL : hp.IsTuple l items := ⟨_, hl, rfl, _, rfl⟩
    have hsub := sub_enumerate
    wp_walk using wpAny_loadPart' hl
    refine wpAny_stack_any fun st => wpAny_pure ?_
    split
    · rename_i c _ _ _ _ _
      cases (c == Value.type "enumerate")
      · wp_walk using wpAny_loadPart' hl, wpAny_pyIter_tuple hL
        exact ⟨_, rfl, h⟩
      · wp_walk using wpAny_loadPart' hl, wpAny_pyIter_tuple hL
        exact ⟨_, rfl, h⟩
    · wp_walk using wpAny_loadPart' hl, wpAny_pyIter_tuple hL
      exact ⟨_, rfl, h⟩
theorem call_enumerate_tuple {prog : Program} {w : World} {A : Around} {E : Value → Shared → Prop} {s : Shared} {l : Addr} {items : Array Value} {Q : Value → Shared → Prop} (hL : s.heap.IsTuple l items)
    (h : ∀ h', IsEnum h' (s.heap.objs.size + 1) s.heap.objs.size 0 .none → h'.IsTupleIter s.heap.objs.size l 0 → h'.objs.size = s.heap.objs.size + 2 →
      (∀ b o, s.heap.get? b = some o → h'.get? b = some o) → Q (.ref (s.heap.objs.size + 1)) { s with heap := h' }) :
    wpAny (model prog w) A (call (.type "enumerate") [.ref l]) Q E s := by
  obtain ⟨⟨c, dct, dt, sl⟩, hl, hc, n, hd⟩ := hL
  replace hc : c = .type "tuple" := hc
  replace hd : dt = .seq items n := hd
  subst hc hd
  refine callType_new F.called_enumerate (by decide) (F.typeCall_enumerate_1 _) (F.newCall_enumerate_1 _) (fun obj => F.args_object_init_2 obj _) F.entry_enumerate_new
    (meets_enumerate_newT l items n dct sl) ⟨hl, ?_⟩
  have hz : (s.heap.push { cls := .type "tuple_iterator", data := .fields #[.ref l, .int 0 0] }).objs.size = s.heap.objs.size + 1 := Heap.size_push ..
  show _ ∧ _
  rw [hz]
  have he : IsEnum ((s.heap.push { cls := .type "tuple_iterator", data := .fields #[.ref l, .int 0 0] }).push
      { cls := .type "enumerate", data := .fields #[.none, .bool false, .ref s.heap.objs.size, rawInt 0, .none, .none] }) (s.heap.objs.size + 1) s.heap.objs.size 0 .none := by
    have := Heap.get?_push_size (s.heap.push { cls := .type "tuple_iterator", data := .fields #[.ref l, .int 0 0] })
      (o := { cls := .type "enumerate", data := .fields #[.none, .bool false, .ref s.heap.objs.size, rawInt 0, .none, .none] }) rfl
    rw [hz] at this; exact this
  refine ⟨⟨_, he, rfl⟩, h _ he ⟨_, Heap.get?_push_of_some _ (Heap.get?_push_size _ rfl), rfl, rfl⟩ (by rw [Heap.size_push, hz]) fun b o x => Heap.get?_push_of_some _ (Heap.get?_push_of_some _ x)⟩
theorem pi_enumT {X : Cx} {e : Expr} {ta : TA} {p pos tpos : Pos} {elts : List Expr} {kk : Nat} (hg : Gl X "enumerate") (hm : X.mg "enumerate" = none) (ha : PA X [e] ta) (hs : starEach [e] X.env = [(false, eval e X.env)] := by rfl) :
    PI X (.Tuple elts kk tpos) (.Call (.Name "enumerate" p) [e] [] pos) (iEnumT X.K ta) := by
  refine ⟨fun pins s σ H R I h => ?_⟩
  refine Call_ (ld_blt I hg hm boot_enumerate (PyProof.Rows.callWith_type1 (thn (ha.run pos pins s σ H _ I h) fun us s1 ⟨vs, H1, I1, r1, q1⟩ => ?_) hs rfl))
  obtain ⟨a, xs, ex, hq, q⟩ := q1
  subst ex
  cases r1 with
  | cons r rr =>
    cases rr
    cases r
    obtain ⟨its, rv, p', hz⟩ := I1.tuple hq
    have al : a < s1.heap.objs.size := p'.lt
    refine call_enumerate_tuple p' fun h' he hit hsz hk => wpAny_pyIter_enum he ?_
    have I2 : Inv X pins σ H1 { s1 with heap := h' } := I1.kept (t' := s1.toks) hk
    refine ⟨s1.heap.objs.size + 1, [s1.heap.objs.size + 1, s1.heap.objs.size], _, _, H1, rfl, I2, turn_enumT a (s1.heap.objs.size + 1) s1.heap.objs.size (Nat.ne_of_lt al) (Nat.ne_of_lt (Nat.lt_succ_of_lt al)), ⟨⟨.none, he⟩, hit, Nat.succ_ne_self _⟩, fun b hb => ?_, q⟩
    have e' : b = s1.heap.objs.size + 1 ∨ b = s1.heap.objs.size := by simpa using hb
    have hle : s1.heap.objs.size ≤ b := by
      rcases e' with z | z
      · rw [z]; exact Nat.le_add_right _ _
      · rw [z]; exact Nat.le_refl _
    exact I1.fpOk hle (I1.hok.fresh hle)
end Gd

set_option maxRecDepth 100000
set_option maxHeartbeats 4000000
namespace Gd
open PySem PySem.Spec PyProof.Rows L2
/-! ### calls by keywords, the values put in the parameters' order -/
def pick {α : Type} (perm : List Nat) (l : List α) : List α := perm.filterMap fun i => l[i]?
theorem pick_rel {a : List V} {b : List Value} (r : Vals a b) : ∀ perm : List Nat, Vals (pick perm a) (pick perm b)
  | [] => .nil
  | i :: is => by
    unfold pick
    rw [List.filterMap_cons, List.filterMap_cons]
    cases e : a[i]? with
    | none => rw [r.none_of e]; exact pick_rel r is
    | some v =>
      obtain ⟨u, e2, rv⟩ := r.get e
      rw [e2]
      exact .cons rv (pick_rel r is)
section
variable {K : PySem.W.Frag} {x qual : PySem.Str} {params : Arguments} {body : List Stmt} {scope : Scope} {dvs : List V} {f : Addr} {fd : FuncData} {ps : List PySem.Str}
theorem FunD.kb (F : FunD K x qual params body scope dvs [] f fd) (n : Nat) (ks : List PySem.Str) (perm : List Nat) (hd : dvs ≠ [])
    (h : ∀ (T : Addr) (kV doc pm : Value) (an : Option Addr) (cdv ct : Value) (us its ws : List Value), us.length = n → its.length = dvs.length → ws.length = ks.length →
      ∃ k, bindArgs (PySem.W.fnOf x qual params body scope (.ref T) kV doc pm an cdv ct) ⟨us, ks.zip ws⟩ = seqItems? (.ref T) >>= k ∧ k (some its.toArray) = pure (ps.zip (pick perm (us ++ (its ++ ws))))) :
    ∃ g, KBn K fd ps n ks g (fun vs zs => pick perm (vs ++ (dvs ++ zs))) := by
  obtain ⟨its, b⟩ := FunD.kbindsD F n ks (fun us its ws => pick perm (us ++ (its ++ ws))) hd (fun r1 r2 r3 => pick_rel (r1.append (r2.append r3)) perm) h
  exact ⟨_, b⟩
theorem FunD.kb0 (F : FunD K x qual params body scope [] [] f fd) (n : Nat) (ks : List PySem.Str) (perm : List Nat)
    (h : ∀ (kV doc pm : Value) (an : Option Addr) (cdv ct : Value) (us ws : List Value), us.length = n → ws.length = ks.length →
      bindArgs (PySem.W.fnOf x qual params body scope .none kV doc pm an cdv ct) ⟨us, ks.zip ws⟩ = pure (ps.zip (pick perm (us ++ ([] ++ ws))))) :
    ∃ g, KBn K fd ps n ks g (fun vs zs => pick perm (vs ++ ([] ++ zs))) := by
  obtain ⟨oc, od, dV, kV, doc, pm, an, cdv, ct, osl, rfl, lk, hcd, hD, hK⟩ := F.ex
  rcases hD with ⟨_, rfl⟩ | ⟨e, _⟩
  · exact ⟨fun us ws => pick perm (us ++ ([] ++ ws)), fun s us ws _ l1 l2 => .of_eq (h kV doc pm an cdv ct us ws l1 l2), fun r1 r2 => pick_rel (r1.append (Vals.append .nil r2)) perm⟩
  · exact absurd rfl e
theorem FunD.b0 (F : FunD K x qual params body scope [] [] f fd)
    (h : ∀ (kV doc pm : Value) (an : Option Addr) (cdv ct : Value) (us : List Value), us.length = ps.length → bindArgs (PySem.W.fnOf x qual params body scope .none kV doc pm an cdv ct) ⟨us, []⟩ = pure (ps.zip us)) : ∃ ds, Vals [] ds ∧ Binds K fd ps ds :=
  ⟨[], .nil, FunD.bindsN F h⟩
end
section
variable {X : Cx} {CX : CXT} {k n : Nat} {f C : Addr} {fd : FuncData} {ps ks : List PySem.Str} {sp : Sp} {dvs : List V} {E : XK} {x m : PySem.Str} {p pos apos : Pos} {e o : Expr} {es : List Expr} {kws : List Keyword} {ta : TE} {t tk : TA} {gV : List V → List V → List V}
theorem pe_callX (F : FnOk X.prog X.w X.K X.mg X.base CX k f fd ps sp) (hr : Room k X.A) (hg : Gl X x) (hm : X.mg x = some (.ref f)) (hk : PySem.W.keepIn X.K (.ref f) = true) (hb : ∃ ds, Vals dvs ds ∧ Binds X.K fd ps ds) (hx : Passes CX X E)
    (ha : PA X (e :: es) t) (hdb : (x == ("__debug__" : PySem.Str)) = false := by decide) (he : starEach (e :: es) X.env = (false, eval e X.env) :: starEach es X.env := by rfl) (hpl : (backTo pos (starEach es X.env)).any (·.1) = false := by rfl) :
    PE X (.Call (.Name x p) (e :: es) [] pos) (tCall sp dvs E t) := by
  obtain ⟨ds, a, b⟩ := hb
  exact pe_call F hr hg hm hk b a hx ha hdb he hpl
theorem pe_callX0 (F : FnOk X.prog X.w X.K X.mg X.base CX k f fd ps sp) (hr : Room k X.A) (hg : Gl X x) (hm : X.mg x = some (.ref f)) (hk : PySem.W.keepIn X.K (.ref f) = true) (hb : ∃ ds, Vals dvs ds ∧ Binds X.K fd ps ds) (hx : Passes CX X E)
    (hdb : (x == ("__debug__" : PySem.Str)) = false := by decide) : PE X (.Call (.Name x p) [] [] pos) (tCall sp dvs E tNil) := by
  obtain ⟨ds, a, b⟩ := hb
  exact pe_call0 F hr hg hm hk b a hx hdb
theorem pe_methX {pl : Sem Bool} (he : PE X o ta) (c : Cls X.K C) (hm : Meth X.K C m f) (F : FnOk X.prog X.w X.K X.mg X.base CX k f fd ps sp) (hr : Room k X.A) (hb : ∃ ds, Vals dvs ds ∧ Binds X.K fd ps ds) (hx : Passes CX X E) (ha : PA X (e :: es) t)
    (hst : starEach (e :: es) X.env = (false, eval e X.env) :: starEach es X.env := by rfl) (hpl : (backTo pos (starEach es X.env)).any (·.1) = false := by rfl)
    (ht : eval (.Call (.Attribute o m apos) (e :: es) [] pos) X.env = (do
      let ov ← eval o X.env
      standAt apos.atName
      let (f, first) ← holding [ov] (getMethod ov m pl)
      callWith pos f first (backTo pos (starEach (e :: es) X.env)) (backToKw pos (keywordEach [] X.env))) := by rfl) :
    PE X (.Call (.Attribute o m apos) (e :: es) [] pos) (tMeth C m sp dvs E ta t) := by
  obtain ⟨ds, a, b⟩ := hb
  exact pe_meth he c hm F hr b a hx ha hst hpl ht
theorem pe_methX0 {pl : Sem Bool} (he : PE X o ta) (c : Cls X.K C) (hm : Meth X.K C m f) (F : FnOk X.prog X.w X.K X.mg X.base CX k f fd ps sp) (hr : Room k X.A) (hb : ∃ ds, Vals dvs ds ∧ Binds X.K fd ps ds) (hx : Passes CX X E)
    (ht : eval (.Call (.Attribute o m apos) [] [] pos) X.env = (do
      let ov ← eval o X.env
      standAt apos.atName
      let (f, first) ← holding [ov] (getMethod ov m pl)
      callWith pos f first (backTo pos (starEach [] X.env)) (backToKw pos (keywordEach [] X.env))) := by rfl) :
    PE X (.Call (.Attribute o m apos) [] [] pos) (tMeth C m sp dvs E ta tNil) := by
  obtain ⟨ds, a, b⟩ := hb
  exact pe_meth0 he c hm F hr b a hx ht
theorem pe_makeX (M : Mk X.K C f) (F : FnOk X.prog X.w X.K X.mg X.base CX k f fd ps sp) (hr : Room (k + 1) X.A) (hg : Gl X x) (hm : X.mg x = some (.ref C)) (hb : ∃ ds, Vals dvs ds ∧ Binds X.K fd ps ds) (hx : Passes CX X E)
    (ha : PA X (e :: es) t) (hdb : (x == ("__debug__" : PySem.Str)) = false := by decide) (he : starEach (e :: es) X.env = (false, eval e X.env) :: starEach es X.env := by rfl) (hpl : (backTo pos (starEach es X.env)).any (·.1) = false := by rfl) :
    PE X (.Call (.Name x p) (e :: es) [] pos) (tMake C sp dvs E t) := by
  obtain ⟨ds, a, b⟩ := hb
  exact pe_make M F hr hg hm b a hx ha hdb he hpl
theorem pe_callKX (F : FnOk X.prog X.w X.K X.mg X.base CX k f fd ps sp) (hr : Room k X.A) (hg : Gl X x) (hm : X.mg x = some (.ref f)) (hk : PySem.W.keepIn X.K (.ref f) = true) (hb : ∃ g, KBn X.K fd ps n ks g gV) (hx : Passes CX X E)
    (ha : PA X (e :: es) t) (hkw : PK X kws tk) (hall : (backToKw pos (keywordEach kws X.env)).all (·.1.isSome) = true := by rfl) (hks : (backToKw pos (keywordEach kws X.env)).filterMap (·.1) = ks := by rfl)
    (hdb : (x == ("__debug__" : PySem.Str)) = false := by decide) (he : starEach (e :: es) X.env = (false, eval e X.env) :: starEach es X.env := by rfl)
    (hpl : ((backTo pos (starEach (e :: es) X.env)).any (·.1) || (backToKw pos (keywordEach kws X.env)).any (·.1.isNone)) = false := by rfl) :
    PE X (.Call (.Name x p) (e :: es) kws pos) (tCallN n ks.length sp gV E t tk) := by
  obtain ⟨g, b⟩ := hb
  exact pe_callN F hr hg hm hk b hx ha hkw hall hks hdb he hpl
theorem pe_callKX0 (F : FnOk X.prog X.w X.K X.mg X.base CX k f fd ps sp) (hr : Room k X.A) (hg : Gl X x) (hm : X.mg x = some (.ref f)) (hk : PySem.W.keepIn X.K (.ref f) = true) (hb : ∃ g, KBn X.K fd ps 0 ks g gV) (hx : Passes CX X E)
    (hkw : PK X kws tk) (hall : (backToKw pos (keywordEach kws X.env)).all (·.1.isSome) = true := by rfl) (hks : (backToKw pos (keywordEach kws X.env)).filterMap (·.1) = ks := by rfl)
    (hdb : (x == ("__debug__" : PySem.Str)) = false := by decide)
    (hpl : ((backTo pos (starEach [] X.env)).any (·.1) || (backToKw pos (keywordEach kws X.env)).any (·.1.isNone)) = false := by rfl) :
    PE X (.Call (.Name x p) [] kws pos) (tCallN 0 ks.length sp gV E tNil tk) := by
  obtain ⟨g, b⟩ := hb
  refine ⟨fun pins s σ H Q I h => ?_⟩
  refine wpAny_Call_Name_kw (ld_glob I hg hm ?_ hdb)
  refine PySem.W.callWith_KW0 (h₀ := X.base) I.ok.mod.kin hk hall (thn (hkw.run pos pins s σ H _ I h) fun ws s2 z => ?_) hpl
  obtain ⟨zs, H2, I2, rz, l1, l2, q2⟩ := z
  refine ⟨I2.kIn, ?_⟩
  rw [hks]
  exact run_fnN (us := []) (vs := []) F hr b hx I2 .nil rz l1 l2 q2
theorem pe_makeKX (M : Mk X.K C f) (F : FnOk X.prog X.w X.K X.mg X.base CX k f fd ps sp) (hr : Room (k + 1) X.A) (hg : Gl X x) (hm : X.mg x = some (.ref C)) (hb : ∃ g, KBn X.K fd ps (n + 1) ks g gV) (hx : Passes CX X E)
    (ha : PA X (e :: es) t) (hkw : PK X kws tk) (hall : (backToKw pos (keywordEach kws X.env)).all (·.1.isSome) = true := by rfl) (hks : (backToKw pos (keywordEach kws X.env)).filterMap (·.1) = ks := by rfl)
    (hdb : (x == ("__debug__" : PySem.Str)) = false := by decide) (he : starEach (e :: es) X.env = (false, eval e X.env) :: starEach es X.env := by rfl)
    (hpl : ((backTo pos (starEach (e :: es) X.env)).any (·.1) || (backToKw pos (keywordEach kws X.env)).any (·.1.isNone)) = false := by rfl) :
    PE X (.Call (.Name x p) (e :: es) kws pos) (tMakeN C n ks.length sp gV E t tk) := by
  obtain ⟨g, b⟩ := hb
  exact pe_makeN M F hr hg hm b hx ha hkw hall hks hdb he hpl
theorem pe_makeKX0 (M : Mk X.K C f) (F : FnOk X.prog X.w X.K X.mg X.base CX k f fd ps sp) (hr : Room (k + 1) X.A) (hg : Gl X x) (hm : X.mg x = some (.ref C)) (hb : ∃ g, KBn X.K fd ps 1 ks g gV) (hx : Passes CX X E)
    (hkw : PK X kws tk) (hall : (backToKw pos (keywordEach kws X.env)).all (·.1.isSome) = true := by rfl) (hks : (backToKw pos (keywordEach kws X.env)).filterMap (·.1) = ks := by rfl)
    (hdb : (x == ("__debug__" : PySem.Str)) = false := by decide)
    (hpl : ((backTo pos (starEach [] X.env)).any (·.1) || (backToKw pos (keywordEach kws X.env)).any (·.1.isNone)) = false := by rfl) :
    PE X (.Call (.Name x p) [] kws pos) (tMakeN C 0 ks.length sp gV E tNil tk) := by
  obtain ⟨g, b⟩ := hb
  refine ⟨fun pins s σ H Q I h => ?_⟩
  refine wpAny_Call_Name_kw (ld_glob I hg hm ?_ hdb)
  refine PySem.W.callWith_KW0 (h₀ := X.base) I.ok.mod.kin M.kp hall (thn (hkw.run pos pins s σ H _ I h) fun ws s2 z => ?_) hpl
  obtain ⟨zs, H2, I2, rz, l1, l2, q2⟩ := z
  refine ⟨I2.kIn, ?_⟩
  rw [hks]
  exact run_makeN (us := []) (vs := []) M F hr b hx I2 .nil rz l1 l2 q2
/-- o.m(e, .., k = v, ..) -/
def tMethN (C : Addr) (m : PySem.Str) (n j : Nat) (sp : Sp) (gV : List V → List V → List V) (E : XK) (ta : TE) (t tk : TA) : TE := fun σ H Q => ta σ H fun x H1 => ∃ a dx fs, x = .ref a ∧ H1 a = some (.ins C dx fs) ∧ fs.lookup m = none ∧
  t σ H1 fun vs H2 => tk σ H2 fun zs H3 => vs.length = n ∧ zs.length = j ∧ sp (gV (x :: vs) zs) H3 Q E
theorem pe_methKX {pl : Sem Bool} (he : PE X o ta) (c : Cls X.K C) (hm : Meth X.K C m f) (F : FnOk X.prog X.w X.K X.mg X.base CX k f fd ps sp) (hr : Room k X.A) (hb : ∃ g, KBn X.K fd ps (n + 1) ks g gV) (hx : Passes CX X E) (ha : PA X (e :: es) t) (hkw : PK X kws tk)
    (hall : (backToKw pos (keywordEach kws X.env)).all (·.1.isSome) = true := by rfl) (hks : (backToKw pos (keywordEach kws X.env)).filterMap (·.1) = ks := by rfl)
    (hst : starEach (e :: es) X.env = (false, eval e X.env) :: starEach es X.env := by rfl)
    (hpl : ((backTo pos (starEach (e :: es) X.env)).any (·.1) || (backToKw pos (keywordEach kws X.env)).any (·.1.isNone)) = false := by rfl)
    (ht : eval (.Call (.Attribute o m apos) (e :: es) kws pos) X.env = (do
      let ov ← eval o X.env
      standAt apos.atName
      let (f, first) ← holding [ov] (getMethod ov m pl)
      callWith pos f first (backTo pos (starEach (e :: es) X.env)) (backToKw pos (keywordEach kws X.env))) := by rfl) :
    PE X (.Call (.Attribute o m apos) (e :: es) kws pos) (tMethN C m n ks.length sp gV E ta t tk) := by
  obtain ⟨g, b⟩ := hb
  refine ⟨fun pins s σ H Q I h => ?_⟩
  refine PySem.W.methodCall_KW (pl := pl) (thn (he.run pins s σ H _ I h) fun u s1 ⟨x, H1, I1, rx, a, dx, fs, ex, ea, l, q⟩ => ?_) ht
  subst ex
  obtain rfl : u = Value.ref a := rx
  refine getmeth_ok I1 ea c hm l ?_
  refine PySem.W.callWith_KW (first := [.ref a]) (h₀ := X.base) I.ok.mod.kin hm.kp hall (thn (ha.run pos pins s1 σ H1 _ I1 q) fun us s2 ⟨vs, H2, I2, r, q2⟩ => ?_) hpl hst
  refine thn (hkw.run pos pins s2 σ H2 _ I2 q2) fun ws s3 ⟨zs, H3, I3, rz, l1, l2, q3⟩ => ⟨I3.kIn, ?_⟩
  rw [hks]
  exact run_fnN (us := .ref a :: us) (vs := .ref a :: vs) F hr b hx I3 (.cons rfl r) rz (by simp [l1]) l2 q3
theorem pe_methKX0 {pl : Sem Bool} (he : PE X o ta) (c : Cls X.K C) (hm : Meth X.K C m f) (F : FnOk X.prog X.w X.K X.mg X.base CX k f fd ps sp) (hr : Room k X.A) (hb : ∃ g, KBn X.K fd ps 1 ks g gV) (hx : Passes CX X E) (hkw : PK X kws tk)
    (hall : (backToKw pos (keywordEach kws X.env)).all (·.1.isSome) = true := by rfl) (hks : (backToKw pos (keywordEach kws X.env)).filterMap (·.1) = ks := by rfl)
    (hpl : ((backTo pos (starEach [] X.env)).any (·.1) || (backToKw pos (keywordEach kws X.env)).any (·.1.isNone)) = false := by rfl)
    (ht : eval (.Call (.Attribute o m apos) [] kws pos) X.env = (do
      let ov ← eval o X.env
      standAt apos.atName
      let (f, first) ← holding [ov] (getMethod ov m pl)
      callWith pos f first (backTo pos (starEach [] X.env)) (backToKw pos (keywordEach kws X.env))) := by rfl) :
    PE X (.Call (.Attribute o m apos) [] kws pos) (tMethN C m 0 ks.length sp gV E ta tNil tk) := by
  obtain ⟨g, b⟩ := hb
  refine ⟨fun pins s σ H Q I h => ?_⟩
  refine PySem.W.methodCall_KW (pl := pl) (thn (he.run pins s σ H _ I h) fun u s1 ⟨x, H1, I1, rx, a, dx, fs, ex, ea, l, q⟩ => ?_) ht
  subst ex
  obtain rfl : u = Value.ref a := rx
  refine getmeth_ok I1 ea c hm l ?_
  refine PySem.W.callWith_KW0 (first := [.ref a]) (h₀ := X.base) I.ok.mod.kin hm.kp hall (thn (hkw.run pos pins s1 σ H1 _ I1 q) fun ws s3 z => ?_) hpl
  obtain ⟨zs, H3, I3, rz, l1, l2, q3⟩ := z
  refine ⟨I3.kIn, ?_⟩
  rw [hks]
  exact run_fnN (us := [.ref a]) (vs := [.ref a]) F hr b hx I3 (.cons rfl .nil) rz rfl l2 q3
end
/-! ### rules whose written part is told by its name (within comprehensions) -/
section
variable {X : Cx} {K : PySem.W.Frag} {e : Expr} {f : PySem.Str} {pos : Pos} {ta : TE}
theorem fldK (h : X.K = K) (he : PE X e ta) (hb : attributeBase e f X.env (eval e X.env) = eval e X.env) : PE X (.Attribute e f pos) (tFld K ta f) := by
  subst h
  exact pe_fld he hb
theorem slAK (h : X.K = K) : SlR X (rSlA K) := by
  subst h
  exact sl_tupA
theorem allK (h : X.K = K) (hc : X.calm = true) : CallR X (.builtin "all") (rAll K) := by
  subst h
  exact cr_all hc
theorem sumK (h : X.K = K) (hc : X.calm = true) : CallR X (.builtin "sum") (rSum K) := by
  subst h
  exact cr_sum hc
end
end Gd
namespace Dl
open PySem PySem.Spec PyProof.Rows L2 Gd
variable {K : PySem.W.Frag} {E : XK}
theorem pick_dv {W : Wd} {a : List V} {b : List T} (r : DvAll K W a b) : ∀ perm : List Nat, DvAll K W (pick perm a) (pick perm b)
  | [] => .nil
  | i :: is => by
    unfold pick
    rw [List.filterMap_cons, List.filterMap_cons]
    cases e : b[i]? with
    | none =>
      have : a[i]? = none := by
        have := List.getElem?_eq_none_iff.mp e
        exact List.getElem?_eq_none_iff.mpr (by rw [r.length]; exact this)
      rw [this]
      exact pick_dv r is
    | some v =>
      obtain ⟨u, e2, rv⟩ := r.get e
      rw [e2]
      exact .cons rv (pick_dv r is)
def rCallN (n m k : Nat) (d : DSpec) (perm : List Nat) (τs : List T) (ra rk : DA) : DE := fun ρ xw μ Φ => ra ρ xw μ fun ts μ1 => rk ρ xw μ1 fun ss μ2 => ts.length = n ∧ ss.length = m ∧ (pick perm (ts ++ (τs ++ ss))).length = k ∧ CallD d (pick perm (ts ++ (τs ++ ss))) μ2 Φ xw
instance sim_callN {n m k : Nat} {d : DSpec} {perm : List Nat} {dvs : List V} {t tk : TA} {ra rk τs} [a : SimA K E t ra] [b : SimA K E tk rk] [z : SimD K dvs τs] : SimE K E (tCallN n m (liftSp K k d) (fun vs zs => pick perm (vs ++ (dvs ++ zs))) E t tk) (rCallN n m k d perm τs ra rk) := ⟨fun x s xl h q =>
  a.run x s xl h fun l1 x1 d1 h1 => b.run x1 (s.mono l1) (xl.mono l1) h1 fun l2 x2 d2 h2 => ⟨by rw [d1.length]; exact h2.1, by rw [d2.length]; exact h2.2.1, call_sim x2 (pick_dv ((d1.mono l2).app ((z.all _).app d2)) perm) h2.2.2.1 (xl.mono (l1.trans l2)) h2.2.2.2 fun l3 x3 d3 h3 => q ((l1.trans l2).trans l3) x3 d3 h3⟩⟩
def rCallN0 (n m k : Nat) (d : DSpec) (perm : List Nat) (τs : List T) (ra rk : DA) : DE := fun ρ xw μ Φ => ra ρ xw μ fun ts μ1 => rk ρ xw μ1 fun ss μ2 => ts.length = n ∧ ss.length = m ∧ (pick perm (ts ++ (τs ++ ss))).length = k ∧ CallD d (pick perm (ts ++ (τs ++ ss))) μ2 Φ (fun _ _ _ => False)
instance (priority := 500) sim_callN0 {n m k : Nat} {d : DSpec} {perm : List Nat} {dvs : List V} {t tk : TA} {ra rk τs} [a : SimA K E t ra] [b : SimA K E tk rk] [z : SimD K dvs τs] : SimE K E (tCallN n m (liftSp K k d) (fun vs zs => pick perm (vs ++ (dvs ++ zs))) (fun _ _ _ => False) t tk) (rCallN0 n m k d perm τs ra rk) := ⟨fun x s xl h q =>
  a.run x s xl h fun l1 x1 d1 h1 => b.run x1 (s.mono l1) (xl.mono l1) h1 fun l2 x2 d2 h2 => ⟨by rw [d1.length]; exact h2.1, by rw [d2.length]; exact h2.2.1, call_sim x2 (pick_dv ((d1.mono l2).app ((z.all _).app d2)) perm) h2.2.2.1 (@xl_none K _ _) h2.2.2.2 fun l3 x3 d3 h3 => q ((l1.trans l2).trans l3) x3 d3 h3⟩⟩
def rMethN0 (C : Addr) (mn : PySem.Str) (n m k : Nat) (d : DSpec) (perm : List Nat) (τs : List T) (r : DE) (ra rk : DA) : DE := fun ρ xw μ Φ => r ρ xw μ fun t μ1 => (∃ fs, view μ1 t = .obj C fs ∧ fs.lookup mn = none) ∧
  ra ρ xw μ1 fun ts μ1 => rk ρ xw μ1 fun ss μ2 => ts.length = n ∧ ss.length = m ∧ (pick perm ((t :: ts) ++ (τs ++ ss))).length = k ∧ CallD d (pick perm ((t :: ts) ++ (τs ++ ss))) μ2 Φ (fun _ _ _ => False)
instance (priority := 500) sim_methN0 {C : Addr} {mn : PySem.Str} {n m k : Nat} {d : DSpec} {perm : List Nat} {dvs : List V} {te : TE} {t tk : TA} {r ra rk τs} [c : SimE K E te r] [a : SimA K E t ra] [b : SimA K E tk rk] [z : SimD K dvs τs] : SimE K E (tMethN C mn n m (liftSp K k d) (fun vs zs => pick perm (vs ++ (dvs ++ zs))) (fun _ _ _ => False) te t tk) (rMethN0 C mn n m k d perm τs r ra rk) := ⟨fun x s xl h q => c.run x s xl h fun l0 x0 d0 h0 => by
  obtain ⟨⟨fs, e, no⟩, h0⟩ := h0
  obtain ⟨p, dx, vs, rfl, e3, d3, cc⟩ := view_obj x0 d0 e
  exact ⟨p, dx, vs, rfl, e3, d3.lookN no, a.run x0 (s.mono l0) (xl.mono l0) h0 fun l1 x1 d1 h1 => b.run x1 ((s.mono l0).mono l1) (xl.mono (l0.trans l1)) h1 fun l2 x2 d2 h2 => ⟨by rw [d1.length]; exact h2.1, by rw [d2.length]; exact h2.2.1,
    call_sim x2 (pick_dv (DvAll.app (.cons ((d0.mono l1).mono l2) (d1.mono l2)) ((z.all _).app d2)) perm) h2.2.2.1 (@xl_none K _ _) h2.2.2.2 fun l3 x3 d3 h3 => q (((l0.trans l1).trans l2).trans l3) x3 d3 h3⟩⟩⟩
def rIenumT (r : DA) : DL := fun ρ xw μ Φ => r ρ xw μ fun ts μ' => match ts with
  | [.tup l] => Φ ((l.zipIdx).map fun p => .tup [.int (p.2 : Nat), p.1]) μ'
  | _ => False
instance sim_ienumT {t : TA} {r} [a : SimA K E t r] : SimI K E (iEnumT K t) (rIenumT r) := ⟨fun o s n h q => a.run o s n h fun {vs τs W1 H1 μ1} l1 o1 d1 h1 => by
  split at h1
  · rename_i l
    obtain ⟨v, rfl, dv⟩ := one_dv d1
    cases (show Dn K W1.B v (.tup l) from dv) with
    | @tup p xs _ e da =>
      refine ⟨p, xs, rfl, sqT_mono o1.sb e, q l1 o1 (fun {W' H' μ'} l' o' i => ?_) h1⟩
      have e' : SqT K H' p xs := sqT_mono (l'.b.trans o'.sb) e
      simp only [List.length_map, List.length_zipIdx]
      refine ⟨fun lt => ?_, fun le => ⟨xs, e', by rw [da.length]; exact le⟩⟩
      obtain ⟨v, ev, dv⟩ := da.get (List.getElem?_eq_getElem lt)
      refine ⟨⟨xs, v, e', ev⟩, fun y H'' yl => ?_⟩
      obtain ⟨p2, z, rfl, f, rfl, k⟩ := yl
      have e2 := k xs e'
      rw [ev] at e2
      cases e2
      refine ⟨{ W' with B := upd W'.B p2 (.tup [.int (i : Nat), v]) }, .tup [.int (i : Nat), l[i]], Grow.new o'.sb _ f, by simp [lt], ?_⟩
      exact .tup (SqT.of upd_same) (.cons (.int _) (.cons (dv.mono (l'.b.trans (same_new (o'.sb.free f)))) .nil))
  · exact h1.elim⟩
end Dl

set_option maxRecDepth 100000
set_option maxHeartbeats 4000000
namespace Dl
open PySem PySem.Spec PyProof.Rows L2 Gd
variable {K : PySem.W.Frag} {E : XK}
/-! ### o.f = e, of an object that may be changed -/
def putT (f : PySem.Str) (v : T) : List (PySem.Str × T) → List (PySem.Str × T)
  | [] => [(f, v)]
  | (g, x) :: r => if g = f then (g, v) :: r else (g, x) :: putT f v r
theorem putT_names {f : PySem.Str} {v : T} : ∀ {fs : List (PySem.Str × T)} {g : PySem.Str}, g ∈ (putT f v fs).map (·.1) → g = f ∨ g ∈ fs.map (·.1)
  | [], g, h => by
    simp [putT] at h
    exact .inl h
  | (g0, x) :: r, g, h => by
    unfold putT at h
    split at h
    · exact .inr h
    · simp only [List.map_cons, List.mem_cons] at h ⊢
      rcases h with h | h
      · exact .inr (.inl h)
      · exact (putT_names h).imp id fun z => .inr z
theorem DnF.put {B : Hp} {f : PySem.Str} {v : V} {t : T} (d : Dn K B v t) : ∀ {vs : List (PySem.Str × V)} {ts : List (PySem.Str × T)}, DnF K B vs ts → DnF K B (putF f v vs) (putT f t ts)
  | _, _, .nil => .cons d .nil
  | _, _, .cons (f := g) e r => by
    unfold putF putT
    by_cases h : g = f
    · rw [if_pos h, if_pos h]
      exact .cons d r
    · rw [if_neg h, if_neg h]
      exact .cons e (DnF.put d r)
theorem DnF.length {B : Hp} : ∀ {vs : List (PySem.Str × V)} {ts : List (PySem.Str × T)}, DnF K B vs ts → vs.length = ts.length
  | _, _, .nil => rfl
  | _, _, .cons _ r => congrArg (· + 1) r.length
theorem res_putF {W : Wd} {H : Hp} {μ : Mu} {k : Nat} {p C dx : Addr} {fs : List (PySem.Str × T)} {vs vs' : List (PySem.Str × V)} {fs' : List (PySem.Str × T)} (x : Ok K W H μ) (e : μ[k]? = some (.obj C fs)) (ep : W.ad[k]? = some p) (eh : H p = some (.ins C dx vs)) (d : DnF K W.B vs' fs') (c : COk K C (fs'.map (·.1))) :
    Ok K W (upd H p (.ins C dx vs')) (μ.set k (.obj C fs')) := by
  obtain ⟨p1, e1, o, dx1, vs1, o2, eh1, ed1, _, _⟩ := x.res k _ e
  rw [ep] at e1
  cases e1
  rw [eh] at eh1
  cases eh1
  obtain ⟨b1, g1, _, lt⟩ := x.lab p k o
  have dp : dx ≠ p := fun z => by
    subst z
    rw [eh] at ed1
    cases ed1
  refine ⟨fun a u q => ?_, fun a u q => ?_, fun a j q => ?_, by rw [List.length_set]; exact x.len, fun j r q => ?_, x.tb.put (fun u q => by rw [eh] at q; cases q; exact pl_ins) pl_ins⟩
  · rw [upd_ne (fun z => by subst z; rw [g1] at q; cases q)]
    exact x.sg _ _ q
  · rw [upd_ne (fun z => by subst z; rw [b1] at q; cases q)]
    exact x.sb _ _ q
  · obtain ⟨a1, a2, a3, a4⟩ := x.lab a j q
    refine ⟨a1, a2, ?_, by rw [List.length_set]; exact a4⟩
    by_cases z : a = p
    · subst z
      rw [upd_same]
      exact fun z => by cases z
    · rw [upd_ne z]
      exact a3
  · by_cases z : k = j
    · subst z
      rw [List.getElem?_set_self lt] at q
      cases q
      exact ⟨p, ep, o, dx, vs', o2, upd_same, by rw [upd_ne dp]; exact ed1, d, c⟩
    · rw [List.getElem?_set_ne z] at q
      obtain ⟨p2, e2, r2⟩ := x.res j r q
      refine ⟨p2, e2, ResOk.mono (W := W) rfl (Same.refl _) (fun _ _ q => q) (fun a u o2 eh2 => ?_) r2⟩
      rw [upd_ne (fun z2 => by subst z2; rw [o] at o2; cases o2; exact z rfl)]
      exact eh2
def rSetF (K : PySem.W.Frag) (f : PySem.Str) (ro rv : DE) : DS := fun D xw ρ μ => rv ρ xw μ fun t μ1 => ro ρ xw μ1 fun o μ2 => match o with
  | .rs k => ∃ C fs, μ2[k]? = some (.obj C fs) ∧ NoAttr K C f ∧ t.flat = true ∧ fs.length < 1000 ∧ D.nx ρ (μ2.set k (.obj C (putT f t fs)))
  | _ => False
instance sim_setF {to tv : TE} {f : PySem.Str} {ro rv} [a : SimE K E to ro] [b : SimE K E tv rv] : SimS K E (sFld K to tv f) (rSetF K f ro rv) := ⟨fun o s n k h => b.run o s n h fun {v1 τ1 W1 H1 μ1} l1 o1 d1 h1 => a.run o1 (s.mono l1) (n.mono l1) h1 fun {v2 τ2 W2 H2 μ2} l2 o2 d2 h2 => by
  split at h2
  · obtain ⟨C, fs, e, no, fl, sz, h2⟩ := h2
    obtain ⟨p, ep, rfl⟩ := (show ∃ p, _ from d2)
    obtain ⟨p1, ep1, ow, dx, vs, _, eh, ed, dn, c⟩ := o2.res _ _ e
    rw [ep] at ep1
    cases ep1
    refine ⟨p, C, dx, vs, rfl, eh, c.cl, no, by rw [dn.length]; exact sz, k.nx (l1.trans l2) (res_putF o2 e ep eh (dn.put (flat_dn (d1.mono l2) fl)) ⟨c.cl, fun g hg => ?_, c.mks⟩) (s.mono (l1.trans l2)) h2⟩
    rcases putT_names hg with z | z
    · subst z; exact no
    · exact c.no _ z
  · exact h2.elim⟩
/-! ### the numbers that are drawn, as such a dict -/
theorem drw_dr {W : Wd} {H : Hp} {d n : Nat} {μ : Mu} (x : Ok K W H [.drw "spot" n]) (e : W.ad[0]? = some d) : Dr (fun a => if W.own a = some 0 then none else H a) H d n := by
  obtain ⟨p, e1, o, lc, ll, cs, ls, i, o1, o2, ne, hd, hc, hl, c64, cb, l63, i0, il⟩ := x.res 0 _ rfl
  rw [e] at e1
  cases e1
  refine ⟨⟨lc, ll, cs, ls, i, hd, hc, hl, ne, c64, cb, l63, i0, il, if_pos o1, if_pos o2⟩, fun a u q => ?_, if_pos o⟩
  have q : (if W.own a = some 0 then none else H a) = some u := q
  split at q
  · cases q
  · exact q
end Dl

set_option maxRecDepth 100000
set_option maxHeartbeats 4000000
namespace Dl
open PySem PySem.Spec PyProof.Rows L2 Gd
variable {K : PySem.W.Frag} {E : XK}
/-- the name of the count is none of the two others -/
structure Nm (s : PySem.Str) : Prop where
  c : ¬ kC = (Sum.inr s : Key)
  l : ¬ kL = (Sum.inr s : Key)
section
variable {s : PySem.Str} {lc ll l2 : Addr} {k j : Int}
theorem ms_C : valV (mKs s lc ll k) kC = some (.ref lc) := valV_pos rfl
theorem ms_L : valV (mKs s lc ll k) kL = some (.ref ll) := (valV_neg nCL).trans (valV_pos rfl)
theorem ms_S (n : Nm s) : valV (mKs s lc ll k) (Sum.inr s) = some (.int k) := (valV_neg n.c).trans ((valV_neg n.l).trans (valV_pos rfl))
theorem ms_put (n : Nm s) : putK (mKs s lc ll k) (Sum.inr s) (.int j) = mKs s lc ll j := by
  unfold putK
  rw [valV_any, ms_S n, Option.isSome_some, if_pos rfl]
  show [if kC = Sum.inr s then (kC, V.int j) else (kC, .ref lc), if kL = Sum.inr s then (kL, V.int j) else (kL, .ref ll), if (Sum.inr s : Key) = Sum.inr s then (Sum.inr s, V.int j) else (Sum.inr s, .int k)] = _
  rw [if_neg n.c, if_neg n.l, if_pos rfl]
  rfl
theorem ms_putL (n : Nm s) : putK (mKs s lc ll k) kL (.ref l2) = mKs s lc l2 k := by
  unfold putK
  rw [valV_any, ms_L, Option.isSome_some, if_pos rfl]
  show [if kC = kL then (kC, V.ref l2) else (kC, .ref lc), if kL = kL then (kL, V.ref l2) else (kL, .ref ll), if (Sum.inr s : Key) = kL then (Sum.inr s, V.ref l2) else (Sum.inr s, .int k)] = _
  rw [if_neg nCL, if_pos rfl, if_neg (fun z => n.l z.symm)]
  rfl
end
structure DrS (s : PySem.Str) (H0 H : Hp) (d n : Nat) : Prop where
  ex : ∃ (lc ll : Addr) (cs ls : List Int) (k : Int), H d = some (.dK (mKs s lc ll k)) ∧ H lc = some (.lst (cs.map V.int)) ∧ H ll = some (.lst (ls.map V.int)) ∧ lc ≠ ll ∧
    cs.length = 64 ∧ (∀ c ∈ cs, 0 ≤ c ∧ c < 2147483647) ∧ ls.length ≤ 63 ∧ 0 ≤ k ∧ k + n ≤ 2147483648 ∧ H0 lc = none ∧ H0 ll = none
  same : Same H0 H
  free : H0 d = none
theorem drw_drS {W : Wd} {H : Hp} {s : PySem.Str} {d n : Nat} (x : Ok K W H [.drw s n]) (e : W.ad[0]? = some d) : DrS s (fun a => if W.own a = some 0 then none else H a) H d n := by
  obtain ⟨p, e1, o, lc, ll, cs, ls, i, o1, o2, ne, hd, hc, hl, c64, cb, l63, i0, il⟩ := x.res 0 _ rfl
  rw [e] at e1
  cases e1
  refine ⟨⟨lc, ll, cs, ls, i, hd, hc, hl, ne, c64, cb, l63, i0, il, if_pos o1, if_pos o2⟩, fun a u q => ?_, if_pos o⟩
  have q : (if W.own a = some 0 then none else H a) = some u := q
  split at q
  · cases q
  · exact q
/-- the heap behind numbers that were drawn -/
theorem drS_ok {W : Wd} {H H' : Hp} {s : PySem.Str} {d n m : Nat} (x : Ok K W H [.drw s n]) (e : W.ad[0]? = some d) (dr : DrS s (fun a => if W.own a = some 0 then none else H a) H' d m) : ∃ W', W.Le W' ∧ Ok K W' H' [.drw s m] := by
  obtain ⟨⟨lc, ll, cs, ls, k, hd, hc, hl, ne, c64, cb, l63, k0, km, f1, f2⟩, sm, f3⟩ := dr
  have la : W.ad.length = 1 := x.len
  have own0 : ∀ a j, W.own a = some j → j = 0 := fun a j q => by
    have := (x.lab a j q).2.2.2
    simp at this
    omega
  -- what the things lean on is free
  have fr : ∀ a, (if W.own a = some 0 then none else H a) = none → W.B a = none ∧ W.G a = none := fun a q => by
    split at q
    · rename_i h
      exact ⟨(x.lab a 0 h).1, (x.lab a 0 h).2.1⟩
    · exact ⟨x.sb.free q, x.sg.free q⟩
  have keep : ∀ a u, W.own a = none → H a = some u → H' a = some u := fun a u o q => sm a u (by
    show (if W.own a = some 0 then none else H a) = some u
    rw [if_neg (by rw [o]; exact fun z => by cases z)]
    exact q)
  have bn : ∀ a u, W.B a = some u → W.own a = none := fun a u q => by
    cases z : W.own a with
    | none => rfl
    | some j =>
      rw [(x.lab a j z).1] at q
      cases q
  have gn : ∀ a u, W.G a = some u → W.own a = none := fun a u q => by
    cases z : W.own a with
    | none => rfl
    | some j =>
      rw [(x.lab a j z).2.1] at q
      cases q
  refine ⟨{ W with own := fun a => if a = d ∨ a = lc ∨ a = ll then some 0 else none }, ⟨rfl, Same.refl _, fun _ _ q => .inl q, fun _ _ q => q, rfl⟩, ⟨fun a u q => keep a u (gn a u q) (x.sg _ _ q), fun a u q => keep a u (bn a u q) (x.sb _ _ q), fun a j q => ?_, x.len, fun j r q => ?_, ⟨tabs_keep x.tb.tabs fun a u q n => ?_, fun a q => ?_, fun a q => ?_⟩⟩⟩
  · have q : (if a = d ∨ a = lc ∨ a = ll then some 0 else none) = some j := q
    split at q
    · rename_i z
      cases q
      rcases z with z | z | z <;> subst z
      · exact ⟨(fr _ f3).1, (fr _ f3).2, by rw [hd]; simp, by simp⟩
      · exact ⟨(fr _ f1).1, (fr _ f1).2, by rw [hc]; simp, by simp⟩
      · exact ⟨(fr _ f2).1, (fr _ f2).2, by rw [hl]; simp, by simp⟩
    · cases q
  · match j, q with
    | 0, q =>
      cases q
      exact ⟨d, e, if_pos (.inl rfl), lc, ll, cs, ls, k, if_pos (.inr (.inl rfl)), if_pos (.inr (.inr rfl)), ne, hd, hc, hl, c64, cb, l63, k0, km⟩
  · cases z : W.own a with
    | none => exact keep a u z q
    | some j =>
      -- what is owned is plain
      exfalso
      obtain ⟨u2, e1, e2⟩ := x.tb.po a (by rw [z]; exact fun z => by cases z)
      rw [q] at e1
      cases e1
      exact n e2
  · have old : ∀ a, W.own a = none → W.Kn a → ∃ u, H' a = some u ∧ ∀ ps, u ≠ .tbl ps := fun a o k => by
      obtain ⟨u, e1, e2⟩ := x.tb.nt a k
      exact ⟨u, keep a u o e1, e2⟩
    rcases q with q | q | q
    · cases z : W.G a with
      | none => exact absurd z q
      | some u => exact old a (gn a u z) (.inl q)
    · cases z : W.B a with
      | none => exact absurd z q
      | some u => exact old a (bn a u z) (.inr (.inl q))
    · have q : (if a = d ∨ a = lc ∨ a = ll then some 0 else none) ≠ none := q
      split at q
      · rename_i z
        rcases z with z | z | z <;> subst z
        · exact ⟨_, hd, fun ps z => by cases z⟩
        · exact ⟨_, hc, nt_lst⟩
        · exact ⟨_, hl, nt_lst⟩
      · exact absurd rfl q
  · have q : (if a = d ∨ a = lc ∨ a = ll then some 0 else none) ≠ none := q
    split at q
    · rename_i z
      rcases z with z | z | z <;> subst z
      · exact ⟨_, hd, fun ps z => (by cases z), fun ps z => (by cases z)⟩
      · exact ⟨_, hc, pl_lst⟩
      · exact ⟨_, hl, pl_lst⟩
    · exact absurd rfl q
/-- the promise of what draws: of things, told by their places -/
def spDrawS (s : PySem.Str) : Sp := fun vs H Q _ => ∃ (d : Addr) (many : Int) (H0 : Hp) (n : Nat), vs = [.ref d, .int many] ∧ 0 < many ∧ many < 1073741824 ∧ DrS s H0 H d (n + 1) ∧ ∀ (v : Int) (H' : Hp), 0 ≤ v → v < many → DrS s H0 H' d n → Q (.int v) H'
/-- .. of data -/
def dDraw (s : PySem.Str) : DSpec := fun ts μ Φ _ => ∃ (n : Nat) (many : Int), ts = [.rs 0, .int many] ∧ μ = [.drw s (n + 1)] ∧ 0 < many ∧ many < 1073741824 ∧ ∀ v : Int, 0 ≤ v → v < many → Φ (.int v) [.drw s n]
theorem draw_imp {P : Program} {w : World} {mg : PySem.Str → Option Value} {base : Heap} {k : Nat} {f : Addr} {fd : FuncData} {ps : List PySem.Str} {s : PySem.Str} (F : FnOk P w K mg base CX0 k f fd ps (spDrawS s)) :
    FnOk P w K mg base CX0 k f fd ps (liftSp K 2 (dDraw s)) := F.imp fun vs H Q E h => by
  obtain ⟨_, W, ts, μ, Φ, xw, o, dv, ⟨n, many, rfl, rfl, m0, m1, k⟩, xl, q⟩ := h
  obtain ⟨v, w, rfl, a, b⟩ := two_dv dv
  obtain ⟨d, e, rfl⟩ := (show ∃ p, _ from a)
  refine ⟨d, many, _, n, by rw [b.int], m0, m1, drw_drS o e, fun v H' v0 v1 dr => ?_⟩
  obtain ⟨W', l, o'⟩ := drS_ok o e dr
  exact q l o' (.int v) (k v v0 v1)
/-- what begins: from the script a dict of numbers -/
def spBegunS (K : PySem.W.Frag) (s : PySem.Str) : Sp := fun vs H Q _ => ∃ (a : Addr) (ns : List Int), vs = [.ref a] ∧ SqL K H a (ns.map V.int) ∧ ns.length ≤ 63 ∧ ∀ (d : Addr) (H' : Hp), DrS s H H' d 1000000 → Q (.ref d) H'
end Dl

set_option maxRecDepth 100000
set_option maxHeartbeats 4000000
namespace Gd
open PySem PySem.Spec PyProof.Rows L2
variable {P : Program} {w : World} {K : PySem.W.Frag} {mg : PySem.Str → Option Value} {base : Heap}
theorem FunD.ok0 {x qual : PySem.Str} {params : Arguments} {body : List Stmt} {scope : Scope} {dvs : List V} {kws : List (PySem.Str × V)} {f : Addr} {fd : FuncData} {N ps : List PySem.Str} {k : Nat} {sp : Sp} (F : FunD K x qual params body scope dvs kws f fd) (S : FnScope N ps scope) (len : ∀ vs H Q E, sp vs H Q E → vs.length = ps.length)
    (hbody : ∀ (cdv : Value) (A : Around) (outer : List Env) (s : Shared) (H : Hp) (vs : List V) (Q : VK) (E : XK), Room k (A.deeper (envOfC qual scope s.heap.objs.size f cdv)) → sp vs H Q E →
      ∃ t, PSs (cxOf CX0 P w K mg base N qual scope f cdv A outer s H E).nox body t ∧ t { nx := fun _ H' => Q .non H', rt := Q } (L2.start N vs) H) : FnOk P w K mg base CX0 (k + 1) f fd ps sp :=
  F.ok S len fun cdv A outer s H vs Q E hr h => let ⟨t, a, b⟩ := hbody cdv A outer s H vs Q E hr h; ⟨t, a.nox, b⟩
/-- .. where no repr is under way -/
theorem FunD.okG {x qual : PySem.Str} {params : Arguments} {body : List Stmt} {scope : Scope} {dvs : List V} {kws : List (PySem.Str × V)} {f : Addr} {fd : FuncData} {N ps : List PySem.Str} {k : Nat} {sp : Sp} (F : FunD K x qual params body scope dvs kws f fd) (S : FnScope N ps scope) (len : ∀ vs H Q E, sp vs H Q E → vs.length = ps.length)
    (hbody : ∀ (cdv : Value) (A : Around) (out : List Env) (s : Shared) (H : Hp) (vs : List V) (Q : VK) (E : XK), A.guards = some [] → Room k (A.deeper (envOfC qual scope s.heap.objs.size f cdv)) → sp vs H Q E →
      ∃ t, PSs (cxOf CX0 P w K mg base N qual scope f cdv A out s H E).nox body t ∧ t { nx := fun _ H' => Q .non H', rt := Q } (L2.start N vs) H) : FnG P w K mg base (k + 1) f fd ps sp := by
  obtain ⟨oc, od, dV, kV, doc, pm, an, cdv, ct, osl, rfl, lk, hcd, _, _⟩ := F.ex
  refine ⟨fun h => len _ _ _ _ h, ?_⟩
  intro A out s H ar us vs Q E hA room e0 bnd rel pr
  obtain ⟨t, bodyp, start'⟩ := hbody cdv A out s H vs Q E hA (room.deeper _) pr
  have inK : K.In s.heap := e0.mod.kin.keeps (fun b o q => (e0.bs b o q).1)
  have nolim : s.heap.NoLimit := e0.mod.nolimit.keeps (fun b o q => (e0.bs b o q).1)
  refine codeAny_call_function room.depth (inK _ _ lk) rfl S.co S.gen rfl (PySem.W.codeRec_of inK hcd) (bnd _ _ _ _ ?_)
  have kinds : ∀ y ∈ ps.zip us, scope.names.lookup y.1 = some .local ∨ (scope.names.lookup y.1 = some .cell ∧ ((cellsFrom (s.heap.objs.size + 1) scope.names []).lookup y.1).isSome = true) := by
    rintro ⟨nm, val⟩ hy
    have m := (List.of_mem_zip hy).1
    exact (S.par nm m).imp id fun q => ⟨q, PySem.W.cellsFrom_some _ _ _ (.inl q)⟩
  refine wpAny_newFunctionEnv_cells S.kind kinds ?_
  rintro env rfl s1 made
  refine ⟨nolim.keeps made.toInCall.keep, codeAny_func ?_⟩
  have inv0 := inv_start (CX := CX0) (mg := mg) (qual := qual) (cd := cdv) (E := E) S room.hd e0 (len _ _ _ _ pr) rel made
  refine wpAny_mono ((bodyp.nox).run [] s1 (L2.start N vs) H _ inv0 start') ?_ fun e s' z => z
  intro fl s' z
  match fl, z with
  | .ret u, ⟨v, σ', H', J, rv, q⟩ => exact ⟨v, H', J.os, J.bare, J.base, J.hok, rv, q⟩
  | .next, ⟨σ', H', J, q⟩ => exact ⟨.non, H', J.os, J.bare, J.base, J.hok, rfl, q⟩
  | .brk, ⟨_, _, _, q⟩ => exact False.elim q
  | .cont, ⟨_, _, _, q⟩ => exact False.elim q
section
variable {X : Cx} {k : Nat} {f : Addr} {fd : FuncData} {ps : List PySem.Str} {sp : Sp} {dvs : List V} {x : PySem.Str} {p pos : Pos} {e : Expr} {es : List Expr} {t : TA}
theorem pe_callGX (G : FnG X.prog X.w X.K X.mg X.base k f fd ps sp) (hA : X.A.guards = some []) (room : Room k X.A) (gl : Gl X x) (at_ : X.mg x = some (.ref f)) (kp : PySem.W.keepIn X.K (.ref f) = true) (hb : ∃ ds, Vals dvs ds ∧ Binds X.K fd ps ds)
    (ha : PA X (e :: es) t) (ndb : (x == ("__debug__" : PySem.Str)) = false := by decide) (h1 : starEach (e :: es) X.env = (false, eval e X.env) :: starEach es X.env := by rfl) (h2 : (backTo pos (starEach es X.env)).any (·.1) = false := by rfl) :
    PE X (.Call (.Name x p) (e :: es) [] pos) (tCall sp dvs E0 t) := by
  obtain ⟨ds, a, b⟩ := hb
  exact pe_callG (E := E0) G hA room gl at_ kp b a ha ndb h1 h2
end
end Gd
namespace Dl
open PySem PySem.Spec PyProof.Rows L2 Gd
variable {K : PySem.W.Frag} {E : XK}
theorem lift_len {n : Nat} {d : DSpec} : ∀ vs H Q E, liftSp K n d vs H Q E → vs.length = n := fun _ _ _ _ h => h.1
theorem lift_lenL {n : Nat} {d} : ∀ vs H Q E, liftSpL K n d vs H Q E → vs.length = n := fun _ _ _ _ h => h.1
theorem ps_keepA {X : Cx} {st : Stmt} {t : TE} {g : TG} (h : PS X st (tAsg t g)) : PS X st (tAsg (tKeep t) g) := h
/-- a law's script: of numbers, whatever they are -/
theorem begun_sim {s : PySem.Str} {W : Wd} {H H' : Hp} {μ : Mu} {d n : Nat} (x : Ok K W H μ) (dr : DrS s H H' d n) : ∃ W', W.Le W' ∧ Ok K W' H' (μ ++ [.drw s n]) ∧ W'.ad[μ.length]? = some d := by
  obtain ⟨⟨lc, ll, cs, ls, k, hd, hc, hl, ne, c64, cb, l63, k0, km, f1, f2⟩, sm, f3⟩ := dr
  have fo : ∀ a, H a = none → W.own a = none := fun a h => by
    cases z : W.own a with
    | none => rfl
    | some j => exact absurd h (x.lab a j z).2.2.1
  have ad1 : (W.ad ++ [d])[μ.length]? = some d := by rw [← x.len]; simp
  have so : ∀ a j, W.own a = some j → (if a = d ∨ a = lc ∨ a = ll then some μ.length else W.own a) = some j := fun a j q => by
    rw [if_neg]
    · exact q
    · rintro (z | z | z) <;> subst z
      · rw [fo _ f3] at q; cases q
      · rw [fo _ f1] at q; cases q
      · rw [fo _ f2] at q; cases q
  refine ⟨{ W with ad := W.ad ++ [d], own := fun a => if a = d ∨ a = lc ∨ a = ll then some μ.length else W.own a }, ⟨rfl, Same.refl _, fun _ _ q => .inl q, fun k p q => ?_, rfl⟩, ⟨x.sg.trans sm, x.sb.trans sm, fun a j q => ?_, by simp [x.len], fun j r q => ?_, x.tb.grow sm rfl (fun a q => ?_) fun a q => ?_⟩, ad1⟩
  · show (W.ad ++ [d])[k]? = _
    rw [List.getElem?_append_left (List.getElem?_eq_some_iff.mp q).1]
    exact q
  · have q : (if a = d ∨ a = lc ∨ a = ll then some μ.length else W.own a) = some j := q
    split at q
    · rename_i z
      cases q
      rcases z with z | z | z <;> subst z
      · exact ⟨x.sb.free f3, x.sg.free f3, by rw [hd]; simp, by simp⟩
      · exact ⟨x.sb.free f1, x.sg.free f1, by rw [hc]; simp, by simp⟩
      · exact ⟨x.sb.free f2, x.sg.free f2, by rw [hl]; simp, by simp⟩
    · obtain ⟨a1, a2, a3, a4⟩ := x.lab a j q
      exact ⟨a1, a2, fun z => a3 (sm.free z), by simp; omega⟩
  · by_cases lt : j < μ.length
    · rw [List.getElem?_append_left lt] at q
      obtain ⟨p, e1, r1⟩ := x.res j r q
      refine ⟨p, ?_, ResOk.relab (W := W) (H := H) (k := j) rfl (Same.refl _) (fun a o => ⟨so a j o, fun u q => sm _ _ q⟩) r1⟩
      show (W.ad ++ [d])[j]? = _
      rw [List.getElem?_append_left (by rw [x.len]; exact lt)]
      exact e1
    · have ek : j = μ.length := by
        have := (List.getElem?_eq_some_iff.mp q).1
        simp at this
        omega
      subst ek
      simp at q
      subst q
      exact ⟨d, ad1, if_pos (.inl rfl), lc, ll, cs, ls, k, if_pos (.inr (.inl rfl)), if_pos (.inr (.inr rfl)), ne, hd, hc, hl, c64, cb, l63, k0, km⟩
  · rcases q with q | q | q
    · exact .inl (.inl q)
    · exact .inl (.inr (.inl q))
    · have q : (if a = d ∨ a = lc ∨ a = ll then some μ.length else W.own a) ≠ none := q
      split at q
      · rename_i z
        rcases z with z | z | z <;> subst z
        · exact .inr ⟨_, hd, pl_dK.1⟩
        · exact .inr ⟨_, hc, nt_lst⟩
        · exact .inr ⟨_, hl, nt_lst⟩
      · exact .inl (.inr (.inr q))
  · have q : (if a = d ∨ a = lc ∨ a = ll then some μ.length else W.own a) ≠ none := q
    split at q
    · rename_i z
      rcases z with z | z | z <;> subst z
      · exact .inr ⟨_, hd, pl_dK⟩
      · exact .inr ⟨_, hc, pl_lst⟩
      · exact .inr ⟨_, hl, pl_lst⟩
    · exact .inl q
end Dl
namespace Gd
open PySem PySem.Spec PyProof.Rows L2
/-! ### the rules with the written part by its name -/
section
variable {X : Cx} {K : PySem.W.Frag}
theorem kT {P : PySem.W.Frag → Prop} (h : X.K = K) (p : P X.K) : P K := h ▸ p
theorem bmK (h : X.K = K) {o e : Expr} {es : List Expr} {to : TE} {t : TA} {name : PySem.Str} {apos cpos : Pos} {T id : String} {r : V → List V → Hp → VK → Prop} (pa : PlainAttrs T) (slot : Slot T name id) (hty : typeOf (.builtin id) = pure (.type "method_descriptor")) (hm : MtR X id r) (ho : PE X o to) (ha : PA X (e :: es) t)
    (hbase : attributeBase o name X.env (eval o X.env) = eval o X.env := by rfl)
    (hfew : ((backTo cpos (starEach (e :: es) X.env)).all (fun x => !x.1) && (backToKw cpos (keywordEach [] X.env)).all (fun x => x.1.isSome)
      && decide ((e :: es).length + ([] : List Keyword).length + (if ([] : List Keyword).isEmpty then 0 else 1) < 30)) = true := by rfl)
    (hline : (apos.endLine == cpos.line) = true := by rfl) (hs : starEach (e :: es) X.env = (false, eval e X.env) :: starEach es X.env := by rfl) (hplain : (backTo cpos (starEach es X.env)).any (·.1) = false := by rfl) :
    PE X (.Call (.Attribute o name apos) (e :: es) [] cpos) (tBM K T r to t) := by
  subst h
  exact pe_bm pa slot hty hm ho ha hbase hfew hline hs hplain
theorem bm0K (h : X.K = K) {o : Expr} {to : TE} {name : PySem.Str} {apos cpos : Pos} {T id : String} {r : V → List V → Hp → VK → Prop} (pa : PlainAttrs T) (slot : Slot T name id) (hty : typeOf (.builtin id) = pure (.type "method_descriptor")) (hm : MtR X id r) (ho : PE X o to)
    (hbase : attributeBase o name X.env (eval o X.env) = eval o X.env := by rfl) (hline : (apos.endLine == cpos.line) = true := by rfl) : PE X (.Call (.Attribute o name apos) [] [] cpos) (tBM0 K T r to) := by
  subst h
  exact pe_bm0 pa slot hty hm ho hbase hline
theorem piLK (h : X.K = K) {tg l : Expr} {tl : TE} (hl : PE X l tl) : PI X tg l (iList K tl) := by
  subst h
  exact pi_list hl
theorem piTK (h : X.K = K) {tg l : Expr} {tl : TE} (hl : PE X l tl) : PI X tg l (iTup K tl) := by
  subst h
  exact pi_tup hl
theorem piEK (h : X.K = K) {e : Expr} {ta : TA} {p pos tpos : Pos} {elts : List Expr} {kk : Nat} (hg : Gl X "enumerate") (hm : X.mg "enumerate" = none) (ha : PA X [e] ta) (hs : starEach [e] X.env = [(false, eval e X.env)] := by rfl) :
    PI X (.Tuple elts kk tpos) (.Call (.Name "enumerate" p) [e] [] pos) (iEnum K ta) := by
  subst h
  exact pi_enum hg hm ha hs
theorem piETK (h : X.K = K) {e : Expr} {ta : TA} {p pos tpos : Pos} {elts : List Expr} {kk : Nat} (hg : Gl X "enumerate") (hm : X.mg "enumerate" = none) (ha : PA X [e] ta) (hs : starEach [e] X.env = [(false, eval e X.env)] := by rfl) :
    PI X (.Tuple elts kk tpos) (.Call (.Name "enumerate" p) [e] [] pos) (iEnumT K ta) := by
  subst h
  exact pi_enumT hg hm ha hs
theorem piZK (h : X.K = K) {e e2 : Expr} {ta : TA} {p pos tpos : Pos} {elts : List Expr} {kk : Nat} (hg : Gl X "zip") (hm : X.mg "zip" = none) (ha : PA X [e, e2] ta)
    (hs : starEach [e, e2] X.env = (false, eval e X.env) :: starEach [e2] X.env := by rfl) (hpl : (backTo pos (starEach [e2] X.env)).any (·.1) = false := by rfl) :
    PI X (.Tuple elts kk tpos) (.Call (.Name "zip" p) [e, e2] [] pos) (iZip K ta) := by
  subst h
  exact pi_zip hg hm ha hs hpl
theorem pgTK (h : X.K = K) {pos : Pos} {es : List Expr} {k : Nat} {t : TGs} {n : Nat} (hc : X.calm = true) (hh : PGs X es t)
    (hn : (assignEach es X.env).length = n := by rfl) (hst : (assignEach es X.env).findIdx? (·.1) = none := by rfl) : PG X (.Tuple es k pos) (gTup K n t) := by
  subst h
  exact pg_tup hc hh hn hst
theorem ptTK (h : X.K = K) {a : Expr} {ta : TE} (ha : PE X a ta) (he : ∀ whole, isTrue a X.env whole = (do let v ← whole; standAt a.pos; holding [v] (truthy v))) :
    PT X a (fun σ H Q => ta σ H fun x H' => ∃ k, TruV K x H' k ∧ Q k H') := by
  subst h
  exact pt_truth ha he
theorem psFK (h : X.K = K) {o value : Expr} {f : PySem.Str} {pos pos' : Pos} {ta tv : TE} (ha : PE X o ta) (hv : PE X value tv) (hs : swapsWith value (some (.Attribute o f pos')) pos.line X.env = pure false) : PS X (.Assign [.Attribute o f pos'] value pos) (sFld K ta tv f) := by
  subst h
  exact ps_fld ha hv hs
theorem inTK (h : X.K = K) : OpR X (compareOp .In) (rInT K false) := by
  subst h
  exact op_in_ty
theorem notInTK (h : X.K = K) : OpR X (compareOp .NotIn) (rInT K true) := by
  subst h
  exact op_notIn_ty
theorem catAK (h : X.K = K) : OpR X (binaryOp .Add) (rCatA K) := by
  subst h
  exact op_catA
theorem anyK (h : X.K = K) (hc : X.calm = true) : CallR X (.builtin "any") (rAny K) := by
  subst h
  exact cr_any hc
theorem listOfK (h : X.K = K) : CallR X (.type "list") (fun xs H Q => ∃ p ys, xs = [V.ref p] ∧ (SqL K H p ys ∨ SqT K H p ys) ∧ ∀ l, H l = none → Q (V.ref l) (upd H l (.lst ys))) := by
  subst h
  exact call_list_of
theorem tupOfK (h : X.K = K) : CallR X (.type "tuple") (fun xs H Q => ∃ p ys, xs = [V.ref p] ∧ ((SqL K H p ys ∧ ∀ l, H l = none → Q (V.ref l) (upd H l (.tup ys))) ∨ (SqT K H p ys ∧ Q (V.ref p) H))) := by
  subst h
  exact call_tuple_of
theorem joinK (h : X.K = K) : MtR X "str.join" (fun x xs H Q => ∃ a p, ∃ ys : List PySem.Str, x = V.str a ∧ xs = [V.ref p] ∧ (SqL K H p (ys.map V.str) ∨ SqT K H p (ys.map V.str)) ∧
    (ys.map (·.length)).sum + ys.length * a.length ≤ 16777216 ∧ Q (V.str (Txt.join a ys)) H) := by
  subst h
  exact mt_join
theorem sortIK (h : X.K = K) : CallR X (.builtin "sorted") (rSortedI K) := by
  subst h
  exact cr_sortedI
end
end Gd
namespace Dl
open PySem PySem.Spec PyProof.Rows L2 Gd
variable {K : PySem.W.Frag} {E : XK}
/-- a + b of tuples -/
def dCatT : Mu → T → T → (T → Prop) → Prop := fun μ a b Ψ => ∃ l m, view μ a = .tup l ∧ view μ b = .tup m ∧ l.length + m.length ≤ 1000000 ∧ Ψ (.tup (l ++ m))
instance sim_catT : SimOp K (rCatA K) dCatT := ⟨fun {W H μ x y tx ty Ψ Q} o dx dy h q => by
  obtain ⟨l, m, e1, e2, z, h⟩ := h
  obtain ⟨p, xs, rfl, s1, d1⟩ := view_tup o dx e1
  obtain ⟨p2, ys, rfl, s2, d2⟩ := view_tup o dy e2
  refine ⟨p, p2, xs, ys, rfl, rfl, s1, s2, by rw [d1.length, d2.length]; exact line1 z, fun hx => ?_, fun hx hy => ?_, fun hx hy p3 f => ?_⟩
  · subst hx
    cases d1
    exact q (Grow.refl o.sb) (.of (view_tup_dn dy e2)) h
  · subst hy
    cases d2
    rw [List.append_nil] at h
    exact q (Grow.refl o.sb) (.of (view_tup_dn dx e1)) h
  · obtain ⟨W', g, d⟩ := new_tup o f (d1.append d2)
    exact q g (.of d) h⟩
/-- sorted(numbers): in order, the same ones -/
def dSortI : Mu → List T → (List T → Prop) → Prop := fun μ ts Ψ => match ts with
  | [t] => ∃ l ns, view μ t = .lst l ∧ T.ints l = some ns ∧ ∀ ns' : List Int, ns'.Perm ns → ns'.Pairwise (· ≤ ·) → Ψ (ns'.map T.int)
  | _ => False
theorem ints_dn {B : Hp} : ∀ ns : List Int, DnAll K B (ns.map V.int) (ns.map T.int)
  | [] => .nil
  | n :: r => .cons (.int n) (ints_dn r)
instance sim_sortI : SimCL K (rSortedI K) dSortI := ⟨fun {W H μ vs ts Ψ Q} x d e q => by
  unfold dSortI at e
  split at e
  · obtain ⟨l, ns, e1, e2, e⟩ := e
    obtain ⟨v, rfl, dv⟩ := one_dv d
    obtain ⟨p, xs, rfl, s, da⟩ := view_lst x dv e1
    rw [ints_is da e2] at s
    refine ⟨p, ns, rfl, SqL.of s, fun ns' p2 pm pw f => ?_⟩
    obtain ⟨x2, fr⟩ := Fr.new (l := ns'.map T.int) x f (ints_dn ns')
    exact q x2 fr (e ns' pm pw)
  · exact e.elim⟩
/-- zip of two lists -/
def rIzip (r : DA) : DL := fun ρ xw μ Φ => r ρ xw μ fun ts μ' => match ts with
  | [.lst l, .lst m] => Φ ((l.zip m).map fun p => .tup [p.1, p.2]) μ'
  | _ => False
instance sim_izip {t : TA} {r} [a : SimA K E t r] : SimI K E (iZip K t) (rIzip r) := ⟨fun o s n h q => a.run o s n h fun {vs τs W1 H1 μ1} l1 o1 d1 h1 => by
  split at h1
  · rename_i l m
    obtain ⟨v, w, rfl, dv, dw⟩ := two_dv d1
    cases (show Dn K W1.B v (.lst l) from dv) with
    | @lst p xs _ e da =>
      cases (show Dn K W1.B w (.lst m) from dw) with
      | @lst p2 ys _ e2 da2 =>
        refine ⟨p, p2, xs, ys, rfl, SqL.of (o1.sb _ _ e), SqL.of (o1.sb _ _ e2), q l1 o1 (fun {W' H' μ'} l' o' i => ?_) h1⟩
        have e' : H' p = some (.lst xs) := o'.sb _ _ (l'.b _ _ e)
        have e2' : H' p2 = some (.lst ys) := o'.sb _ _ (l'.b _ _ e2)
        simp only [List.length_map, List.length_zip]
        refine ⟨fun lt => ?_, fun le => ⟨xs, ys, SqL.of e', SqL.of e2', by rw [da.length, da2.length]; omega⟩⟩
        have lt1 : i < l.length := by omega
        have lt2 : i < m.length := by omega
        obtain ⟨v, ev, dv⟩ := da.get (List.getElem?_eq_getElem lt1)
        obtain ⟨w, ew, dw⟩ := da2.get (List.getElem?_eq_getElem lt2)
        refine ⟨⟨xs, ys, v, w, SqL.of e', SqL.of e2', ev, ew⟩, fun y H'' yl => ?_⟩
        obtain ⟨p3, z, z2, rfl, f, rfl, k, k2⟩ := yl
        have h1 := k xs (SqL.of e')
        have h2 := k2 ys (SqL.of e2')
        rw [ev] at h1
        rw [ew] at h2
        cases h1
        cases h2
        refine ⟨{ W' with B := upd W'.B p3 (.tup [v, w]) }, .tup [l[i], m[i]], Grow.new o'.sb _ f, ?_, ?_⟩
        · rw [List.getElem?_map, List.getElem?_eq_getElem (by simp; omega), List.getElem_zip]
          rfl
        have sm := l'.b.trans (same_new (o := .tup [v, w]) (o'.sb.free f))
        exact .tup (SqT.of upd_same) (.cons (dv.mono sm) (.cons (dw.mono sm) .nil))
  · exact h1.elim⟩
theorem flats_map {α : Type} {f : α → T} (h : ∀ x, (f x).flat = true) : ∀ l : List α, flats (l.map f) = true
  | [] => rfl
  | a :: r => by
    show ((f a).flat && flats (r.map f)) = true
    rw [h a, flats_map h r]
    rfl
theorem ints_mapf {α : Type} (f : α → Int) : ∀ l : List α, T.ints (l.map fun x => .int (f x)) = some (l.map f)
  | [] => rfl
  | a :: r => by
    show (T.ints (r.map fun x => .int (f x))).map _ = _
    rw [ints_mapf f r]
    rfl
end Dl

namespace Dl
open PySem PySem.Spec PyProof.Rows L2 Gd
/-! ### small things at work -/
theorem atI_nat {α : Type} {l : List α} {j : Nat} {x : α} (e : l[j]? = some x) : atI l (j : Int) = some x := by
  have lt := (List.getElem?_eq_some_iff.mp e).1
  obtain ⟨y, _, e1, e2⟩ := at_in (l := l) (i := (j : Int)) (by omega) (by omega)
  rw [Int.toNat_natCast, e] at e1
  rw [e2, e1]
theorem atI_map {α β : Type} {l : List α} {f : α → β} {j : Nat} {x : α} (e : l[j]? = some x) : atI (l.map f) (j : Int) = some (f x) := atI_nat (by rw [List.getElem?_map, e]; rfl)
theorem atI_int {α : Type} {l : List α} {i : Int} {x : α} (h : 0 ≤ i) (e : l[i.toNat]? = some x) : atI l i = some x := by
  have := atI_nat e
  rwa [Int.toNat_of_nonneg h] at this
theorem iteF' {b : Bool} {A B : Prop} (e : b = false) (h : B) : if b = true then A else B := by
  subst e
  exact h
theorem iteT' {b : Bool} {A B : Prop} (e : b = true) (h : A) : if b = true then A else B := by
  subst e
  exact h
theorem iteE {b c : Bool} {A B : Prop} (e : b = c) (h : if c = true then A else B) : if b = true then A else B := by
  subst e
  exact h
section
variable {K : PySem.W.Frag} {E : XK}
def rUn (f : Int → T) (r : DE) : DE := fun ρ xw μ Φ => r ρ xw μ fun t μ' => match t with
  | .int i => Φ (f i) μ'
  | _ => False
instance sim_un {t : TE} {r} {f : Int → Int} [a : SimE K E t r] : SimE K E (tUn (rU fun i => V.int (f i)) t) (rUn (fun i => .int (f i)) r) := ⟨fun x s n h q => a.run x s n h fun {v τ W1 H1 μ1} l1 x1 d1 h1 => by
  split at h1
  · cases d1.int
    exact ⟨_, rfl, q l1 x1 (.of (.int _)) h1⟩
  · exact h1.elim⟩
end
/-- a draw at work -/
theorem drawR {s : PySem.Str} {μ : Mu} {k n : Nat} {many : Int} {Φ : T → Mu → Prop} {xw : XW} (e : μ[k]? = some (.drw s n)) (n0 : 0 < n) (m0 : 0 < many) (m1 : many < 1073741824) (q : ∀ v : Int, 0 ≤ v → v < many → Φ (.int v) (μ.set k (.drw s (n - 1)))) : CallD (dDraw s) [.rs k, .int many] μ Φ xw := by
  obtain ⟨m, rfl⟩ : ∃ m, n = m + 1 := ⟨n - 1, by omega⟩
  exact callR e rfl ⟨m, many, rfl, rfl, m0, m1, fun v v0 v1 => q v v0 v1⟩
theorem at_intT {cs : List Int} {i : Int} (h : 0 ≤ i) (k : i < cs.length) : ∃ c, c ∈ cs ∧ atI (cs.map T.int) i = some (.int c) := by
  obtain ⟨x, hx, e, _⟩ := at_in (l := cs) h k
  exact ⟨x, hx, atI_int h (by rw [List.getElem?_map, e]; rfl)⟩
theorem range_at {n i : Nat} {t : T} (e : ((List.range n).map fun i : Nat => T.int i)[i]? = some t) : i < n ∧ t = .int i := by
  rw [List.getElem?_map, Option.map_eq_some_iff] at e
  obtain ⟨j, e1, rfl⟩ := e
  obtain ⟨lt, e2⟩ := List.getElem?_eq_some_iff.mp e1
  rw [List.length_range] at lt
  rw [List.getElem_range] at e2
  exact ⟨lt, by rw [e2]⟩
theorem rSeq_go {a b : DS} {D : DEnds} {xw : XW} {ρ : Rho} {μ : Mu} (h : a { D with nx := fun ρ' μ' => b D xw ρ' μ' } xw ρ μ) : rSeq a b D xw ρ μ := h
/-- what is known between two pieces -/
theorem rSeq_cut {a b : DS} {D : DEnds} {xw : XW} {ρ : Rho} {μ : Mu} (R : Rho → Mu → Prop) (h1 : ∀ N : Rho → Mu → Prop, (∀ ρ μ, R ρ μ → N ρ μ) → a { D with nx := N } xw ρ μ) (h2 : ∀ ρ μ, R ρ μ → b D xw ρ μ) : rSeq a b D xw ρ μ := h1 _ h2
theorem atI_last {α : Type} {l : List α} {x : α} (e : l[l.length - 1]? = some x) : atI l (-1) = some x := by
  have lt := (List.getElem?_eq_some_iff.mp e).1
  unfold atI
  rw [show ixN l.length (-1) = some (l.length - 1) from by
    unfold ixN
    simp
    omega]
  exact e
/-- from here on the list of slot i is changed no more -/
def tFrz (_ : Nat) (t : TS) : TS := t
def rFrz (i : Nat) (r : DS) : DS := fun D xw ρ μ => match ρ[i]? with
  | some (some (.rs k)) => ∃ l, μ[k]? = some (.lst l) ∧ r D xw (ρ.set i (some (.lst l))) (μ.set k .gone)
  | _ => False
section
variable {K : PySem.W.Frag} {E : XK}
instance sim_frz {i : Nat} {t : TS} {r} [a : SimS K E t r] : SimS K E (tFrz i t) (rFrz i r) := ⟨fun {W H σ ρ μ xw D De} o s n k h => by
  unfold rFrz at h
  split at h
  · rename_i j e
    obtain ⟨l, el, h⟩ := h
    obtain ⟨v, ev, dv⟩ := s.2 i _ e
    obtain ⟨p, xs, W1, ea, l1, o1, fr⟩ := o.drop el
    obtain ⟨W2, l2, o2, d⟩ := fr.froz o1
    obtain ⟨p2, ep, rfl⟩ := (show ∃ p, _ from dv)
    rw [ea] at ep
    cases ep
    have l3 := l1.trans l2
    have s2 := (s.mono l3).set (i := i) (.of d)
    have es : σ.set i (some (.ref p)) = σ := by
      obtain ⟨lt, e3⟩ := List.getElem?_eq_some_iff.mp ev
      rw [← e3]
      exact List.set_getElem_self lt
    rw [es] at s2
    exact a.run o2 s2 (n.mono l3) (k.mono l3) h
  · exact h.elim⟩
theorem ps_frz {X : Cx} {st : Stmt} {t : TS} (i : Nat) (h : PS X st t) : PS X st (tFrz i t) := h
end
theorem cutT_map {α β : Type} (f : α → β) (l : List α) (lo hi : Option Int) : cutT (l.map f) lo hi = (cutT l lo hi).map f := by
  unfold cutT
  rw [List.length_map, List.map_take, List.map_drop]
theorem enum_at {l : List T} {i : Nat} {t : T} (e : (l.zipIdx.map fun p => T.tup [.int p.2, p.1])[i]? = some t) : ∃ x, l[i]? = some x ∧ t = .tup [.int i, x] := by
  rw [List.getElem?_map, List.getElem?_zipIdx, Option.map_map, Option.map_eq_some_iff] at e
  obtain ⟨x, a, rfl⟩ := e
  refine ⟨x, a, ?_⟩
  show T.tup [.int ((0 + i : Nat) : Int), x] = _
  rw [Nat.zero_add]
theorem enum_len (l : List T) : (l.zipIdx.map fun p => T.tup [.int p.2, p.1]).length = l.length := by
  rw [List.length_map, List.length_zipIdx]
section
variable {K : PySem.W.Frag} {E : XK}
def rMake0 (C : Addr) (n : Nat) (d : DSpec) (τs : List T) (K : PySem.W.Frag) (ra : DA) : DE := fun ρ xw μ Φ => ra ρ xw μ fun ts μ' => COk K C [] ∧ (ts ++ τs).length + 1 = n ∧
  CallD d (.rs μ'.length :: (ts ++ τs)) (μ' ++ [.obj C []]) (fun τ μ2 => τ = .non ∧ μ2.length = μ'.length + 1 ∧ ∃ fs, μ2[μ'.length]? = some (.obj C fs) ∧ Φ (.obj C fs) (μ2.take μ'.length)) (fun _ _ _ => False)
instance (priority := 500) sim_make0 {C : Addr} {n : Nat} {d : DSpec} {dvs : List V} {t : TA} {ra τs} [a : SimA K E t ra] [z : SimD K dvs τs] : SimE K E (tMake C (liftSp K n d) dvs (fun _ _ _ => False) t) (rMake0 C n d τs K ra) := ⟨fun {W H σ ρ μ xw Φ Q} x s k h q => a.run x s k h fun {vs ts W1 H1 μ1} l1 x1 d1 h1 => by
  obtain ⟨c, ln, h1⟩ := h1
  intro ad dx fx fd ne
  obtain ⟨W2, l2, x2, e2⟩ := x1.make fx fd ne c
  refine call_sim (ts := .rs μ1.length :: (ts ++ τs)) x2 (.cons ⟨ad, e2, rfl⟩ ((d1.app (z.all _)).mono l2)) (by simp only [List.length_cons]; exact ln) (@xl_none K _ _) h1 (fun {v τ W' H' μ'} l o dv h => ?_)
  obtain ⟨rfl, len, fs, e3, h⟩ := h
  have em : μ' = μ'.take μ1.length ++ [.obj C fs] := by
    have : μ'.drop μ1.length = [.obj C fs] := by
      rw [List.drop_eq_getElem_cons (by omega), List.drop_eq_nil_of_le (by omega)]
      have := (List.getElem?_eq_some_iff.mp e3).2
      rw [this]
    rw [← this, List.take_append_drop]
  have tl : (μ'.take μ1.length).length = μ1.length := by rw [List.length_take]; omega
  rw [em] at o
  obtain ⟨W4, g4, b4, n4, a4, o4, dn, t4⟩ := o.done tl.symm (l.ad _ _ e2)
  have le4 : W2.Le W4 → True := fun _ => trivial
  refine ⟨dv.non, q (W' := W4) (l1.trans ⟨g4.trans (l.g.trans l2.g), (l2.b.trans l.b).trans b4, fun a u e => ?_, fun j p e => ?_, t4.trans (l.t.trans l2.t)⟩) o4 (.of dn) h⟩
  · rcases n4 a u e with e | e
    · exact (l2.trans l).nb a u e
    · exact .inr (by rw [← (l2.trans l).g]; exact e)
  · rw [a4, tl]
    have lt := (List.getElem?_eq_some_iff.mp e).1
    rw [x1.len] at lt
    rw [List.getElem?_take, if_pos lt]
    exact (l2.trans l).ad _ _ e⟩
end
end Dl

namespace Dl
open PySem PySem.Spec PyProof.Rows L2 Gd
/-! ### what may be shown, told of data -/
/-- t may be shown, at most n deep, at most b in all -/
inductive Sw : T → PyData → Nat → Nat → Prop
  | non : Sw .non .none 0 0
  | bl (b : Bool) : Sw (.bl b) (.bool b) 0 0
  | int {i : Int} (h : i.natAbs < 10 ^ 28) : Sw (.int i) (.int i) 0 0
  | str {z : PySem.Str} (h : okS z) : Sw (.str z) (.str z) 0 z.length
  | lst {l : List T} {ds : List PyData} {n b : Nat} (pds : T.pds l = some ds) (s1 : PyData.showableAll ds = true) (s2 : PyData.hasDictAll ds = false) (s3 : PyData.depthAll ds ≤ n) (s4 : PyData.leavesShortAll 30 ds = true) (s5 : PyData.bulkAll ds ≤ b) : Sw (.lst l) (.list ds) (n + 1) b
  | tup {l : List T} {ds : List PyData} {n b : Nat} (pds : T.pds l = some ds) (s1 : PyData.showableAll ds = true) (s2 : PyData.hasDictAll ds = false) (s3 : PyData.depthAll ds ≤ n) (s4 : PyData.leavesShortAll 30 ds = true) (s5 : PyData.bulkAll ds ≤ b) : Sw (.tup l) (.tuple ds) (n + 1) b
structure Swd (t : T) (d : PyData) (n b : Nat) : Prop where
  pd : t.pd = some d
  s1 : d.showable = true
  s2 : d.hasDict = false
  s3 : d.depth ≤ n
  s4 : d.leavesShort 30 = true
  s5 : d.bulk ≤ b
theorem shown_int30 {i : Int} (h : i.natAbs < 10 ^ 28) : (PyData.shown (.int i)).length ≤ 30 := by
  have e := int_text_length_le10 (k := 28) (by decide) h
  show (Str.ofString (toString i)).length ≤ 30
  rw [PySem.ofString_length]
  omega
theorem int_log {i : Int} (h : i.natAbs < 10 ^ 28) : i.natAbs.log2 < 1920 := by
  by_cases z : i.natAbs = 0
  · rw [z]
    decide
  · rw [Nat.log2_lt z]
    exact Nat.lt_of_lt_of_le h (by decide +kernel)
theorem Sw.is {t : T} {d : PyData} {n b : Nat} (h : Sw t d n b) : Swd t d n b := by
  cases h with
  | non => exact ⟨by simp [T.pd], by simp [PyData.showable], by simp [PyData.hasDict], by simp [PyData.depth], by simp [PyData.leavesShort], by simp [PyData.bulk]⟩
  | bl b => exact ⟨by simp [T.pd], by simp [PyData.showable], by simp [PyData.hasDict], by simp [PyData.depth], by simp [PyData.leavesShort], by simp [PyData.bulk]⟩
  | int h => exact ⟨by simp [T.pd], by simp only [PyData.showable]; exact decide_eq_true (int_log h), by simp [PyData.hasDict], by simp [PyData.depth], by simp only [PyData.leavesShort]; exact decide_eq_true (shown_int30 h), by simp [PyData.bulk]⟩
  | str h => exact ⟨by simp [T.pd], by simp [PyData.showable], by simp [PyData.hasDict], by simp [PyData.depth], by
      simp only [PyData.leavesShort, List.all_eq_true, decide_eq_true_eq]
      exact fun c hc => Nat.lt_trans (h c hc) (by decide), by simp only [PyData.bulk]; exact Nat.le_refl _⟩
  | lst p a b c d e => exact ⟨by simp only [T.pd, p, Option.map_some], by simpa only [PyData.showable] using a, by simpa only [PyData.hasDict] using b, by simp only [PyData.depth]; omega, by simpa only [PyData.leavesShort] using d, by simpa only [PyData.bulk] using e⟩
  | tup p a b c d e => exact ⟨by simp only [T.pd, p, Option.map_some], by simpa only [PyData.showable] using a, by simpa only [PyData.hasDict] using b, by simp only [PyData.depth]; omega, by simpa only [PyData.leavesShort] using d, by simpa only [PyData.bulk] using e⟩
theorem Sw.shw {t : T} {d : PyData} {n b : Nat} (h : Sw t d n b) (h1 : n ≤ 60) (h2 : b ≤ 100000) : Shw d :=
  shw_of h.is.s1 h.is.s2 (Nat.le_trans h.is.s3 h1) h.is.s4 (Nat.le_trans h.is.s5 h2)
/-- all of a list may be shown -/
inductive Sws : List T → List PyData → Nat → Nat → Prop
  | nil : Sws [] [] 0 0
  | cons {t : T} {d : PyData} {l : List T} {ds : List PyData} {n b m c : Nat} (h : Sw t d n b) (k : Sws l ds m c) : Sws (t :: l) (d :: ds) (max n m) (b + 1 + c)
structure Swds (l : List T) (ds : List PyData) (n b : Nat) : Prop where
  pd : T.pds l = some ds
  s1 : PyData.showableAll ds = true
  s2 : PyData.hasDictAll ds = false
  s3 : PyData.depthAll ds ≤ n
  s4 : PyData.leavesShortAll 30 ds = true
  s5 : PyData.bulkAll ds ≤ b
theorem Sws.is : ∀ {l : List T} {ds : List PyData} {n b : Nat}, Sws l ds n b → Swds l ds n b
  | _, _, _, _, .nil => ⟨by simp [T.pds], by simp [PyData.showableAll], by simp [PyData.hasDictAll], by simp [PyData.depthAll], by simp [PyData.leavesShortAll], by simp [PyData.bulkAll]⟩
  | _, _, _, _, .cons h k => by
    have a := h.is
    have b := k.is
    refine ⟨by simp only [T.pds, a.pd, b.pd, Option.bind_some, Option.map_some], by simp only [PyData.showableAll, a.s1, b.s1, Bool.and_self], by simp only [PyData.hasDictAll, a.s2, b.s2, Bool.or_self], ?_, by simp only [PyData.leavesShortAll, a.s4, b.s4, Bool.and_self], ?_⟩
    · have := a.s3
      have := b.s3
      simp only [PyData.depthAll]
      omega
    · have := a.s5
      have := b.s5
      simp only [PyData.bulkAll]
      omega
theorem Sws.l {l : List T} {ds : List PyData} {n b : Nat} (h : Sws l ds n b) : Sw (.lst l) (.list ds) (n + 1) b := .lst h.is.pd h.is.s1 h.is.s2 h.is.s3 h.is.s4 h.is.s5
theorem Sws.t {l : List T} {ds : List PyData} {n b : Nat} (h : Sws l ds n b) : Sw (.tup l) (.tuple ds) (n + 1) b := .tup h.is.pd h.is.s1 h.is.s2 h.is.s3 h.is.s4 h.is.s5
/-- many like things may be shown -/
theorem Sws.all {n b : Nat} : ∀ {l : List T}, (∀ t ∈ l, ∃ d, Sw t d n b) → ∃ ds, Swds l ds n (l.length * (b + 1))
  | [], _ => ⟨[], ⟨by simp [T.pds], by simp [PyData.showableAll], by simp [PyData.hasDictAll], by simp [PyData.depthAll], by simp [PyData.leavesShortAll], by simp [PyData.bulkAll]⟩⟩
  | t :: l, h => by
    obtain ⟨d, hd⟩ := h t List.mem_cons_self
    obtain ⟨ds, b⟩ := Sws.all (l := l) fun u hu => h u (List.mem_cons_of_mem _ hu)
    have a := hd.is
    refine ⟨d :: ds, ⟨by simp only [T.pds, a.pd, b.pd, Option.bind_some, Option.map_some], by simp only [PyData.showableAll, a.s1, b.s1, Bool.and_self], by simp only [PyData.hasDictAll, a.s2, b.s2, Bool.or_self], ?_, by simp only [PyData.leavesShortAll, a.s4, b.s4, Bool.and_self], ?_⟩⟩
    · have := a.s3
      have := b.s3
      simp only [PyData.depthAll]
      omega
    · have := a.s5
      have := b.s5
      simp only [PyData.bulkAll, List.length_cons, Nat.succ_mul]
      omega
theorem Swds.l {l : List T} {ds : List PyData} {n b : Nat} (h : Swds l ds n b) : Sw (.lst l) (.list ds) (n + 1) b := .lst h.pd h.s1 h.s2 h.s3 h.s4 h.s5
theorem Swds.t {l : List T} {ds : List PyData} {n b : Nat} (h : Swds l ds n b) : Sw (.tup l) (.tuple ds) (n + 1) b := .tup h.pd h.s1 h.s2 h.s3 h.s4 h.s5
/-- two numbers -/
theorem sw_ii {i j : Int} (h : i.natAbs < 10 ^ 28) (k : j.natAbs < 10 ^ 28) : ∃ d, (T.lst [.int i, .int j]).pd = some d ∧ Shw d :=
  ⟨_, (Sws.cons (.int h) (.cons (.int k) .nil)).l.is.pd, (Sws.cons (.int h) (.cons (.int k) .nil)).l.shw (by decide) (by decide)⟩
theorem Sw.up {t : T} {d : PyData} {n b c : Nat} (h : Sw t d (n + 1) b) (k : b ≤ c) : Sw t d (n + 1) c := by
  cases h with
  | lst p a1 a2 a3 a4 a5 => exact .lst p a1 a2 a3 a4 (Nat.le_trans a5 k)
  | tup p a1 a2 a3 a4 a5 => exact .tup p a1 a2 a3 a4 (Nat.le_trans a5 k)
theorem pds_len : ∀ {l : List T} {ds : List PyData}, T.pds l = some ds → ds.length = l.length
  | [], ds, e => by
    simp only [T.pds] at e
    cases e
    rfl
  | t :: r, ds, e => by
    simp only [T.pds, Option.bind_eq_some_iff, Option.map_eq_some_iff] at e
    obtain ⟨d, e0, ms, e1, rfl⟩ := e
    rw [List.length_cons, List.length_cons, pds_len e1]
/-! ### a law's own def -/
def spLawD (K : PySem.W.Frag) : Sp := fun vs H Q _ => ∃ (a : Addr) (ns : List Int), vs = [.ref a] ∧ SqL K H a (ns.map V.int) ∧ ns.length ≤ 63 ∧ ∀ H', Q (.bl true) H'
theorem law_len {K : PySem.W.Frag} : ∀ vs H Q E, spLawD K vs H Q E → vs.length = 1 := fun vs H Q E h => by
  obtain ⟨_, _, rfl, _⟩ := h
  rfl
theorem law_sim {K : PySem.W.Frag} {s : PySem.Str} {rest : TS} {r : DS} {N : List PySem.Str} {vs : List V} {H : Hp} {Q : VK} {E : XK} (h : spLawD K vs H Q E) [z : SimS K E rest r] (hN : 2 ≤ N.length)
    (k : r ⟨fun _ _ => False, fun t _ => t = .bl true, fun _ _ => False, fun _ _ => False⟩ (fun _ _ _ => False) (none :: some (.rs 0) :: List.replicate (N.length - 2) none) [.drw s 1000000]) :
    tSeq (tAsg (tCall (spBegunS K s) [] E0 (tCons (tVar 0) tNil)) (gName 1)) rest { nx := fun _ H' => Q .non H', rt := Q } (L2.start N vs) H := by
  obtain ⟨a, ns, rfl, hS, l63, q⟩ := h
  refine ⟨_, rfl, a, ns, rfl, hS, l63, fun d H' dr => ?_⟩
  have o0 : Ok K ⟨fun _ => none, fun _ => none, [], fun _ => none, []⟩ H [] := ⟨fun _ _ e => (by cases e), fun _ _ e => (by cases e), fun _ _ e => (by cases e), rfl, fun _ _ e => (by cases e), ⟨fun p hp => (by cases hp), fun a q => (by rcases q with q | q | q <;> exact absurd rfl q), fun a q => absurd rfl q⟩⟩
  obtain ⟨W', l1, o1, e1⟩ := begun_sim o0 dr
  obtain ⟨n, en⟩ : ∃ n, N.length = n + 2 := ⟨N.length - 2, by omega⟩
  have s0 : Sl K W' (L2.start N [.ref a]) (List.replicate N.length none) := by
    refine ⟨?_, fun i t e => ?_⟩
    · unfold L2.start
      simp
      omega
    · rw [List.getElem?_replicate] at e
      split at e <;> cases e
  have s1 := s0.set (i := 1) (v := .ref d) (t := .rs 0) ⟨d, e1, rfl⟩
  have er : (List.replicate N.length (none : Option T)).set 1 (some (.rs 0)) = none :: some (.rs 0) :: List.replicate (N.length - 2) none := by
    rw [en]
    rfl
  rw [er] at s1
  exact z.run o1 s1 xl_none ⟨fun _ _ _ h => False.elim h, fun {v τ W2 H2 μ2} l2 o2 d2 h2 => by
    subst h2
    rw [d2.bl]
    exact q H2, fun _ _ _ h => False.elim h, fun _ _ _ h => False.elim h⟩ k
end Dl

namespace Dl
open PySem PySem.Spec PyProof.Rows L2 Gd
variable {K : PySem.W.Frag} {E : XK}
/-! ### isinstance, divmod of data -/
theorem sqT_tx {H : Hp} {a : Addr} {xs : List V} (h : SqT K H a xs) : TyX K H (.ref a) (.type "tuple") := by
  rcases h with h | ⟨o, its, n, e, c, _⟩
  · rcases h with h | ⟨o, h⟩
    · exact .base (.tup h)
    · exact .fTuple h
  · exact .kTuple e c
theorem Dn.tx {H : Hp} {v : V} {t : T} {n : String} (d : Dn K H v t) (e : t.tyn = some n) : TyX K H v (.type n) := by
  cases d with
  | non => cases e; exact .base .non
  | bl b => cases e; exact .base (.bl b)
  | int i => cases e; exact .base (.int i)
  | str t => cases e; exact .base (.str _)
  | lst a b => cases e; exact .base (.lst a)
  | tup a b => cases e; exact sqT_tx a
  | far o => cases e; exact o.tx
  | _ => cases e
def dIsi : Mu → List T → (T → Prop) → Prop := fun μ ts Ψ => match ts with
  | [t, .ty m] => ∃ n b, (view μ t).tyn = some n ∧ kitB n m = some b ∧ Ψ (.bl b)
  | _ => False
instance sim_isi : SimC K (rIsi K) dIsi := ⟨fun {W H μ vs ts Ψ Q} x d e q => by
  unfold dIsi at e
  split at e
  · obtain ⟨n, b, e1, e2, e⟩ := e
    obtain ⟨v, w, rfl, dv, dw⟩ := two_dv d
    exact ⟨v, w, _, _, b, rfl, dw.tyv ▸ .ty _, (view_dn x dv rfl (tyn_rs e1)).tx e1, kit_ty e2, q (Grow.refl x.sb) (.of (.bl _)) e⟩
  · exact e.elim⟩
def rDivmod : List V → Hp → VK → Prop := fun xs H Q => ∃ i j, xs = [.int i, .int j] ∧ CDiv i j ∧ ∀ p, H p = none → Q (.ref p) (upd H p (.tup [.int (i / j), .int (i % j)]))
theorem call_dm {X : Cx} : CallR X (.builtin "divmod") rDivmod := call_divmod
def dDivmod : Mu → List T → (T → Prop) → Prop := fun μ ts Ψ => match ts with
  | [.int i, .int j] => CDiv i j ∧ Ψ (.tup [.int (i / j), .int (i % j)])
  | _ => False
instance sim_divmod : SimC K rDivmod dDivmod := ⟨fun {W H μ vs ts Ψ Q} x d e q => by
  unfold dDivmod at e
  split at e
  · obtain ⟨v, w, rfl, dv, dw⟩ := two_dv d
    cases dv.int
    cases dw.int
    refine ⟨_, _, rfl, e.1, fun p f => ?_⟩
    obtain ⟨W', g, dn⟩ := new_tup x f (.cons (.int _) (.cons (.int _) .nil))
    exact q g (.of dn) e.2
  · exact e.elim⟩
end Dl

namespace Gd
open PySem PySem.Spec PyProof.Rows L2
section
variable {X : Cx} {a b c d : Expr} {ta tb tc td : TE} {pos : Pos}
/-- a op b op' c op'' d -/
def tChain3 (r r' r'' : R2) (ta tb tc td : TE) : TE := fun σ H Q => ta σ H fun x H1 => tb σ H1 fun y H2 => r x y H2 fun z H3 => ∃ k, z = .bl k ∧
  (if k = true then tc σ H3 fun w' H4 => r' y w' H4 fun z2 H5 => ∃ k2, z2 = .bl k2 ∧ (if k2 = true then td σ H5 fun u' H6 => r'' w' u' H6 Q else Q (.bl false) H5) else Q (.bl false) H3)
theorem pe_chain3 {op op' op'' : CmpOp} {r r' r'' : R2} (ho : OpR X (compareOp op) r) (ho' : OpR X (compareOp op') r') (ho'' : OpR X (compareOp op'') r'') (ha : PE X a ta) (hb : PE X b tb) (hc : PE X c tc) (hd : PE X d td)
    (hm : lastMarks [op, op', op''] [b, c, d] = false := by with_unfolding_all rfl) : PE X (.Compare a [op, op', op''] [b, c, d] pos) (tChain3 r r' r'' ta tb tc td) := by
  refine ⟨fun pins t0 τ G R J g => ?_⟩
  refine Compare_chain (thn (ha.run pins t0 τ G _ J g) fun v t1 ⟨x, G1, J1, ra, g1⟩ => chain_link (thn (hb.run pins t1 τ G1 _ J1 g1) fun u t2 ⟨y, G2, J2, rb, g2⟩ =>
    thn (ho pins t2 τ G2 x y v u _ J2 ra rb g2) fun _ t3 ⟨z, G3, J3, rz, k, ez, g3⟩ => ?_)) hm
  subst ez
  cases rz
  refine wpAny_truthy_bool ?_
  by_cases hk : k = true
  · subst hk
    refine ite_tt (chain_link (thn (hc.run pins t3 τ G3 _ J3 g3) fun w' t4 ⟨z', G4, J4, rc, g4⟩ => thn (ho' pins t4 τ G4 y z' u w' _ J4 rb rc g4) fun _ t5 ⟨z2, G5, J5, r5, k2, e2, g5⟩ => ?_))
    subst e2
    cases r5
    refine wpAny_truthy_bool ?_
    by_cases hk2 : k2 = true
    · subst hk2
      exact ite_tt (chain_last (thn (hd.run pins t5 τ G5 _ J5 g5) fun w2 t6 ⟨z3, G6, J6, rd, g6⟩ => ho'' pins t6 τ G6 z' z3 w' w2 R J6 rc rd g6))
    · rw [if_neg hk2] at g5
      have : k2 = false := by simpa using hk2
      subst this
      exact ite_ff ⟨V.bl false, G5, J5, rfl, g5⟩
  · rw [if_neg hk] at g3
    have : k = false := by simpa using hk
    subst this
    exact ite_ff ⟨V.bl false, G3, J3, rfl, g3⟩
end
end Gd
namespace Dl
open PySem PySem.Spec PyProof.Rows L2 Gd
variable {K : PySem.W.Frag} {E : XK}
def rChain3 (d d' d'' : Mu → T → T → (T → Prop) → Prop) (ra rb rc rd : DE) : DE := fun ρ xw μ Φ => ra ρ xw μ fun a μ1 => rb ρ xw μ1 fun b μ2 => d μ2 a b fun z => match z with
  | .bl k => if k = true then rc ρ xw μ2 fun c μ3 => d' μ3 b c fun z2 => match z2 with
    | .bl k2 => if k2 = true then rd ρ xw μ3 fun e μ4 => d'' μ4 c e fun z3 => Φ z3 μ4 else Φ (.bl false) μ3
    | _ => False
    else Φ (.bl false) μ2
  | _ => False
instance sim_chain3 {r r' r'' : R2} {ta tb tc td : TE} {d d' d'' ra rb rc rd} [o : SimOp K r d] [o' : SimOp K r' d'] [o'' : SimOp K r'' d''] [a : SimE K E ta ra] [b : SimE K E tb rb] [c : SimE K E tc rc] [e : SimE K E td rd] : SimE K E (tChain3 r r' r'' ta tb tc td) (rChain3 d d' d'' ra rb rc rd) := ⟨fun {W H σ ρ μ xw Φ Q} x s n h q =>
  a.run x s n h fun {v1 τ1 W1 H1 μ1} l1 x1 d1 h1 => b.run x1 (s.mono l1) (n.mono l1) h1 fun {v2 τ2 W2 H2 μ2} l2 x2 d2 h2 => o.run x2 (d1.mono l2) d2 h2 fun {v3 τ3 W3 H3} g d3 h3 => by
    have x3 := g.ok x2
    have l3 := g.le x2
    split at h3
    · rename_i k
      refine ⟨k, d3.bl, ?_⟩
      cases k with
      | false => exact q ((l1.trans l2).trans l3) x3 (.of (.bl _)) h3
      | true =>
        refine c.run x3 (((s.mono l1).mono l2).mono l3) (n.mono ((l1.trans l2).trans l3)) h3 fun {v4 τ4 W4 H4 μ4} l4 x4 d4 h4 => o'.run x4 ((d2.mono l3).mono l4) d4 h4 fun {v5 τ5 W5 H5} g5 d5 h5 => ?_
        have x5 := g5.ok x4
        have l5 := g5.le x4
        split at h5
        · rename_i k2
          refine ⟨k2, d5.bl, ?_⟩
          cases k2 with
          | false => exact q ((((l1.trans l2).trans l3).trans l4).trans l5) x5 (.of (.bl _)) h5
          | true =>
            exact e.run x5 (((((s.mono l1).mono l2).mono l3).mono l4).mono l5) (n.mono ((((l1.trans l2).trans l3).trans l4).trans l5)) h5 fun {v6 τ6 W6 H6 μ6} l6 x6 d6 h6 => o''.run x6 ((d4.mono l5).mono l6) d6 h6 fun {v7 τ7 W7 H7} g7 d7 h7 =>
              q ((((((l1.trans l2).trans l3).trans l4).trans l5).trans l6).trans (g7.le x6)) (g7.ok x6) d7 h7
        · exact h5.elim
    · exact h3.elim⟩
end Dl

set_option maxHeartbeats 4000000
/-! ### zip of three lists -/
namespace Z3
open PySem PySem.Spec
/-- three in a tuple -/
abbrev Is3 (h : Heap) (t : Addr) (a b c : Value) : Prop := h.get? t = some { cls := .type "tuple", data := .seq #[a, b, c] }
/-- the zip's own things are apart -/
structure Ap (z ti to p q r : Addr) : Prop where
  nd : [z, ti, to, p, q, r].Nodup
/-- .. and another one from those that a turn changes -/
structure Off (z to p q r x : Addr) : Prop where
  z : x ≠ z
  t : x ≠ to
  p : x ≠ p
  q : x ≠ q
  r : x ≠ r
/-- what a turn leaves -/
def Left (z to p q r : Addr) (h h' : Heap) : Prop := ∀ c o, Off z to p q r c → h.get? c = some o → h'.get? c = some o
section
variable {prog : Program} {w : World} {A : Around} {E : Value → Shared → Prop} {s : Shared}
theorem up3 {t : Addr} {a b c x : Value} {k : Nat} {Q : Unit → Shared → Prop} (ht : Is3 s.heap t a b c)
    (h : ∀ h', h'.get? t = some { cls := .type "tuple", data := .seq ((#[a, b, c] : Array Value).setIfInBounds k x) } → Heap.SameBut t s.heap h' → Q () { s with heap := h' }) :
    wpAny (model prog w) A (updateSeq t (·.setIfInBounds k x)) Q E s := by
  refine wpAny_updateSeq ht rfl (h _ ?_ (Heap.SameBut.update ..))
  rw [Heap.get?_update_self _ ht rfl]
  simp [Obj.mapSeq]
variable {z ti to p q r l1 l2 l3 : Addr} {k1 k2 k3 : Nat} {xs ys us : Array Value} {x y u a b c : Value}
theorem item {Q : Value → Shared → Prop} (D : Ap z ti to p q r) (o1 : Off z to p q r l1) (o2 : Off z to p q r l2) (o3 : Off z to p q r l3)
    (hz : IsZip s.heap z ti to .none) (hti : Is3 s.heap ti (.ref p) (.ref q) (.ref r)) (hto : Is3 s.heap to a b c)
    (h1 : s.heap.IsListIter p l1 k1) (h2 : s.heap.IsListIter q l2 k2) (h3 : s.heap.IsListIter r l3 k3) (hl1 : s.heap.IsList l1 xs) (hl2 : s.heap.IsList l2 ys) (hl3 : s.heap.IsList l3 us) (hx : xs[k1]? = some x) (hy : ys[k2]? = some y) (hu : us[k3]? = some u)
    (hQ : ∀ h', IsZip h' z ti to (rawInt s.heap.objs.size) → Is3 h' to x y u → h'.IsListIter p l1 (k1 + 1) → h'.IsListIter q l2 (k2 + 1) → h'.IsListIter r l3 (k3 + 1) → Is3 h' s.heap.objs.size x y u → h'.objs.size = s.heap.objs.size + 1 →
      Left z to p q r s.heap h' → Q (.ref s.heap.objs.size) { s with heap := h' }) :
    wpAny (model prog w) A (Builtin.«zip.__next__» ⟨[.ref z], []⟩) (fun fin s' => ∃ v, fin = .done (.ret v) ∧ Q v s') E s := by
  have nd := D.nd
  simp only [List.nodup_cons, List.mem_cons, List.not_mem_nil, or_false, not_or] at nd
  obtain ⟨⟨n1, n2, n3, n4, n5⟩, ⟨n6, n7, n8, n9⟩, ⟨n10, n11, n12⟩, ⟨n13, n14⟩, n15, _⟩ := nd
  show wpAny _ _ (field (.ref z) 2 >>= _) _ _ _
  refine wpAny_bind (wpAny_field hz rfl (x := .bool false) rfl (show wpAny _ _ (field (.ref z) 3 >>= _) _ _ _ from wpAny_bind (wpAny_field hz rfl (x := .ref ti) rfl (wpAny_bind (wpAny_seqItems hti rfl ?_)))))
  show wpAny _ _ (Builtin.SmallTypes.ownedTupleIsFree (.ref z) >>= _) _ _ _
  refine wpAny_bind ?_
  unfold Builtin.SmallTypes.ownedTupleIsFree
  refine wpAny_bind (wpAny_field hz rfl (x := .none) rfl (wpAny_pure ?_))
  simp only [if_true]
  refine wpAny_bind (wpAny_rule (wpAny_bind (wpAny_field hz rfl (x := .ref to) rfl (wpAny_bind (wpAny_setField_rec hz (by simp) fun g1 hz1 b1 => ?_)))))
  replace hz1 : IsZip g1 z ti to .ellipsis := hz1
  refine wpAny_bind ?_
  simp only [List.zipIdx_cons, List.zipIdx_nil, List.forIn_cons, List.forIn_nil]
  -- the first one
  refine wpAny_bind (wpAny_bind (wpAny_onRaise (show wpAny _ _ (Builtin.SmallTypes.nextOf (.ref p) >>= _) _ _ _ from wpAny_bind (wpAny_nextOf_list_item (h1.extBut b1.extBut (Ne.symm n3)) (hl1.extBut b1.extBut o1.z) hx fun g2 i1 b2 => wpAny_pure ?_))))
  have t2 : Is3 g2 to a b c := b2.extBut _ _ n10 (b1.extBut _ _ (Ne.symm n2) hto)
  refine wpAny_bind (wpAny_seqItems t2 rfl (wpAny_bind (up3 t2 fun g3 t3 b3 => wpAny_bind (wpAny_letGo (wpAny_pure ?_)))))
  replace t3 : Is3 g3 to x b c := t3
  -- the second one
  have j2 := ((h2.extBut b1.extBut (Ne.symm n4)).extBut b2.extBut (Ne.symm n13)).extBut b3.extBut (Ne.symm n11)
  have m2 := ((hl2.extBut b1.extBut o2.z).extBut b2.extBut o2.p).extBut b3.extBut o2.t
  refine wpAny_bind (wpAny_bind (wpAny_onRaise (show wpAny _ _ (Builtin.SmallTypes.nextOf (.ref q) >>= _) _ _ _ from wpAny_bind (wpAny_nextOf_list_item j2 m2 hy fun g4 i2 b4 => wpAny_pure ?_))))
  have t4 : Is3 g4 to x b c := b4.extBut _ _ n11 t3
  refine wpAny_bind (wpAny_seqItems t4 rfl (wpAny_bind (up3 t4 fun g5 t5 b5 => wpAny_bind (wpAny_letGo (wpAny_pure ?_)))))
  replace t5 : Is3 g5 to x y c := t5
  -- the third one
  have j3 := ((((h3.extBut b1.extBut (Ne.symm n5)).extBut b2.extBut (Ne.symm n14)).extBut b3.extBut (Ne.symm n12)).extBut b4.extBut (Ne.symm n15)).extBut b5.extBut (Ne.symm n12)
  have m3 := ((((hl3.extBut b1.extBut o3.z).extBut b2.extBut o3.p).extBut b3.extBut o3.t).extBut b4.extBut o3.q).extBut b5.extBut o3.t
  refine wpAny_bind (wpAny_bind (wpAny_onRaise (show wpAny _ _ (Builtin.SmallTypes.nextOf (.ref r) >>= _) _ _ _ from wpAny_bind (wpAny_nextOf_list_item j3 m3 hu fun g6 i3 b6 => wpAny_pure ?_))))
  have t6 : Is3 g6 to x y c := b6.extBut _ _ n12 t5
  refine wpAny_bind (wpAny_seqItems t6 rfl (wpAny_bind (up3 t6 fun g7 t7 b7 => wpAny_bind (wpAny_letGo (wpAny_pure (wpAny_pure ?_))))))
  replace t7 : Is3 g7 to x y u := t7
  refine wpAny_bind (wpAny_seqItems t7 rfl (wpAny_bind (wpAny_newTuple ?_)))
  have sz : g7.objs.size = s.heap.objs.size := by rw [b7.1, b6.1, b5.1, b4.1, b3.1, b2.1, b1.1]
  have left : Left z to p q r s.heap g7 := fun d o f e => b7.extBut _ _ f.t (b6.extBut _ _ f.r (b5.extBut _ _ f.t (b4.extBut _ _ f.q (b3.extBut _ _ f.t (b2.extBut _ _ f.p (b1.extBut _ _ f.z e))))))
  have z7 : IsZip g7 z ti to .ellipsis := b7.extBut _ _ n2 (b6.extBut _ _ n5 (b5.extBut _ _ n2 (b4.extBut _ _ n4 (b3.extBut _ _ n2 (b2.extBut _ _ n3 hz1)))))
  have q1 : g7.IsListIter p l1 (k1 + 1) := ((((i1.extBut b3.extBut (Ne.symm n10)).extBut b4.extBut n13).extBut b5.extBut (Ne.symm n10)).extBut b6.extBut n14).extBut b7.extBut (Ne.symm n10)
  have q2 : g7.IsListIter q l2 (k2 + 1) := ((i2.extBut b5.extBut (Ne.symm n11)).extBut b6.extBut n15).extBut b7.extBut (Ne.symm n11)
  have q3 : g7.IsListIter r l3 (k3 + 1) := i3.extBut b7.extBut (Ne.symm n12)
  have zlt : z < g7.objs.size := Heap.lt_size z7
  show wpAny _ _ (Builtin.SmallTypes.ownedTupleHandOut (.ref z) (.ref g7.objs.size) >>= _) _ _ _
  refine wpAny_bind ?_
  unfold Builtin.SmallTypes.ownedTupleHandOut
  have z8 : IsZip (g7.push { cls := .type "tuple", data := .seq #[x, y, u] }) z ti to .ellipsis := Heap.get?_push_of_some _ z7
  refine wpAny_bind (wpAny_setField_rec z8 (by simp) fun g9 z9 b9 => ?_)
  replace z9 : IsZip g9 z ti to (rawInt g7.objs.size) := z9
  refine wpAny_setField_rec z9 (by simp) fun g10 z10 b10 => ?_
  replace z10 : IsZip g10 z ti to (rawInt g7.objs.size) := z10
  have up : ∀ d o, d ≠ z → g7.get? d = some o → g10.get? d = some o := fun d o ne e => b10.extBut _ _ ne (b9.extBut _ _ ne (Heap.get?_push_of_some _ e))
  have tn : Is3 g10 g7.objs.size x y u := b10.extBut _ _ (Nat.ne_of_gt zlt) (b9.extBut _ _ (Nat.ne_of_gt zlt) (Heap.get?_push_size _ rfl))
  have s10 : g10.objs.size = g7.objs.size + 1 := by rw [b10.1, b9.1, Heap.size_push]
  rw [sz] at z10 tn s10
  refine wpAny_pure ⟨_, rfl, ?_⟩
  show Q (.ref g7.objs.size) _
  rw [sz]
  exact hQ g10 z10 (up _ _ (Ne.symm n2) t7) (q1.at fun o e => up _ o (Ne.symm n3) e) (q2.at fun o e => up _ o (Ne.symm n4) e) (q3.at fun o e => up _ o (Ne.symm n5) e) tn s10 fun d o f e => up d o f.z (left d o f e)
theorem ends {Q : Fin → Shared → Prop} (hh : A.handled = none) (D : Ap z ti to p q r) (o1 : Off z to p q r l1) (o2 : Off z to p q r l2) (o3 : Off z to p q r l3)
    (hz : IsZip s.heap z ti to .none) (hti : Is3 s.heap ti (.ref p) (.ref q) (.ref r)) (hto : Is3 s.heap to a b c)
    (h1 : s.heap.IsListIter p l1 k1) (h2 : s.heap.IsListIter q l2 k2) (h3 : s.heap.IsListIter r l3 k3) (hl1 : s.heap.IsList l1 xs) (hl2 : s.heap.IsList l2 ys) (hl3 : s.heap.IsList l3 us) (he : xs[k1]? = none ∨ ys[k2]? = none ∨ us[k3]? = none)
    (hE : ∀ h' e, Left z to p q r s.heap h' → (∃ o, h'.get? e = some o ∧ o.cls = .type "StopIteration") → E (.ref e) { s with heap := h' }) :
    wpAny (model prog w) A (Builtin.«zip.__next__» ⟨[.ref z], []⟩) Q E s := by
  have nd := D.nd
  simp only [List.nodup_cons, List.mem_cons, List.not_mem_nil, or_false, not_or] at nd
  obtain ⟨⟨n1, n2, n3, n4, n5⟩, ⟨n6, n7, n8, n9⟩, ⟨n10, n11, n12⟩, ⟨n13, n14⟩, n15, _⟩ := nd
  show wpAny _ _ (field (.ref z) 2 >>= _) _ _ _
  refine wpAny_bind (wpAny_field hz rfl (x := .bool false) rfl (show wpAny _ _ (field (.ref z) 3 >>= _) _ _ _ from wpAny_bind (wpAny_field hz rfl (x := .ref ti) rfl (wpAny_bind (wpAny_seqItems hti rfl ?_)))))
  show wpAny _ _ (Builtin.SmallTypes.ownedTupleIsFree (.ref z) >>= _) _ _ _
  refine wpAny_bind ?_
  unfold Builtin.SmallTypes.ownedTupleIsFree
  refine wpAny_bind (wpAny_field hz rfl (x := .none) rfl (wpAny_pure ?_))
  simp only [if_true]
  refine wpAny_bind (wpAny_rule (wpAny_bind (wpAny_field hz rfl (x := .ref to) rfl (wpAny_bind (wpAny_setField_rec hz (by simp) fun g1 hz1 b1 => ?_)))))
  replace hz1 : IsZip g1 z ti to .ellipsis := hz1
  refine wpAny_bind ?_
  simp only [List.zipIdx_cons, List.zipIdx_nil, List.forIn_cons, List.forIn_nil]
  refine wpAny_bind (wpAny_bind (wpAny_onRaise (show wpAny _ _ (Builtin.SmallTypes.nextOf (.ref p) >>= _) _ _ _ from ?_)))
  have stop : ∀ {g : Heap} {e : Addr} {o : Obj}, IsZip g z ti to .ellipsis → g.get? e = some o → o.cls = .type "StopIteration" → e ≠ z := fun hz ho hc x => by
    subst x
    rw [hz] at ho
    cases ho
    simp at hc
  have j1 := h1.extBut b1.extBut (Ne.symm n3)
  have m1 := hl1.extBut b1.extBut o1.z
  cases hx : xs[k1]? with
  | none =>
    refine wpAny_bind (wpAny_nextOf_list_end hh j1 m1 hx fun g2 e b2 ee => ?_)
    obtain ⟨oe, ho, hc⟩ := ee
    have z2 : IsZip g2 z ti to .ellipsis := b2 _ _ n3 hz1
    exact wpAny_setField_rec z2 (by simp) fun g3 _ b3 => hE g3 e (fun d o f x => b3.extBut _ _ f.z (b2 _ _ f.p (b1.extBut _ _ f.z x))) ⟨oe, b3.extBut _ _ (stop z2 ho hc) ho, hc⟩
  | some x =>
    refine wpAny_bind (wpAny_nextOf_list_item j1 m1 hx fun g2 i1 b2 => wpAny_pure ?_)
    have t2 : Is3 g2 to a b c := b2.extBut _ _ n10 (b1.extBut _ _ (Ne.symm n2) hto)
    refine wpAny_bind (wpAny_seqItems t2 rfl (wpAny_bind (up3 t2 fun g3 t3 b3 => wpAny_bind (wpAny_letGo (wpAny_pure ?_)))))
    replace t3 : Is3 g3 to x b c := t3
    have z3 : IsZip g3 z ti to .ellipsis := b3.extBut _ _ n2 (b2.extBut _ _ n3 hz1)
    have lf3 : Left z to p q r s.heap g3 := fun d o f e => b3.extBut _ _ f.t (b2.extBut _ _ f.p (b1.extBut _ _ f.z e))
    have j2 := ((h2.extBut b1.extBut (Ne.symm n4)).extBut b2.extBut (Ne.symm n13)).extBut b3.extBut (Ne.symm n11)
    have m2 := ((hl2.extBut b1.extBut o2.z).extBut b2.extBut o2.p).extBut b3.extBut o2.t
    refine wpAny_bind (wpAny_bind (wpAny_onRaise (show wpAny _ _ (Builtin.SmallTypes.nextOf (.ref q) >>= _) _ _ _ from ?_)))
    cases hy : ys[k2]? with
    | none =>
      refine wpAny_bind (wpAny_nextOf_list_end hh j2 m2 hy fun g4 e b4 ee => ?_)
      obtain ⟨oe, ho, hc⟩ := ee
      have z4 : IsZip g4 z ti to .ellipsis := b4 _ _ n4 z3
      exact wpAny_setField_rec z4 (by simp) fun g5 _ b5 => hE g5 e (fun d o f x => b5.extBut _ _ f.z (b4 _ _ f.q (lf3 d o f x))) ⟨oe, b5.extBut _ _ (stop z4 ho hc) ho, hc⟩
    | some y =>
      have hu : us[k3]? = none := by
        rcases he with h | h | h
        · rw [hx] at h; cases h
        · rw [hy] at h; cases h
        · exact h
      refine wpAny_bind (wpAny_nextOf_list_item j2 m2 hy fun g4 i2 b4 => wpAny_pure ?_)
      have t4 : Is3 g4 to x b c := b4.extBut _ _ n11 t3
      refine wpAny_bind (wpAny_seqItems t4 rfl (wpAny_bind (up3 t4 fun g5 t5 b5 => wpAny_bind (wpAny_letGo (wpAny_pure ?_)))))
      have z5 : IsZip g5 z ti to .ellipsis := b5.extBut _ _ n2 (b4.extBut _ _ n4 z3)
      have j3 := ((((h3.extBut b1.extBut (Ne.symm n5)).extBut b2.extBut (Ne.symm n14)).extBut b3.extBut (Ne.symm n12)).extBut b4.extBut (Ne.symm n15)).extBut b5.extBut (Ne.symm n12)
      have m3 := ((((hl3.extBut b1.extBut o3.z).extBut b2.extBut o3.p).extBut b3.extBut o3.t).extBut b4.extBut o3.q).extBut b5.extBut o3.t
      refine wpAny_bind (wpAny_bind (wpAny_onRaise (show wpAny _ _ (Builtin.SmallTypes.nextOf (.ref r) >>= _) _ _ _ from ?_)))
      refine wpAny_bind (wpAny_nextOf_list_end hh j3 m3 hu fun g6 e b6 ee => ?_)
      obtain ⟨oe, ho, hc⟩ := ee
      have z6 : IsZip g6 z ti to .ellipsis := b6 _ _ n5 z5
      exact wpAny_setField_rec z6 (by simp) fun g7 _ b7 => hE g7 e (fun d o f x => b7.extBut _ _ f.z (b6 _ _ f.r (b5.extBut _ _ f.t (b4.extBut _ _ f.q (lf3 d o f x))))) ⟨oe, b7.extBut _ _ (stop z6 ho hc) ho, hc⟩
theorem next_item {Q : Option Value → Shared → Prop} (D : Ap z ti to p q r) (o1 : Off z to p q r l1) (o2 : Off z to p q r l2) (o3 : Off z to p q r l3)
    (hz : IsZip s.heap z ti to .none) (hti : Is3 s.heap ti (.ref p) (.ref q) (.ref r)) (hto : Is3 s.heap to a b c)
    (h1 : s.heap.IsListIter p l1 k1) (h2 : s.heap.IsListIter q l2 k2) (h3 : s.heap.IsListIter r l3 k3) (hl1 : s.heap.IsList l1 xs) (hl2 : s.heap.IsList l2 ys) (hl3 : s.heap.IsList l3 us) (hx : xs[k1]? = some x) (hy : ys[k2]? = some y) (hu : us[k3]? = some u)
    (hQ : ∀ h', IsZip h' z ti to (rawInt s.heap.objs.size) → Is3 h' to x y u → h'.IsListIter p l1 (k1 + 1) → h'.IsListIter q l2 (k2 + 1) → h'.IsListIter r l3 (k3 + 1) → Is3 h' s.heap.objs.size x y u → h'.objs.size = s.heap.objs.size + 1 →
      Left z to p q r s.heap h' → Q (some (.ref s.heap.objs.size)) { s with heap := h' }) : wpAny (model prog w) A (pyNext (.ref z)) Q E s := by
  have ty : s.TypeIs (.ref z) "zip" := ⟨_, hz, rfl⟩
  unfold pyNext
  refine wpAny_bind (wpAny_attempt (wpAny_callSpecial?_slot (name := Str.ofString "__next__") ty F.slot_zip_next (wpAny_call_entry F.slot_zip_next ty F.entry_zip_next ?_ (F.args_zip_next_1 _))))
  exact item D o1 o2 o3 hz hti hto h1 h2 h3 hl1 hl2 hl3 hx hy hu fun h' a1 a2 a3 a4 a5 a6 a7 a8 => wpAny_pure (hQ h' a1 a2 a3 a4 a5 a6 a7 a8)
theorem next_end {Q : Option Value → Shared → Prop} (hh : A.handled = none) (D : Ap z ti to p q r) (o1 : Off z to p q r l1) (o2 : Off z to p q r l2) (o3 : Off z to p q r l3)
    (hz : IsZip s.heap z ti to .none) (hti : Is3 s.heap ti (.ref p) (.ref q) (.ref r)) (hto : Is3 s.heap to a b c)
    (h1 : s.heap.IsListIter p l1 k1) (h2 : s.heap.IsListIter q l2 k2) (h3 : s.heap.IsListIter r l3 k3) (hl1 : s.heap.IsList l1 xs) (hl2 : s.heap.IsList l2 ys) (hl3 : s.heap.IsList l3 us) (he : xs[k1]? = none ∨ ys[k2]? = none ∨ us[k3]? = none)
    (hQ : ∀ h', Left z to p q r s.heap h' → Q none { s with heap := h' }) : wpAny (model prog w) A (pyNext (.ref z)) Q E s := by
  have ty : s.TypeIs (.ref z) "zip" := ⟨_, hz, rfl⟩
  unfold pyNext
  refine wpAny_bind (wpAny_attempt (wpAny_callSpecial?_slot (name := Str.ofString "__next__") ty F.slot_zip_next (wpAny_call_entry F.slot_zip_next ty F.entry_zip_next (ends hh D o1 o2 o3 hz hti hto h1 h2 h3 hl1 hl2 hl3 he fun h' e hk ee => ?_) (F.args_zip_next_1 _))))
  obtain ⟨o, ho, hc⟩ := ee
  exact wpAny_bind (wpAny_isInstance (T := "StopIteration") (b := true) ⟨o, ho, hc⟩ isSubtype_stop (wpAny_pure (hQ _ hk)))
end
theorem tcall (a b c : Value) : checkTypeCall "zip" ⟨[a, b, c], []⟩ = pure () := by kernel_rfl
theorem ncall (a b c : Value) : checkBuiltinCall "zip.__new__" ⟨[.type "zip", a, b, c], []⟩ = pure () := by kernel_rfl
theorem init4 (a b c d : Value) : argsOk "object.__init__" ⟨[a, b, c, d], []⟩ := by
  unfold argsOk
  rw [signature?_of (id := "object.__init__") (n := ['_', '_', 't', 'i', 'n', 'i', '_', '_']) (o := ['t', 'c', 'e', 'j', 'b', 'o']) (by kernel_rfl) F.owner_object]
  kernel_rfl
abbrev li (l : Addr) : Obj := { cls := .type "list_iterator", data := .fields #[.ref l, .int 0 0] }
abbrev g1 (h : Heap) (a : Addr) : Heap := h.push (li a)
abbrev g2 (h : Heap) (a b : Addr) : Heap := (g1 h a).push (li b)
abbrev g3 (h : Heap) (a b c : Addr) : Heap := (g2 h a b).push (li c)
abbrev g4 (h : Heap) (a b c : Addr) : Heap := (g3 h a b c).push { cls := .type "tuple", data := .seq #[.ref h.objs.size, .ref (g1 h a).objs.size, .ref (g2 h a b).objs.size] }
abbrev g5 (h : Heap) (a b c : Addr) : Heap := (g4 h a b c).push { cls := .type "tuple", data := .seq #[.none, .none, .none] }
abbrev g6 (h : Heap) (a b c : Addr) : Heap := (g5 h a b c).push { cls := .type "zip", data := .fields #[.none, .bool false, .bool false, .ref (g3 h a b c).objs.size, .ref (g4 h a b c).objs.size] }
theorem made (a b c : Addr) (xs ys us : Array Value) :
    Meets (Builtin.«zip.__new__» ⟨[.type "zip", .ref a, .ref b, .ref c], []⟩) (fun _ R s => s.heap.IsList a xs ∧ s.heap.IsList b ys ∧ s.heap.IsList c us ∧
      R (.ok (.ret (.ref (g5 s.heap a b c).objs.size))) { s with heap := g6 s.heap a b c }) :=
  .of_wp fun prog w A R s h => by
    obtain ⟨hp, g, d, tk, os⟩ := s
    obtain ⟨ha, hb, hc, h⟩ := h
    have hsub := sub_zip
    have La : Heap.IsList (Shared.heap ⟨hp, g, d, tk, os⟩) a xs := ha
    have Lb : Heap.IsList (Shared.heap ⟨g1 hp a, g, d, tk, os⟩) b ys := Heap.IsList.push hb _
    have Lc : Heap.IsList (Shared.heap ⟨g2 hp a b, g, d, tk, os⟩) c us := Heap.IsList.push (Heap.IsList.push hc _) _
    wp_walk using wpAny_pyIter_list La, wpAny_pyIter_list Lb, wpAny_pyIter_list Lc
    exact ⟨_, rfl, h⟩
section
variable {prog : Program} {w : World} {A : Around} {E : Value → Shared → Prop} {s : Shared}
theorem called {a b c : Addr} {xs ys us : Array Value} {Q : Value → Shared → Prop} (ha : s.heap.IsList a xs) (hb : s.heap.IsList b ys) (hc : s.heap.IsList c us)
    (h : ∀ h', IsZip h' (s.heap.objs.size + 5) (s.heap.objs.size + 3) (s.heap.objs.size + 4) .none → Is3 h' (s.heap.objs.size + 3) (.ref s.heap.objs.size) (.ref (s.heap.objs.size + 1)) (.ref (s.heap.objs.size + 2)) →
      Is3 h' (s.heap.objs.size + 4) .none .none .none → h'.IsListIter s.heap.objs.size a 0 → h'.IsListIter (s.heap.objs.size + 1) b 0 → h'.IsListIter (s.heap.objs.size + 2) c 0 → h'.objs.size = s.heap.objs.size + 6 →
      (∀ d o, s.heap.get? d = some o → h'.get? d = some o) → Q (.ref (s.heap.objs.size + 5)) { s with heap := h' }) :
    wpAny (model prog w) A (call (.type "zip") [.ref a, .ref b, .ref c]) Q E s := by
  refine callType_new F.called_zip (by decide) (tcall _ _ _) (ncall _ _ _) (fun obj => init4 obj _ _ _) F.entry_zip_new (made a b c xs ys us) ⟨ha, hb, hc, ?_⟩
  have z1 : (g1 s.heap a).objs.size = s.heap.objs.size + 1 := Heap.size_push ..
  have z2 : (g2 s.heap a b).objs.size = s.heap.objs.size + 2 := by rw [Heap.size_push, z1]
  have z3 : (g3 s.heap a b c).objs.size = s.heap.objs.size + 3 := by rw [Heap.size_push, z2]
  have z4 : (g4 s.heap a b c).objs.size = s.heap.objs.size + 4 := by rw [Heap.size_push, z3]
  have z5 : (g5 s.heap a b c).objs.size = s.heap.objs.size + 5 := by rw [Heap.size_push, z4]
  have z6 : (g6 s.heap a b c).objs.size = s.heap.objs.size + 6 := by rw [Heap.size_push, z5]
  have e6 : (g6 s.heap a b c).get? (g5 s.heap a b c).objs.size = some _ := Heap.get?_push_size _ rfl
  have e5 : (g6 s.heap a b c).get? (g4 s.heap a b c).objs.size = some _ := Heap.get?_push_of_some _ (Heap.get?_push_size _ rfl)
  have e4 : (g6 s.heap a b c).get? (g3 s.heap a b c).objs.size = some _ := Heap.get?_push_of_some _ (Heap.get?_push_of_some _ (Heap.get?_push_size _ rfl))
  have e3 : (g6 s.heap a b c).get? (g2 s.heap a b).objs.size = some _ := Heap.get?_push_of_some _ (Heap.get?_push_of_some _ (Heap.get?_push_of_some _ (Heap.get?_push_size _ rfl)))
  have e2 : (g6 s.heap a b c).get? (g1 s.heap a).objs.size = some _ := Heap.get?_push_of_some _ (Heap.get?_push_of_some _ (Heap.get?_push_of_some _ (Heap.get?_push_of_some _ (Heap.get?_push_size _ rfl))))
  have e1 : (g6 s.heap a b c).get? s.heap.objs.size = some _ := Heap.get?_push_of_some _ (Heap.get?_push_of_some _ (Heap.get?_push_of_some _ (Heap.get?_push_of_some _ (Heap.get?_push_of_some _ (Heap.get?_push_size _ rfl)))))
  show _ ∧ _
  rw [z3, z4, z5] at e6
  rw [z4] at e5
  rw [z1, z2, z3] at e4
  rw [z2] at e3
  rw [z1] at e2
  rw [z5]
  exact ⟨⟨_, e6, rfl⟩, h _ e6 e4 e5 ⟨_, e1, rfl, rfl⟩ ⟨_, e2, rfl, rfl⟩ ⟨_, e3, rfl, rfl⟩ z6 fun d o x => Heap.get?_push_of_some _ (Heap.get?_push_of_some _ (Heap.get?_push_of_some _ (Heap.get?_push_of_some _ (Heap.get?_push_of_some _ (Heap.get?_push_of_some _ x)))))⟩
end
end Z3

set_option maxHeartbeats 4000000
namespace Z3
open PySem PySem.Spec PyProof.Rows L2
/-- the lists at a, b, c as they stand at each turn -/
def It3 (K : PySem.W.Frag) (a b c : Addr) : It :=
  ⟨fun i H => ∃ (xs ys us : List V) (x y u : V), (SqL K H a xs ∧ SqL K H b ys ∧ SqL K H c us) ∧ xs[i]? = some x ∧ ys[i]? = some y ∧ us[i]? = some u,
    fun i H v H' => ∃ t x y u, v = .ref t ∧ H t = none ∧ H' = upd H t (.tup [x, y, u]) ∧ (∀ xs, SqL K H a xs → xs[i]? = some x) ∧ (∀ ys, SqL K H b ys → ys[i]? = some y) ∧ ∀ us, SqL K H c us → us[i]? = some u,
    fun i H => ∃ xs ys us : List V, (SqL K H a xs ∧ SqL K H b ys ∧ SqL K H c us) ∧ (xs.length ≤ i ∨ ys.length ≤ i ∨ us.length ≤ i)⟩
theorem turn {P : Program} {w : World} {K : PySem.W.Frag} {elts : List Expr} {kk : Nat} {tpos : Pos} {a b c z ti to p q r : Addr} (D : Ap z ti to p q r) (o1 : Off z to p q r a) (o2 : Off z to p q r b) (o3 : Off z to p q r c) :
    Turn P w K (.Tuple elts kk tpos) (It3 K a b c) [z, ti, to, p, q, r] z (fun i h => IsZip h z ti to .none ∧ Is3 h ti (.ref p) (.ref q) (.ref r) ∧ (∃ x y u, Is3 h to x y u) ∧ h.IsListIter p a i ∧ h.IsListIter q b i ∧ h.IsListIter r c i) where
  mem := by simp
  obj := fun i h st d hd => by
    obtain ⟨hz, hti, ⟨x, y, u, hto⟩, ⟨e1, f1, _, d1⟩, ⟨e2, f2, _, d2⟩, ⟨e3, f3, _, d3⟩⟩ := st
    simp only [List.mem_cons, List.not_mem_nil, or_false] at hd
    rcases hd with rfl | rfl | rfl | rfl | rfl | rfl
    · exact ⟨_, hz, fun v q => nomatch q⟩
    · exact ⟨_, hti, fun v q => nomatch q⟩
    · exact ⟨_, hto, fun v q => nomatch q⟩
    · exact ⟨e1, f1, fun v q => by rw [d1] at q; cases q⟩
    · exact ⟨e2, f2, fun v q => by rw [d2] at q; cases q⟩
    · exact ⟨e3, f3, fun v q => by rw [d3] at q; cases q⟩
  keep := fun i h h' st k => by
    obtain ⟨hz, hti, ⟨x, y, u, hto⟩, h1, h2, h3⟩ := st
    exact ⟨k z (by simp) _ hz, k ti (by simp) _ hti, ⟨x, y, u, k to (by simp) _ hto⟩, h1.at fun o q => k p (by simp) o q, h2.at fun o e => k q (by simp) o e, h3.at fun o e => k r (by simp) o e⟩
  item := by
    intro X hP hw hK hc i pins s σ H E I hf st hg
    subst hP hw hK
    have nd := D.nd
    simp only [List.nodup_cons, List.mem_cons, List.not_mem_nil, or_false, not_or] at nd
    obtain ⟨⟨n1, n2, n3, n4, n5⟩, ⟨n6, n7, n8, n9⟩, ⟨n10, n11, n12⟩, ⟨n13, n14⟩, n15, _⟩ := nd
    obtain ⟨hz, hti, ⟨x0, y0, u0, hto⟩, h1, h2, h3⟩ := st
    obtain ⟨xs, ys, us, x, y, u, ⟨qx, qy, qu⟩, hx, hy, hu⟩ := hg
    obtain ⟨its, rv, p1, _⟩ := I.list qx
    obtain ⟨its2, rv2, p2, _⟩ := I.list qy
    obtain ⟨its3, rv3, p3, _⟩ := I.list qu
    obtain ⟨v1, hv1, r1⟩ := rv.get hx
    obtain ⟨v2, hv2, r2⟩ := rv2.get hy
    obtain ⟨v3, hv3, r3⟩ := rv3.get hu
    have zlt : z < s.heap.objs.size := Heap.lt_size hz
    refine next_item D o1 o2 o3 hz hti hto h1 h2 h3 p1.isList p2.isList p3.isList (x := v1) (y := v2) (u := v3) (by simpa using hv1) (by simpa using hv2) (by simpa using hv3) fun h' z' t' i1 i2 i3 tn hsz hk => ?_
    refine ⟨_, rfl, wpAny_letOwnedTupleGo_zip (s := { s with heap := h' }) z' fun h'' z'' sb => ?_⟩
    have tn2 : h''.get? s.heap.objs.size = some { cls := .type "tuple", data := .seq #[v1, v2, v3] } := (sb.2 _ (Nat.ne_of_gt zlt)).trans tn
    have new : ObjOk X.prog X.w (upd H s.heap.objs.size (.tup [x, y, u])) h'' s.heap.objs.size (.tup [x, y, u]) :=
      ⟨by show 3 ≤ sizeLine; decide, [v1, v2, v3], .cons r1 (.cons r2 (.cons r3 .nil)), ⟨_, tn2, rfl, _, rfl⟩⟩
    have lft : ∀ d o, ¬ d ∈ [z, ti, to, p, q, r] → s.heap.get? d = some o → h''.get? d = some o := fun d o hb e => by
      simp only [List.mem_cons, List.not_mem_nil, or_false, not_or] at hb
      exact (sb.2 d hb.1).trans (hk d o ⟨hb.1, hb.2.2.1, hb.2.2.2.1, hb.2.2.2.2.1, hb.2.2.2.2.2⟩ e)
    have J := I.turnedNew (t' := s.toks) (ch := [z, ti, to, p, q, r]) lft hf (Nat.le_refl _) new
    refine ⟨.ref s.heap.objs.size, _, J, rfl, ⟨_, x, y, u, rfl, I.hok.fresh (Nat.le_refl _), rfl, fun l hl => by rw [I.list_inj hl qx]; exact hx, fun l hl => by rw [I.list_inj hl qy]; exact hy, fun l hl => by rw [I.list_inj hl qu]; exact hu⟩, ⟨z'', ?_, ⟨v1, v2, v3, ?_⟩, ?_, ?_, ?_⟩, fun d hd => ?_⟩
    · exact (sb.2 _ (Ne.symm n1)).trans (hk _ _ ⟨Ne.symm n1, n6, n7, n8, n9⟩ hti)
    · exact (sb.2 _ (Ne.symm n2)).trans t'
    · exact i1.at fun o e => (sb.2 _ (Ne.symm n3)).trans e
    · exact i2.at fun o e => (sb.2 _ (Ne.symm n4)).trans e
    · exact i3.at fun o e => (sb.2 _ (Ne.symm n5)).trans e
    · have dlt : d < s.heap.objs.size := by
        have hd' := hd
        simp only [List.mem_cons, List.not_mem_nil, or_false] at hd'
        rcases hd' with e | e | e | e | e | e <;> rw [e]
        · exact zlt
        · exact Heap.lt_size hti
        · exact Heap.lt_size hto
        · obtain ⟨_, e1, _⟩ := h1; exact Heap.lt_size e1
        · obtain ⟨_, e1, _⟩ := h2; exact Heap.lt_size e1
        · obtain ⟨_, e1, _⟩ := h3; exact Heap.lt_size e1
      rw [upd_ne (Nat.ne_of_lt dlt)]
      exact (hf d hd).1
  done := by
    intro X hP hw hK hc i pins s σ H E I hf st hg
    subst hP hw hK
    obtain ⟨hz, hti, ⟨x0, y0, u0, hto⟩, h1, h2, h3⟩ := st
    obtain ⟨xs, ys, us, ⟨qx, qy, qu⟩, hend⟩ := hg
    obtain ⟨its, rv, p1, _⟩ := I.list qx
    obtain ⟨its2, rv2, p2, _⟩ := I.list qy
    obtain ⟨its3, rv3, p3, _⟩ := I.list qu
    have e1 := rv.length
    have e2 := rv2.length
    have e3 := rv3.length
    have he : its.toArray[i]? = none ∨ its2.toArray[i]? = none ∨ its3.toArray[i]? = none := by
      rcases hend with e | e | e
      · exact .inl (by simp; omega)
      · exact .inr (.inl (by simp; omega))
      · exact .inr (.inr (by simp; omega))
    refine next_end (I.ok.hd hc) D o1 o2 o3 hz hti hto h1 h2 h3 p1.isList p2.isList p3.isList he fun h' hk => ⟨rfl, I.turnedL (t' := s.toks) (ch := [z, ti, to, p, q, r]) (fun d o hb e => ?_) hf⟩
    simp only [List.mem_cons, List.not_mem_nil, or_false, not_or] at hb
    exact hk d o ⟨hb.1, hb.2.2.1, hb.2.2.2.1, hb.2.2.2.2.1, hb.2.2.2.2.2⟩ e
  self := fun A i s Q E st h => wpAny_pyIter_zip st.1 h
def i3 (K : PySem.W.Frag) (ta : TA) : TI := fun σ H R => ta σ H fun vs H1 => ∃ a b c xs ys us, vs = [.ref a, .ref b, .ref c] ∧ (SqL K H1 a xs ∧ SqL K H1 b ys ∧ SqL K H1 c us) ∧ R (It3 K a b c) H1
theorem pi_zip3 {X : Cx} {e e2 e3 : Expr} {ta : TA} {p pos tpos : Pos} {elts : List Expr} {kk : Nat} (hg : Gl X "zip") (hm : X.mg "zip" = none) (ha : PA X [e, e2, e3] ta)
    (hs : starEach [e, e2, e3] X.env = (false, eval e X.env) :: starEach [e2, e3] X.env := by rfl) (hpl : (backTo pos (starEach [e2, e3] X.env)).any (·.1) = false := by rfl) :
    PI X (.Tuple elts kk tpos) (.Call (.Name "zip" p) [e, e2, e3] [] pos) (i3 X.K ta) := by
  refine ⟨fun pins s σ H R I h => ?_⟩
  refine Call_ (ld_blt I hg hm PyProof.Rows.boot_zip (PyProof.Rows.callWith_type1 (thn (ha.run pos pins s σ H _ I h) fun us s1 ⟨vs, H1, I1, r1, q1⟩ => ?_) hs hpl))
  obtain ⟨a, b, c, xs, ys, zs, ex, ⟨qx, qy, qz⟩, qq⟩ := q1
  subst ex
  obtain ⟨u1, u2, u3, rfl, ra, rb, rc⟩ : ∃ u1 u2 u3, us = [u1, u2, u3] ∧ RelV (.ref a) u1 ∧ RelV (.ref b) u2 ∧ RelV (.ref c) u3 := by
    cases r1 with
    | cons x1 k1 => cases k1 with
      | cons x2 k2 => cases k2 with
        | cons x3 k3 => cases k3; exact ⟨_, _, _, rfl, x1, x2, x3⟩
  cases ra
  cases rb
  cases rc
  obtain ⟨its, rv, p1, _⟩ := I1.list qx
  obtain ⟨its2, rv2, p2, _⟩ := I1.list qy
  obtain ⟨its3, rv3, p3, _⟩ := I1.list qz
  have la : a < s1.heap.objs.size := p1.lt
  have lb : b < s1.heap.objs.size := p2.lt
  have lc : c < s1.heap.objs.size := p3.lt
  have off : ∀ d, d < s1.heap.objs.size → Off (s1.heap.objs.size + 5) (s1.heap.objs.size + 4) s1.heap.objs.size (s1.heap.objs.size + 1) (s1.heap.objs.size + 2) d := fun d hd => ⟨Nat.ne_of_lt (Nat.lt_of_lt_of_le hd (Nat.le_add_right _ _)), Nat.ne_of_lt (Nat.lt_of_lt_of_le hd (Nat.le_add_right _ _)), Nat.ne_of_lt hd, Nat.ne_of_lt (Nat.lt_of_lt_of_le hd (Nat.le_add_right _ _)), Nat.ne_of_lt (Nat.lt_of_lt_of_le hd (Nat.le_add_right _ _))⟩
  refine called p1.isList p2.isList p3.isList fun h' hz hti hto h1 h2 h3 hsz hk => wpAny_pyIter_zip hz ?_
  have I2 : Inv X pins σ H1 { s1 with heap := h' } := I1.kept (t' := s1.toks) hk
  have ap : Ap (s1.heap.objs.size + 5) (s1.heap.objs.size + 3) (s1.heap.objs.size + 4) s1.heap.objs.size (s1.heap.objs.size + 1) (s1.heap.objs.size + 2) := ⟨by
    simp [Addr]⟩
  refine ⟨s1.heap.objs.size + 5, [s1.heap.objs.size + 5, s1.heap.objs.size + 3, s1.heap.objs.size + 4, s1.heap.objs.size, s1.heap.objs.size + 1, s1.heap.objs.size + 2], _, _, H1, rfl, I2, turn ap (off a la) (off b lb) (off c lc), ⟨hz, hti, ⟨_, _, _, hto⟩, h1, h2, h3⟩, fun d hd => ?_, qq⟩
  have hle : s1.heap.objs.size ≤ d := by
    simp only [List.mem_cons, List.not_mem_nil, or_false] at hd
    rcases hd with e | e | e | e | e | e <;> rw [e]
    all_goals first | exact Nat.le_refl _ | exact Nat.le_add_right _ _
  exact I1.fpOk hle (I1.hok.fresh hle)
end Z3

namespace Dl
open PySem PySem.Spec PyProof.Rows L2 Gd
variable {K : PySem.W.Frag} {E : XK}
/-- zip of three lists -/
def zip3 : List T → List T → List T → List T
  | a :: l, b :: m, c :: n => .tup [a, b, c] :: zip3 l m n
  | _, _, _ => []
theorem zip3_at : ∀ {l m n : List T} {i : Nat} {a b c : T}, l[i]? = some a → m[i]? = some b → n[i]? = some c → (zip3 l m n)[i]? = some (.tup [a, b, c])
  | x :: l, y :: m, z :: n, 0, a, b, c, e1, e2, e3 => by
    cases e1
    cases e2
    cases e3
    rfl
  | x :: l, y :: m, z :: n, i + 1, a, b, c, e1, e2, e3 => zip3_at (l := l) (m := m) (n := n) (i := i) e1 e2 e3
theorem zip3_len : ∀ l m n : List T, (zip3 l m n).length = min l.length (min m.length n.length)
  | x :: l, y :: m, z :: n => by
    show (zip3 l m n).length + 1 = _
    rw [zip3_len l m n]
    simp only [List.length_cons]
    omega
  | [], m, n => by simp [zip3]
  | x :: l, [], n => by simp [zip3]
  | x :: l, y :: m, [] => by simp [zip3]
def rIzip3 (r : DA) : DL := fun ρ xw μ Φ => r ρ xw μ fun ts μ' => match ts with
  | [.lst l, .lst m, .lst n] => Φ (zip3 l m n) μ'
  | _ => False
theorem three_dv {W : Wd} {vs : List V} {t u s : T} (d : DvAll K W vs [t, u, s]) : ∃ v w x, vs = [v, w, x] ∧ Dv K W v t ∧ Dv K W w u ∧ Dv K W x s := by
  cases d with
  | cons a b => cases b with
    | cons c d => cases d with
      | cons e f => cases f; exact ⟨_, _, _, rfl, a, c, e⟩
instance sim_izip3 {t : TA} {r} [a : SimA K E t r] : SimI K E (Z3.i3 K t) (rIzip3 r) := ⟨fun o s n h q => a.run o s n h fun {vs τs W1 H1 μ1} l1 o1 d1 h1 => by
  split at h1
  · rename_i l m k
    obtain ⟨v, w, x, rfl, dv, dw, dx⟩ := three_dv d1
    cases (show Dn K W1.B v (.lst l) from dv) with
    | @lst p xs _ e da =>
      cases (show Dn K W1.B w (.lst m) from dw) with
      | @lst p2 ys _ e2 da2 =>
        cases (show Dn K W1.B x (.lst k) from dx) with
        | @lst p3 us _ e3 da3 =>
          refine ⟨p, p2, p3, xs, ys, us, rfl, ⟨SqL.of (o1.sb _ _ e), SqL.of (o1.sb _ _ e2), SqL.of (o1.sb _ _ e3)⟩, q l1 o1 (fun {W' H' μ'} l' o' i => ?_) h1⟩
          have f1 : H' p = some (.lst xs) := o'.sb _ _ (l'.b _ _ e)
          have f2 : H' p2 = some (.lst ys) := o'.sb _ _ (l'.b _ _ e2)
          have f3 : H' p3 = some (.lst us) := o'.sb _ _ (l'.b _ _ e3)
          rw [zip3_len]
          refine ⟨fun lt => ?_, fun le => ⟨xs, ys, us, ⟨SqL.of f1, SqL.of f2, SqL.of f3⟩, by rw [da.length, da2.length, da3.length]; omega⟩⟩
          have lt1 : i < l.length := by omega
          have lt2 : i < m.length := by omega
          have lt3 : i < k.length := by omega
          obtain ⟨v, ev, dv⟩ := da.get (List.getElem?_eq_getElem lt1)
          obtain ⟨w, ew, dw⟩ := da2.get (List.getElem?_eq_getElem lt2)
          obtain ⟨x, ex, dx⟩ := da3.get (List.getElem?_eq_getElem lt3)
          refine ⟨⟨xs, ys, us, v, w, x, ⟨SqL.of f1, SqL.of f2, SqL.of f3⟩, ev, ew, ex⟩, fun y H'' yl => ?_⟩
          obtain ⟨p9, z, z2, z3, rfl, f, rfl, k1, k2, k3⟩ := yl
          have g1 := k1 xs (SqL.of f1)
          have g2 := k2 ys (SqL.of f2)
          have g3 := k3 us (SqL.of f3)
          rw [ev] at g1
          rw [ew] at g2
          rw [ex] at g3
          cases g1
          cases g2
          cases g3
          refine ⟨{ W' with B := upd W'.B p9 (.tup [v, w, x]) }, .tup [l[i], m[i], k[i]], Grow.new o'.sb _ f, ?_, ?_⟩
          · exact zip3_at (List.getElem?_eq_getElem lt1) (List.getElem?_eq_getElem lt2) (List.getElem?_eq_getElem lt3)
          have sm := l'.b.trans (same_new (o := .tup [v, w, x]) (o'.sb.free f))
          exact .tup (SqT.of upd_same) (.cons (dv.mono sm) (.cons (dw.mono sm) (.cons (dx.mono sm) .nil)))
  · exact h1.elim⟩
theorem piZ3K {X : Cx} (h : X.K = K) {e e2 e3 : Expr} {ta : TA} {p pos tpos : Pos} {elts : List Expr} {kk : Nat} (hg : Gl X "zip") (hm : X.mg "zip" = none) (ha : PA X [e, e2, e3] ta)
    (hs : starEach [e, e2, e3] X.env = (false, eval e X.env) :: starEach [e2, e3] X.env := by rfl) (hpl : (backTo pos (starEach [e2, e3] X.env)).any (·.1) = false := by rfl) :
    PI X (.Tuple elts kk tpos) (.Call (.Name "zip" p) [e, e2, e3] [] pos) (Z3.i3 K ta) := by
  subst h
  exact Z3.pi_zip3 hg hm ha hs hpl
end Dl

set_option maxRecDepth 100000
set_option maxHeartbeats 4000000
namespace Gd
open PySem PySem.Spec PyProof.Rows L2
section
variable {prog : Program} {w : World} {A : Around} {E : Value → Shared → Prop} {s : Shared} {l : Addr} {its : List Value} {ns : List Int} {Q : Value → Shared → Prop}
/-- min(xs, default = d) of whole numbers -/
theorem min_rawD {d : Value} (hh : A.handled = none) (hl : s.heap.IsList l its.toArray) (hi : IntsAre its ns)
    (h0 : ns = [] → ∀ h' tk, (∀ b o, s.heap.get? b = some o → h'.get? b = some o) → Q d { s with heap := h', toks := tk })
    (h : ∀ h' tk M t', (∀ b o, s.heap.get? b = some o → h'.get? b = some o) → M ∈ ns → (∀ a, a ∈ ns → M ≤ a) → Q (.int M t') { s with heap := h', toks := tk }) :
    wpAny (model prog w) A (call (.builtin "min") [.ref l] [(Str.ofString "default", d)]) Q E s := by
  obtain ⟨xs, e⟩ := hi.allInts.items
  have hn : numsOf (intItems xs).toList = ns := by rw [← e]; exact hi.numsOf
  rw [nums_intItems] at hn
  subst hn
  rw [e] at hl
  have zz : (intItems xs).size = xs.size := by simp [intItems]
  refine call_min_walkD (PySem.W.iter_listW (A := A.in1) hh hl fun s₂ e W st hfp hw hk => ?_)
  refine ⟨_, _, _, _, _, _, _, s.heap, _, rfl, W, st, hfp, hw, hk, fun hz s' m => ?_, fun hp => ⟨fun i j vi vj s3 Q3 E3 _ hi hj q => CmpOf.ints_lt (numAt xs) (fun _ _ => intItems_at) i j vi vj s3 Q3 E3 hi hj q, fun v s' hP m => ?_⟩⟩
  · obtain ⟨h', tk, rfl, hk'⟩ := PySem.W.moved_old e rfl m
    refine h0 ?_ h' tk hk'
    rw [zz] at hz
    exact List.eq_nil_of_length_eq_zero (by rw [List.length_map, Array.length_toList]; exact hz)
  · obtain ⟨h', tk, rfl, hk'⟩ := PySem.W.moved_old e rfl m
    rw [zz] at hp hP
    obtain ⟨t, rfl⟩ := intItems_at hP
    obtain ⟨h1, h2⟩ := argBest_lt (numAt xs) (xs.size - 1)
    refine h h' tk _ t hk' ?_ fun a ha => ?_
    · rw [numAt_eq]; exact PySem.getD_mem (by rw [List.length_map, Array.length_toList]; omega)
    · obtain ⟨j, hj, rfl⟩ := mem_getD ha
      rw [List.length_map, Array.length_toList] at hj
      rw [← numAt_eq]; exact h2 j (by omega)
end
section
variable {X : Cx}
def rMinD (K : PySem.W.Frag) : List V → List V → Hp → VK → Prop := fun vs zs H Q => ∃ (a : Addr) (ns : List Int) (d : V), vs = [V.ref a] ∧ zs = [d] ∧ SqL K H a (ns.map V.int) ∧ (ns = [] → Q d H) ∧ ∀ m, m ∈ ns → (∀ y, y ∈ ns → m ≤ y) → Q (.int m) H
theorem cr_minD (hc : X.calm = true) : CallRK X (.builtin "min") [Str.ofString "default"] (rMinD X.K) := by
  intro pins s σ H vs zs us ws Q I r r2 h
  obtain ⟨a, ns, d, rfl, rfl, hs, q0, q⟩ := h
  obtain ⟨its, rv, hl, _⟩ := I.list hs
  obtain ⟨u, rfl, ru⟩ := r2.one
  rw [Vals.ref1 r]
  exact min_rawD (I.ok.hd hc) hl.isList rv.ints (fun e h' tk hk => ⟨d, H, I.kept hk, ru, q0 e⟩) fun h' tk m t' hk h1 h2 => ⟨.int _, H, I.kept hk, ⟨_, rfl⟩, q m h1 h2⟩
theorem minDK {K : PySem.W.Frag} (h : X.K = K) (hc : X.calm = true) : CallRK X (.builtin "min") [Str.ofString "default"] (rMinD K) := by
  subst h
  exact cr_minD hc
end
end Gd
namespace Dl
open PySem PySem.Spec PyProof.Rows L2 Gd
variable {K : PySem.W.Frag} {E : XK}
/-! ### min with default -/
def rCK (d : Mu → List T → List T → (T → Prop) → Prop) (ra rk : DA) : DE := fun ρ xw μ Φ => ra ρ xw μ fun ts μ1 => rk ρ xw μ1 fun us μ2 => d μ2 ts us fun z => Φ z μ2
class SimCK (K : PySem.W.Frag) (r : List V → List V → Hp → VK → Prop) (d : outParam (Mu → List T → List T → (T → Prop) → Prop)) : Prop where
  run : ∀ {W : Wd} {H : Hp} {μ : Mu} {vs zs : List V} {ts us : List T} {Ψ : T → Prop} {Q : VK}, Ok K W H μ → DvAll K W vs ts → DvAll K W zs us → d μ ts us Ψ → (∀ {v τ W' H'}, Grow W H W' H' → Dv K W' v τ → Ψ τ → Q v H') → r vs zs H Q
theorem DvAll.mono' {W W' : Wd} (l : W.Le W') : ∀ {vs : List V} {ts : List T}, DvAll K W vs ts → DvAll K W' vs ts
  | _, _, .nil => .nil
  | _, _, .cons d r => .cons (d.mono l) (DvAll.mono' l r)
instance sim_ck {r : List V → List V → Hp → VK → Prop} {t tk : TA} {d ra rk} [o : SimCK K r d] [a : SimA K E t ra] [b : SimA K E tk rk] : SimE K E (tCKw r t tk) (rCK d ra rk) := ⟨fun x s n h q =>
  a.run x s n h fun l1 x1 d1 h1 => b.run x1 (s.mono l1) (n.mono l1) h1 fun l2 x2 d2 h2 => o.run x2 (d1.mono' l2) d2 h2 fun g d3 h3 => q ((l1.trans l2).trans (g.le x2)) (g.ok x2) d3 h3⟩
/-- the least of them -/
def minI : List Int → Option Int
  | [] => none
  | x :: r => some (r.foldl min x)
theorem foldl_min (r : List Int) : ∀ x : Int, r.foldl min x ≤ x ∧ (∀ y ∈ r, r.foldl min x ≤ y) ∧ (r.foldl min x = x ∨ r.foldl min x ∈ r) := by
  induction r with
  | nil => exact fun x => ⟨Int.le_refl _, fun y hy => (by cases hy), .inl rfl⟩
  | cons z r ih =>
    intro x
    obtain ⟨a, b, c⟩ := ih (min x z)
    refine ⟨?_, fun y hy => ?_, ?_⟩
    · show r.foldl min (min x z) ≤ x
      omega
    · show r.foldl min (min x z) ≤ y
      rcases List.mem_cons.mp hy with rfl | hy
      · omega
      · exact b y hy
    · show r.foldl min (min x z) = x ∨ r.foldl min (min x z) ∈ z :: r
      rcases c with c | c
      · by_cases h : x ≤ z
        · exact .inl (by omega)
        · exact .inr (List.mem_cons.mpr (.inl (by omega)))
      · exact .inr (List.mem_cons_of_mem _ c)
theorem minI_is {ns : List Int} {m : Int} (h : m ∈ ns) (k : ∀ y ∈ ns, m ≤ y) : minI ns = some m := by
  cases ns with
  | nil => cases h
  | cons x r =>
    obtain ⟨a, b, c⟩ := foldl_min r x
    have h1 : r.foldl min x ≤ m := by
      rcases List.mem_cons.mp h with rfl | h
      · exact a
      · exact b m h
    have h2 : m ≤ r.foldl min x := by
      rcases c with c | c
      · rw [c]; exact k x List.mem_cons_self
      · exact k _ (List.mem_cons_of_mem _ c)
    show some _ = some m
    rw [Int.le_antisymm h1 h2]
theorem minI_some {ns : List Int} {m : Int} (h : minI ns = some m) : m ∈ ns ∧ ∀ y ∈ ns, m ≤ y := by
  cases ns with
  | nil => cases h
  | cons x r =>
    obtain ⟨a, b, c⟩ := foldl_min r x
    have e : r.foldl min x = m := Option.some.inj h
    subst e
    refine ⟨?_, fun y hy => ?_⟩
    · rcases c with c | c
      · rw [c]; exact List.mem_cons_self
      · exact List.mem_cons_of_mem _ c
    · rcases List.mem_cons.mp hy with rfl | hy
      · exact a
      · exact b y hy
def fMinD : Mu → List T → List T → (T → Prop) → Prop := fun μ ts us Ψ => match ts, us with
  | [t], [u] => ∃ l bs, view μ t = .lst l ∧ T.ints l = some bs ∧ Ψ (match minI bs with | some m => .int m | none => u)
  | _, _ => False
instance sim_minD : SimCK K (rMinD K) fMinD := ⟨fun {W H μ vs zs ts us Ψ Q} x d d2 e q => by
  unfold fMinD at e
  split at e
  · rename_i t u
    obtain ⟨l, bs, e1, e2, e3⟩ := e
    obtain ⟨v, rfl, dv⟩ := one_dv d
    obtain ⟨z, rfl, dz⟩ := one_dv d2
    obtain ⟨p, xs, rfl, sq, da⟩ := view_lst x dv e1
    have ex := ints_is da e2
    subst ex
    refine ⟨p, bs, z, rfl, rfl, SqL.of sq, fun n => ?_, fun m h1 h2 => ?_⟩
    · subst n
      exact q (Grow.refl x.sb) dz e3
    · rw [minI_is h1 h2] at e3
      exact q (Grow.refl x.sb) (.of (.int _)) e3
  · exact e.elim⟩
/-! ### xs.extend(ys) -/
def dExtend : Mu → T → List T → (T → Mu → Prop) → Prop := fun μ t ts Ψ => match t, ts with
  | .rs k, [y] => ∃ l m, μ[k]? = some (.lst l) ∧ view μ y = .lst m ∧ l.length + m.length ≤ 1000000 ∧ Ψ .non (μ.set k (.lst (l ++ m)))
  | _, _ => False
instance sim_extend {n : String} : SimM K n rExtend dExtend := ⟨fun {W H μ v vs t ts Ψ Q} x d da e q => by
  unfold dExtend at e
  split at e
  · obtain ⟨l, m, e1, e2, sz, e⟩ := e
    obtain ⟨y, rfl, dy⟩ := one_dv da
    obtain ⟨p, ep, rfl⟩ := (show ∃ p, _ from d)
    obtain ⟨p1, ep1, o, xs, eh, dx⟩ := x.res _ _ e1
    rw [ep] at ep1
    cases ep1
    obtain ⟨p2, ys, rfl, s2, d2⟩ := view_lst x dy e2
    exact ⟨p, p2, xs, ys, rfl, rfl, eh, s2, by rw [dx.length, d2.length]; exact line1 sz, q Wd.Le.refl (res_put x e1 ep (dx.append d2)) (.of .non) e⟩
  · exact e.elim⟩
/-! ### comprehensions with two for -/
theorem Dv.reg {W : Wd} {g : Hp} {v : V} {t : T} (h : Dv K W v t) : Dv K { W with G := g } v t := by
  cases t with
  | rs k => exact h
  | _ => exact h
theorem Sl.reg {W : Wd} {g : Hp} {σ : L2.St} {ρ : Rho} (h : Sl K W σ ρ) : Sl K { W with G := g } σ ρ := ⟨h.1, fun i t e => let ⟨v, a, b⟩ := h.2 i t e; ⟨v, a, b.reg⟩⟩
theorem wipe2 (σ : L2.St) (vs : List Nat) : L2.wipe (L2.wipe σ vs) vs = L2.wipe σ vs := by
  apply List.ext_getElem?
  intro j
  rw [wipe_at, wipe_at, wipe_length]
  by_cases m : j ∈ vs <;> simp [m]
def rLc2 (ri : DL) (js : List Nat) (rg : DG) (rt : DB) (ri1 : DL) (js1 : List Nat) (rg1 : DG) (rt1 : DB) (re : DE) (vs vs1 : List Nat) : DL := fun ρ xw μ Φ => ri ρ xw μ fun l μ1 => (∀ i ∈ js, i ∈ vs) ∧ (∀ i ∈ js1, i ∈ vs1) ∧ ∃ Pv : Nat → List T → Mu → Prop, Pv 0 [] μ1 ∧
  (∀ (i : Nat) (t : T) (acc : List T) (μ : Mu), l[i]? = some t → Pv i acc μ → rg t (wipeR ρ vs) xw μ fun ρ2 μ2 => rt ρ2 xw μ2 fun b μ3 => if b = true then ri1 ρ2 xw μ3 fun l1 μ4 => ∃ Pw : Nat → List T → Mu → Prop, Pw 0 acc μ4 ∧
    (∀ (j : Nat) (t : T) (acc : List T) (μ : Mu), l1[j]? = some t → Pw j acc μ → rg1 t (wipeR ρ2 vs1) xw μ fun ρ5 μ5 => rt1 ρ5 xw μ5 fun b μ6 => if b = true then re ρ5 xw μ6 fun y μ7 => y.flat = true ∧ acc.length < 1000000 ∧ Pw (j + 1) (acc ++ [y]) μ7 else Pw (j + 1) acc μ6) ∧
    (∀ acc μ, Pw l1.length acc μ → Pv (i + 1) acc μ) else Pv (i + 1) acc μ3) ∧
  ∀ acc μ, Pv l.length acc μ → Φ acc μ
instance sim_lc2 {wi : TI} {g : TG} {tt : TT} {wi1 : TI} {g1 : TG} {tt1 : TT} {te : TE} {vs vs1 ri js rg rt ri1 js1 rg1 rt1 re} [a : SimI K E wi ri] [b : SimG K E g js rg] [c : SimB K E tt rt] [a1 : SimI K E wi1 ri1] [b1 : SimG K E g1 js1 rg1] [c1 : SimB K E tt1 rt1] [d : SimE K E te re] :
    SimL K E (tLc2 wi g tt wi1 g1 tt1 te vs vs1) (rLc2 ri js rg rt ri1 js1 rg1 rt1 re vs vs1) := ⟨fun {W H σ ρ μ xw Φ Q} o s n h q => a.run o s n h fun {J l W1 H1 μ1} l1 o1 wk h1 => by
  obtain ⟨sub, sub1, Pv, p0, turn, fin⟩ := h1
  intro D fD
  have gD : W1.G D = none := o1.sg.free fD
  refine ⟨fun i m H => i + m = l.length ∧ ∃ W' μ acc xs, W1.Le W' ∧ Ok K W' H μ ∧ Fr K W' H D xs acc ∧ Pv i acc μ, ⟨l.length, Nat.zero_add _, W1, μ1, [], [], Wd.Le.refl, (Fr.new o1 fD .nil).1, (Fr.new o1 fD .nil).2, p0⟩, ?_⟩
  rintro i m H2 ⟨e, W2, μ2, acc, xs, l2, o2, f2, p2⟩
  match m, e with
  | 0, e =>
    obtain rfl : i = l.length := e
    exact .inl ⟨(wk ⟨l2.b⟩ o2 _).2 (Nat.le_refl _), q (l1.trans l2) o2 f2 (fin _ _ p2)⟩
  | m + 1, e =>
    have lt : i < l.length := by omega
    obtain ⟨go, yl⟩ := (wk ⟨l2.b⟩ o2 i).1 lt
    refine .inr ⟨go, fun H => ∃ W' μ acc xs, W1.Le W' ∧ Ok K W' H μ ∧ Fr K W' H D xs acc ∧ Pv (i + 1) acc μ, fun H' z => ⟨m, Nat.lt_succ_self m, by omega, z⟩, fun x H3 y => ?_⟩
    obtain ⟨W3, t, g3, et, dt⟩ := yl x H3 y
    have l3 := l2.trans (g3.le o2)
    have o3 := g3.ok o2
    have h3 : H3 D = some (.lst xs) := g3.h _ _ f2.h
    have own3 : W3.own D = none := by rw [g3.own]; exact f2.o
    have b3 : W3.B D = none := by
      cases q : W3.B D with
      | none => rfl
      | some u =>
        rcases g3.nb D u q with q | q
        · rw [f2.b] at q; cases q
        · rw [f2.h] at q; cases q
    have g3n : W3.G D = none := by rw [g3.g]; exact f2.g
    have og := gd_ok o3 h3 own3
    have sg : Sl K (W3.gd D (.lst xs)) (L2.wipe σ vs) (wipeR ρ vs) := (s.mono (l1.trans l3)).wipes vs
    have xg : XL K (W3.gd D (.lst xs)) xw E := fun {C d fs τs W' H' μ'} l' o' ed df x => by
      obtain ⟨u1, u2, _⟩ := un_gd g3n b3 l' o'
      exact n ((l1.trans l3).trans u1) u2 ed df x
    have dt3 : Dv K (W3.gd D (.lst xs)) x t := .of dt
    refine b.run og sg xg dt3 (turn i t acc μ2 et p2) fun {σ5 ρ5 W5 H5 μ5} l5 o5 s5 w5 h5 => ⟨(w5 vs sub).trans (wipe2 σ vs), ?_⟩
    refine c.run o5 s5 (xg.mono l5) h5 fun {bb W6 H6 μ6} l6 o6 h6 => ?_
    cases bb with
    | false =>
      refine iteF ?_
      obtain ⟨u1, u2, u3, u4, u5⟩ := un_gd g3n b3 (l5.trans l6) o6
      have dn : DnAll K W6.B xs acc := (f2.d.mono g3.b).mono (l5.trans l6).b
      exact ⟨_, _, acc, xs, l3.trans u1, u2, ⟨u5, g3n, u4, u3, dn⟩, (if_neg Bool.false_ne_true).mp h6⟩
    | true =>
      refine iteT (a1.run o6 (s5.mono l6) (xg.mono (l5.trans l6)) h6 fun {J1 la W7 H7 μ7} l7 o7 wk7 h7 => ?_)
      obtain ⟨Pw, pw0, turn1, fin1⟩ := h7
      obtain ⟨u1, u2, u3, u4, u5⟩ := un_gd g3n b3 ((l5.trans l6).trans l7) o7
      have dn : DnAll K W7.B xs acc := (f2.d.mono g3.b).mono ((l5.trans l6).trans l7).b
      have sb : Sl K { W7 with G := W3.G } σ5 ρ5 := (s5.mono (l6.trans l7)).reg
      have nb : XL K { W7 with G := W3.G } xw E := n.mono ((l1.trans l3).trans u1)
      refine ⟨fun j m H => j + m = la.length ∧ ∃ W' μ acc xs, Wd.Le { W7 with G := W3.G } W' ∧ Ok K W' H μ ∧ Fr K W' H D xs acc ∧ Pw j acc μ, ⟨la.length, Nat.zero_add _, _, μ7, acc, xs, Wd.Le.refl, u2, ⟨u5, g3n, u4, u3, dn⟩, pw0⟩, ?_⟩
      rintro j m1 H8 ⟨e8, W8, μ8, acc8, xs8, l8, o8, f8, p8⟩
      match m1, e8 with
      | 0, e8 =>
        obtain rfl : j = la.length := e8
        exact .inl ⟨(wk7 ⟨l8.b⟩ o8 _).2 (Nat.le_refl _), W8, μ8, acc8, xs8, (l3.trans u1).trans l8, o8, f8, fin1 _ _ p8⟩
      | m1 + 1, e8 =>
        have lt8 : j < la.length := by omega
        obtain ⟨go8, yl8⟩ := (wk7 ⟨l8.b⟩ o8 j).1 lt8
        refine .inr ⟨go8, fun H => ∃ W' μ acc xs, Wd.Le { W7 with G := W3.G } W' ∧ Ok K W' H μ ∧ Fr K W' H D xs acc ∧ Pw (j + 1) acc μ, fun H' z => ⟨m1, Nat.lt_succ_self m1, by omega, z⟩, fun x9 H9 y9 => ?_⟩
        obtain ⟨W9, t9, g9, et9, dt9⟩ := yl8 x9 H9 y9
        have l9 := l8.trans (g9.le o8)
        have o9 := g9.ok o8
        have h9 : H9 D = some (.lst xs8) := g9.h _ _ f8.h
        have own9 : W9.own D = none := by rw [g9.own]; exact f8.o
        have b9 : W9.B D = none := by
          cases q : W9.B D with
          | none => rfl
          | some u =>
            rcases g9.nb D u q with q | q
            · rw [f8.b] at q; cases q
            · rw [f8.h] at q; cases q
        have g9n : W9.G D = none := by rw [g9.g]; exact f8.g
        have og9 := gd_ok o9 h9 own9
        have sg9 : Sl K (W9.gd D (.lst xs8)) (L2.wipe σ5 vs1) (wipeR ρ5 vs1) := (sb.mono l9).wipes vs1
        have xg9 : XL K (W9.gd D (.lst xs8)) xw E := fun {C d fs τs W' H' μ'} l' o' ed df x => by
          obtain ⟨u1, u2, _⟩ := un_gd g9n b9 l' o'
          exact nb (l9.trans u1) u2 ed df x
        have dt9' : Dv K (W9.gd D (.lst xs8)) x9 t9 := .of dt9
        refine b1.run og9 sg9 xg9 dt9' (turn1 j t9 acc8 μ8 et9 p8) fun {σa ρa Wa Ha μa} la oa sa wa ha => ⟨(wa vs1 sub1).trans (wipe2 σ5 vs1), ?_⟩
        refine c1.run oa sa (xg9.mono la) ha fun {bb Wb Hb μb} lb ob hb => ?_
        cases bb with
        | false =>
          refine iteF ?_
          obtain ⟨u1, u2, u3, u4, u5⟩ := un_gd g9n b9 (la.trans lb) ob
          have dn : DnAll K Wb.B xs8 acc8 := (f8.d.mono g9.b).mono (la.trans lb).b
          exact ⟨_, _, acc8, xs8, l9.trans u1, u2, ⟨u5, g9n, u4, u3, dn⟩, (if_neg Bool.false_ne_true).mp hb⟩
        | true =>
          refine iteT (d.run ob (sa.mono lb) (xg9.mono (la.trans lb)) hb fun {vc τc Wc Hc μc} lc oc dc hc => ?_)
          obtain ⟨u1, u2, u3, u4, u5⟩ := un_gd g9n b9 ((la.trans lb).trans lc) oc
          have dn : DnAll K Wc.B xs8 acc8 := (f8.d.mono g9.b).mono ((la.trans lb).trans lc).b
          exact ⟨xs8, u3, by rw [dn.length]; exact Nat.lt_of_lt_of_le hc.2.1 (line1 (Nat.le_refl _)), _, μc, acc8 ++ [τc], xs8 ++ [vc], l9.trans u1, write_ok u2 u5 g9n u4 (fun u q => by rw [u3] at q; cases q; exact pl_lst), ⟨u5, g9n, u4, upd_same, dn.append (.cons (flat_dn dc hc.1) .nil)⟩, hc.2.2⟩⟩
end Dl

set_option maxRecDepth 100000
set_option maxHeartbeats 4000000
/-! ### own classes of errors over any built-in one, whoever makes them -/
namespace Xe
open PySem PySem.Spec PyProof.Rows L2 PySem.HandSPX
/-- the rows of a class's mro that are not own -/
def strip : List Value → List Value
  | .ref _ :: r => strip r
  | l => l
theorem strip_ref (c : Addr) (r : List Value) : strip (.ref c :: r) = strip r := rfl
theorem strip_ind {P : List Value → Prop} (hr : ∀ c r, P r → P (.ref c :: r)) (h0 : ∀ l, strip l = l → P l) : ∀ l, P l
  | [] => h0 [] rfl
  | .ref c :: r => hr c r (strip_ind hr h0 r)
  | .none :: r => h0 _ rfl
  | .ellipsis :: r => h0 _ rfl
  | .notImplemented :: r => h0 _ rfl
  | .bool _ :: r => h0 _ rfl
  | .int _ _ :: r => h0 _ rfl
  | .float _ _ :: r => h0 _ rfl
  | .str _ _ :: r => h0 _ rfl
  | .bytes _ _ :: r => h0 _ rfl
  | .type _ :: r => h0 _ rfl
  | .builtin _ :: r => h0 _ rfl
theorem strip_has (n : String) (l : List Value) : l.contains (.type n) = (strip l).contains (.type n) := by
  induction l using strip_ind with
  | hr c r ih => rw [strip_ref, ← ih, List.contains_cons]; rfl
  | h0 l e => rw [e]
theorem strip_pass (o : Value) (l : List Value) : refuseLoop o "__setattr__" l = refuseLoop o "__setattr__" (strip l) := by
  induction l using strip_ind with
  | hr c r ih => rw [strip_ref, ← ih]; exact refuseLoop_ref ..
  | h0 l e => rw [e]
/-- what is known of the built-in part -/
structure Over (nid : String) (t : List Value) : Prop where
  who : ∃ B iid bB, ExcBaseFacts B nid iid bB ∧ t.contains (.type B) = true
  nA : t.contains (.type "AttributeError") = false
  nN : t.contains (.type "NameError") = false
  ob : t.contains (.type "object") = true
  ps : ∀ o : Value, refuseLoop o "__setattr__" t = pure ()
theorem over_VE : Over "ValueError.__new__" [.type "ValueError", .type "Exception", .type "BaseException", .type "object"] := ⟨⟨_, _, _, F.excBase_ValueError, by decide +kernel⟩, by decide +kernel, by decide +kernel, by decide +kernel, F.store_ValueError.passes⟩
theorem over_LE : Over "LookupError.__new__" [.type "LookupError", .type "Exception", .type "BaseException", .type "object"] := ⟨⟨_, _, _, F.excBase_LookupError, by decide +kernel⟩, by decide +kernel, by decide +kernel, by decide +kernel, F.store_LookupError.passes⟩
theorem over_OE : Over "OverflowError.__new__" [.type "OverflowError", .type "ArithmeticError", .type "Exception", .type "BaseException", .type "object"] := ⟨⟨_, _, _, F.excBase_OverflowError, by decide +kernel⟩, by decide +kernel, by decide +kernel, by decide +kernel, F.store_OverflowError.passes⟩
theorem over_KE : Over "LookupError.__new__" [.type "KeyError", .type "LookupError", .type "Exception", .type "BaseException", .type "object"] := ⟨⟨_, _, _, F.excBase_LookupError, by decide +kernel⟩, by decide +kernel, by decide +kernel, by decide +kernel, fun o => by kernel_rfl⟩
/-- a built-in __init__ of errors -/
structure Ini (B iid : String) : Prop where
  kind : builtinKind iid = some .slot
  split : splitId iid = some (B, "__init__")
  row : Manifest.signature? iid = some ⟨.positional, "*", B, .self, [⟨"args", .varPos, false⟩]⟩
  star : (B != "*") = true
  entry : entryFor table iid = some Builtin.«BaseException.__init__»
  plain : plainId iid = true
theorem ini_of {B n i : String} (G : ExcCallFacts B n i) : Ini B i := ⟨G.initKind, G.initSplit, G.initRow, G.noStar, G.initEntry, G.init.plain⟩
theorem ini_VE : Ini "ValueError" "ValueError.__init__" := ini_of F.excBase_ValueError.toExcCallFacts
theorem ini_LE : Ini "LookupError" "LookupError.__init__" := ini_of F.excBase_LookupError.toExcCallFacts
theorem ini_OE : Ini "OverflowError" "OverflowError.__init__" := ini_of F.excBase_OverflowError.toExcCallFacts
theorem ini_KE : Ini "KeyError" "KeyError.__init__" := ⟨excClass_KeyError.initKind, excClass_KeyError.initSplit, excClass_KeyError.initSig, excClass_KeyError.notStar, excClass_KeyError.initEntry, excClass_KeyError.init.plain⟩

section
variable {M : Model} {A : Around} {E : Value → Shared → Prop} {hp : Heap} {gs : Array GenState} {dr : Drawn} {tk : Nat} {os : OsState}
variable {cn qn : Str} {C ns : Addr} {bas mr : List Value} {hd : Bool} {sl : List Str} {subs : List Value} {ab : Bool} {col : Option Bool} {dd : Option Addr} {s0 s1 s2 s3 s5 : Option Value} {B nid iid : String} {bB : List Value}
theorem chk_new (G : ExcBaseFacts B nid iid bB) (hB : mr.contains (.type B) = true) {us : List Value} {Q : Unit → Shared → Prop} (at_ : hp.get? C = some (excClassObj cn qn C ns bas mr hd sl subs ab col dd s0 s1 s2 s3 s5 nid))
    (fin : Q () ⟨hp, gs, dr, tk, os⟩) : wpAny M A (checkBuiltinCall nid ⟨.ref C :: us, []⟩) Q E ⟨hp, gs, dr, tk, os⟩ := by
  have inB : (Value.ref C :: mr).contains (.type B) = true := by rw [List.contains_cons, hB, Bool.or_true]
  have notStar := G.noStar
  simp only [checkBuiltinCall, G.newKind, G.newSplit, G.newRow]
  repeat (first
    | refine wpAny_loadPart_at at_ ?_
    | (refine wpAny_isSubtype_exc at_ ?_; rw [inB])
    | refine wpAny_staticBase_exc at_ ?_
    | refine wpAny_madeBy_exc at_ ?_
    | simp only [bne_self_eq_false, Bool.false_eq_true, if_false]
    | wp_step)
  exact fin
theorem chk_init {B iid : String} (G : Ini B iid) (hB : mr.contains (.type B) = true) {e : Addr} {ob : Obj} {us : List Value} {Q : Unit → Shared → Prop}
    (at_ : hp.get? C = some (excClassObj cn qn C ns bas mr hd sl subs ab col dd s0 s1 s2 s3 s5 nid)) (ate : hp.get? e = some ob) (cl : ob.cls = .ref C) (fin : Q () ⟨hp, gs, dr, tk, os⟩) :
    wpAny M A (checkBuiltinCall iid ⟨.ref e :: us, []⟩) Q E ⟨hp, gs, dr, tk, os⟩ := by
  have inB : (Value.ref C :: mr).contains (.type B) = true := by rw [List.contains_cons, hB, Bool.or_true]
  have notStar := G.star
  simp only [checkBuiltinCall, G.kind, G.split, G.row]
  repeat (first
    | (with_reducible refine wpAny_loadPart_at ate ?_; rw [cl])
    | with_reducible refine wpAny_loadPart_at at_ ?_
    | (with_reducible refine wpAny_isSubtype_exc at_ ?_; rw [inB])
    | wp_step)
  refine wpAny_onRaise ?_
  have none_kw : ∀ (a b : String) (n : Nat), Bind.check ⟨.positional, "*", B, .self, [⟨"args", .varPos, false⟩]⟩ a b n (List.map (fun z => z.fst) ({ pos := Value.ref e :: us } : Args).kw) = pure () := fun a b n => check_star_args ..
  rw [none_kw]
  exact wpAny_pure fin
end
section
variable {pr : Program} {w : World} {A : Around} {E : Value → Shared → Prop} {R : Result → Shared → Prop} {hp : Heap} {gs : Array GenState} {dr : Drawn} {tk : Nat} {os : OsState}
variable {cn qn : Str} {C ns : Addr} {bas mr : List Value} {hd : Bool} {sl : List Str} {subs : List Value} {ab : Bool} {col : Option Bool} {dd : Option Addr} {s0 s1 s2 s3 s5 : Option Value} {nid : String}
theorem made (O : Over nid (strip mr)) {us : List Value} (at_ : hp.get? C = some (excClassObj cn qn C ns bas mr hd sl subs ab col dd s0 s1 s2 s3 s5 nid)) (few : us.length ≤ sizeLine)
    (fin : R (.ok (.ret (.ref (hp.objs.size + 1)))) ⟨(hp.push (W.kdv_tup us)).push (excO C hp.objs.size), gs, dr, tk, os⟩) :
    codeAny (model pr w) A (.builtin nid ⟨.ref C :: us, []⟩) R ⟨hp, gs, dr, tk, os⟩ := by
  obtain ⟨B, iid, bB, G, hB⟩ := O.who
  have gEnds := G.ends
  have has : ∀ n b, (strip mr).contains (.type n) = b → (Value.ref C :: mr).contains (.type n) = b := fun n b q => by rw [List.contains_cons, strip_has, q]; rfl
  have inB := has _ _ hB
  have inA := has _ _ O.nA
  have inN := has _ _ O.nN
  refine codeAny_builtinAt G.entry ?_
  unfold Builtin.«BaseException.__new__»
  refine PySem.wpAt_bind ?_
  show PySem.wpAt _ _ _ (stack >>= _) _ _ _
  refine PySem.wpAt_bind (PySem.wpAt_stack fun x below => PySem.wpAt_of_wpAny ?_)
  wp_walk
  refine PySem.wpAt_of_wpAny ?_
  rw [G.owner]
  repeat (first
    | with_reducible refine wpAny_madeHere_exc G.canon at_ ?_
    | with_reducible refine wpAny_loadPart_at at_ ?_
    | (with_reducible refine wpAny_isSubtype_exc at_ ?_; first | rw [inB] | rw [inA] | rw [inN])
    | wp_step)
  show R _ _
  rw [Heap.size_push]
  exact fin
theorem by_type (O : Over nid (strip mr)) {us : List Value} {fI : Addr} {Q : Fin → Shared → Prop} (at_ : hp.get? C = some (excClassObj cn qn C ns bas mr hd sl subs ab col dd s0 s1 s2 s3 s5 nid))
    (look : W.Looks (model pr w) hp (typeLookup (.ref C) "__init__") (some (.ref fI))) (bnd : ∀ o, W.Looks (model pr w) hp (bindSpecial (.ref fI) o) (.ref fI, [o])) (few : us.length ≤ sizeLine)
    (run : codeAny (model pr w) A (.call (.ref fI) ⟨.ref (hp.objs.size + 1) :: us, []⟩) (fun r z => match r with
        | .ok (.ret v) => v = .none ∧ Q (.done (.ret (.ref (hp.objs.size + 1)))) z
        | .ok _ => False
        | .error e => E e z) ⟨(hp.push (W.kdv_tup us)).push (excO C hp.objs.size), gs, dr, tk, os⟩) :
    wpAny (model pr w) A (Builtin.«type.__call__» ⟨.ref C :: us, []⟩) Q E ⟨hp, gs, dr, tk, os⟩ := by
  obtain ⟨B, iid, bB, G, hB⟩ := id O.who
  repeat (first
    | with_reducible refine wpAny_loadPart_at at_ ?_
    | with_reducible refine wpAny_madeBy_exc at_ ?_
    | wp_step)
  refine codeAny_call_builtin_code (Code.quiet_builtin _ G.quiet) (chk_new G (by rw [strip_has]; exact hB) at_ ?_)
  refine made O at_ few ?_
  show wpAny _ _ _ _ _ _
  have up : ∀ b o, hp.get? b = some o → ((hp.push (W.kdv_tup us)).push (excO C hp.objs.size)).get? b = some o := fun b o q => Heap.get?_push_of_some _ (Heap.get?_push_of_some _ q)
  have at2 := up _ _ at_
  have new_ : ((hp.push (W.kdv_tup us)).push (excO C hp.objs.size)).get? (hp.objs.size + 1) = some (excO C hp.objs.size) := by heap_get
  have self_ : (Value.ref C :: mr).contains (.ref C) = true := by simp
  have look2 := look.keeps up
  have bnd2 := (bnd (.ref (hp.objs.size + 1))).keeps up
  unfold isInstance
  repeat (first
    | with_reducible refine wpAny_loadPart_at new_ ?_
    | (with_reducible refine wpAny_isSubtype_exc at2 ?_; rw [self_])
    | wp_step)
  show wpAny _ _ (typeLookup (.ref C) _) _ _ _
  refine look2.at (wpAny_holding (wpAny_bind (bnd2.at (wpAny_bind (wpAny_call (codeAny_mono run fun r z q => ?_))))))
  match r, q with
  | .error e, q => exact q
  | .ok (.ret v), q =>
    obtain ⟨rfl, q⟩ := q
    first
      | exact wpAny_pure (wpAny_pure q)
      | (wp_walk; done)
      | (wp_walk; exact q)
  | .ok .next, q => exact False.elim q
  | .ok .brk, q => exact False.elim q
  | .ok .cont, q => exact False.elim q
theorem called (O : Over nid (strip mr)) {us : List Value} {fI : Addr} (at_ : hp.get? C = some (excClassObj cn qn C ns bas mr hd sl subs ab col dd s0 s1 s2 s3 s5 nid))
    (look : W.Looks (model pr w) hp (typeLookup (.ref C) "__init__") (some (.ref fI))) (bnd : ∀ o, W.Looks (model pr w) hp (bindSpecial (.ref fI) o) (.ref fI, [o])) (few : us.length ≤ sizeLine)
    (run : codeAny (model pr w) (A.under (.builtin "type.__call__" ⟨.ref C :: us, []⟩)) (.call (.ref fI) ⟨.ref (hp.objs.size + 1) :: us, []⟩) (W.InitBack (hp.objs.size + 1) R) ⟨(hp.push (W.kdv_tup us)).push (excO C hp.objs.size), gs, dr, tk, os⟩) :
    codeAny (model pr w) A (.call (.ref C) ⟨us, []⟩) R ⟨hp, gs, dr, tk, os⟩ := by
  have g1 := tc_lookup
  have g2 := tc_bind (.ref C)
  have g3 : (⟨hp, gs, dr, tk, os⟩ : Shared).TypeIs (.ref C) "type" := ⟨_, at_, rfl⟩
  refine codeAny_of_tree ?_
  show wpAny _ _ (callAny (.ref C) _) _ _ _
  repeat (any_goals (first
    | assumption
    | with_reducible refine wpAny_loadPart_at at_ ?_
    | wp_step))
  refine ⟨rfl, ?_⟩
  refine codeAny_call_builtin_at (Code.quiet_builtin _ (by decide +kernel)) entry_typeCall (wpAny_check_type_call_sub at_ (by_type O at_ look bnd few (codeAny_mono run fun r z q => ?_)))
  rcases r with e | (v | _ | _ | _)
  all_goals exact q
theorem init_ran {B iid : String} (G : Ini B iid) (hB : (strip mr).contains (.type B) = true) {e t0 : Addr} {us : List Value} (at_ : hp.get? C = some (excClassObj cn qn C ns bas mr hd sl subs ab col dd s0 s1 s2 s3 s5 nid))
    (ate : hp.get? e = some (excO C t0)) (few : us.length ≤ sizeLine) (fin : ∀ h2 t1, (∀ b o, b ≠ e → hp.get? b = some o → h2.get? b = some o) → h2.get? e = some (excO C t1) → R (.ok (.ret .none)) ⟨h2, gs, dr, tk, os⟩) :
    codeAny (model pr w) A (.call (.builtin iid) ⟨.ref e :: us, []⟩) R ⟨hp, gs, dr, tk, os⟩ := by
  refine codeAny_call_builtin G.plain G.entry (chk_init G (by rw [strip_has]; exact hB) at_ ate rfl ?_)
  wp_walk
  refine fin _ hp.objs.size (fun b o ne q => ?_) ?_
  · rw [Heap.get?_update_other _ _ (Ne.symm ne)]
    exact Heap.get?_push_of_some _ q
  · rw [Heap.get?_update_self _ (Heap.get?_push_of_some _ ate) rfl]
    rfl
end
end Xe

set_option maxRecDepth 100000
set_option maxHeartbeats 4000000
namespace Xe
open PySem PySem.Spec PyProof.Rows L2 PySem.HandSPX Builtin Builtin.ObjectAttr
/-- what the written part says of an own class of errors over t -/
structure OwE (K : PySem.W.Frag) (C : Addr) (nid : String) (t : List Value) : Prop where
  cls : ∃ cn qn ns bas mr sl subs ab col dd s0 s1 s2 s3 s5, K.lookup C = some (excClassObj cn qn C ns bas mr true sl subs ab col dd s0 s1 s2 s3 s5 nid) ∧ strip mr = t
  ov : Over nid t
  sa : PySem.W.findIn K (.ref C) "__setattr__" = some (some (.builtin "object.__setattr__"))
  exC : PySem.W.subIn K (.ref C) (.type "BaseException") = some true
  tyC : PySem.W.typeIn K (.ref C) = some (.type "type")
  kC : PySem.W.keepIn K (.ref C) = true
theorem Over.full {nid : String} {t : List Value} (O : Over nid t) : t.isEmpty = false := by
  cases t with
  | nil => exact absurd O.ob (by decide)
  | cons _ _ => rfl
section
variable {pr : Program} {w : World} {A : Around} {R : Result → Shared → Prop} {hp : Heap} {gs : Array GenState} {dr : Drawn} {tk : Nat} {os : OsState}
/-- where a field of an error is stored -/
theorem stores {K : PySem.W.Frag} {nid : String} {t : List Value} {f : PySem.Str} {tt : Tok} {v : Value} {x C : Addr} {cd : ClassData} {ox : Obj} {od : Option Obj} (kin : K.In hp) (I : PySem.W.InstAt hp x ox C od)
    (ecd : PySem.W.clsIn K C = some cd) (O : Over nid t) (em : ∃ r, cd.mro = .ref C :: r ∧ strip r = t) (no : PySem.W.findIn K (.ref C) f = some none)
    (fin : wpAny (model pr w) A.in1 (storeInOwnDict (.ref x) (.ref C) (.str f tt) f v false) (fun z s' => match z with
      | .done q => R (.ok q) s'
      | .again c => c.quiet = true ∧ codeAny (model pr w) A c R s') (fun e s' => R (.error e) s') ⟨hp, gs, dr, tk, os⟩) :
    codeAny (model pr w) A (.call (.builtin "object.__setattr__") ⟨[.ref x, .str f tt, v], []⟩) R ⟨hp, gs, dr, tk, os⟩ := by
  obtain ⟨r, em, er⟩ := em
  have S := F.store_object
  have full : cd.mro.isEmpty = false := by rw [em]; rfl
  have ob : cd.mro.contains (.type "object") = true := by rw [em, strip_has, strip_ref, er]; exact O.ob
  have inst : PySem.W.Looks (model pr w) hp (isInstance (.ref x) (.type "object")) true := by
    refine I.type.andThen (PySem.W.looks_mroIn kin ?_)
    unfold PySem.W.mroIn
    rw [ecd, Option.bind_some, if_neg (by rw [full]; decide), ob]
  have mro_ : PySem.W.Looks (model pr w) hp (mroOf (.ref C)) cd.mro := (PySem.W.looks_clsIn kin ecd).andThen .now
  have nobody : PySem.W.Looks (model pr w) hp (storeTaker? none) none := .now
  refine codeAny_call_builtin S.slot.plain S.entry (@PySem.W.check_slot (model pr w) _ _ ⟨hp, gs, dr, tk, os⟩ _ "object" "__setattr__" (.ref x) [.str f tt, v] [] _ S.kind S.split inst (S.args (.ref x) (.str f tt) v) ?_)
  rw [PySem.W.osa_eq, refuse_eq]
  refine wpAny_bind (wpAny_bind (I.type.at (wpAny_bind (mro_.at ?_))))
  rw [strip_pass, em, strip_ref, er, O.ps]
  exact wpAny_pure (wpAny_bind (I.type.at (wpAny_bind ((PySem.W.looks_findIn kin no).at (wpAny_bind (nobody.at fin))))))
theorem stores_first {K : PySem.W.Frag} {nid : String} {t : List Value} {f : PySem.Str} {tt : Tok} {v : Value} {x C : Addr} {fv : Array Value} {cd : ClassData} (kin : K.In hp) (atx : hp.get? x = some { cls := .ref C, data := .fields fv })
    (ecd : PySem.W.clsIn K C = some cd) (O : Over nid t) (em : ∃ r, cd.mro = .ref C :: r ∧ strip r = t) (hh : cd.hasDict = true) (no : PySem.W.findIn K (.ref C) f = some none)
    (fin : ∀ h2 tk2 dx, (∀ b o, b ≠ x → hp.get? b = some o → h2.get? b = some o) → hp.objs.size ≤ dx → dx ≠ x → h2.get? x = some { cls := .ref C, dict := some dx, data := .fields fv } →
      h2.Ns1 dx (fun y => if y = f then some v else none) → R (.ok (.ret .none)) ⟨h2, gs, dr, tk2, os⟩) :
    codeAny (model pr w) A (.call (.builtin "object.__setattr__") ⟨[.ref x, .str f tt, v], []⟩) R ⟨hp, gs, dr, tk, os⟩ := by
  have neS : x ≠ hp.objs.size := Nat.ne_of_lt (Heap.lt_size atx)
  have look_ : PySem.W.Looks (model pr w) hp (classData C) cd := PySem.W.looks_clsIn kin ecd
  refine stores (od := none) kin ⟨atx, rfl, rfl, trivial⟩ ecd O em no ?_
  obtain ⟨a1, a2, a3, a4, a5, a6, a7, a8, a9, b1, b2⟩ := cd
  dsimp only at hh
  subst hh
  unfold storeInOwnDict ownDictForStores
  repeat (first
    | with_reducible refine store_in_new ?_ ?_
    | with_reducible refine wpAny_loadPart_at atx ?_
    | with_reducible refine look_.at ?_
    | wp_step)
  · exact ⟨_, #[], _, (Heap.get?_update_ne _ _ _ _ neS.symm).trans (Heap.get?_push_at rfl rfl), rfl, fun e q => absurd q (by simp), fun _ => rfl⟩
  · intro h2 tk2 nn but
    have up : (hp.push { cls := .type "dict", data := .dict #[] }).get? x = some { cls := .ref C, data := .fields fv } := Heap.get?_push_of_some _ atx
    refine fin h2 tk2 hp.objs.size (fun b o ne q => ?_) (Nat.le_refl _) neS.symm ((but.2 x neS).trans (Heap.get?_update_self _ up rfl)) nn
    rw [but.2 b (Nat.ne_of_lt (Heap.lt_size q)), Heap.get?_update_ne _ _ _ _ ne]
    exact Heap.get?_push_of_some _ q
theorem stores_next {K : PySem.W.Frag} {nid : String} {t : List Value} {f : PySem.Str} {tt : Tok} {v : Value} {x C dx : Addr} {fv : Array Value} {cd : ClassData} {m0 : PySem.Str → Option Value} {nl : List PySem.Str} (kin : K.In hp)
    (atx : hp.get? x = some { cls := .ref C, dict := some dx, data := .fields fv }) (nn : hp.Ns1 dx m0) (wi : Within m0 nl) (few : nl.length ≤ 1000) (ecd : PySem.W.clsIn K C = some cd) (O : Over nid t) (em : ∃ r, cd.mro = .ref C :: r ∧ strip r = t) (hh : cd.hasDict = true)
    (no : PySem.W.findIn K (.ref C) f = some none) (fin : ∀ h2 tk2, (∀ b o, b ≠ dx → hp.get? b = some o → h2.get? b = some o) → h2.Ns1 dx (fun y => if y = f then some v else m0 y) → R (.ok (.ret .none)) ⟨h2, gs, dr, tk2, os⟩) :
    codeAny (model pr w) A (.call (.builtin "object.__setattr__") ⟨[.ref x, .str f tt, v], []⟩) R ⟨hp, gs, dr, tk, os⟩ := by
  obtain ⟨oD, _, _, atD, dD, _⟩ := nn.count wi
  have look_ : PySem.W.Looks (model pr w) hp (classData C) cd := PySem.W.looks_clsIn kin ecd
  refine stores (od := some oD) kin ⟨atx, rfl, rfl, atD⟩ ecd O em no ?_
  obtain ⟨a1, a2, a3, a4, a5, a6, a7, a8, a9, b1, b2⟩ := cd
  dsimp only at hh
  subst hh
  unfold storeInOwnDict ownDictForStores
  repeat (first
    | with_reducible refine OEX.store_in_old nn wi few ?_
    | with_reducible refine wpAny_loadPart_at atx ?_
    | with_reducible refine look_.at ?_
    | wp_step)
  intro h2 tk2 n2 but
  exact fin h2 tk2 (fun b o ne q => (but.2 b ne).trans q) n2
end
section
variable {X : Cx} {pins : List (Addr × Obj)} {σ : L2.St} {H : Hp} {s : Shared} {a C dx : Addr} {f : PySem.Str} {y : V} {u : Value} {fs : List (PySem.Str × V)} {Q : Unit → Shared → Prop} {E : Value → Shared → Prop} {A : Around} {nid : String} {t : List Value}
theorem OwE.cd (T : OwE X.K C nid t) : ∃ cd, PySem.W.clsIn X.K C = some cd ∧ (∃ r, cd.mro = .ref C :: r ∧ strip r = t) ∧ cd.hasDict = true := by
  obtain ⟨cn, qn, ns, bas, mr, sl, subs, ab, col, dd, s0, s1, s2, s3, s5, e, em⟩ := T.cls
  refine ⟨{ name := cn, bases := bas, mro := .ref C :: mr, ns := ns, qualname := qn, hasDict := true, slotNames := sl, subclasses := subs, abstract := ab, collection := col, hasDel := false }, ?_, ⟨mr, rfl, em⟩, rfl⟩
  unfold PySem.W.clsIn
  rw [e]
/-- self.f = y, the first field -/
theorem put_first (T : OwE X.K C nid t) (I : Inv X pins σ H s) (e : H a = some (exo a C none)) (no : PySem.W.findIn X.K (.ref C) f = some none) (ry : RelV y u)
    (fin : ∀ dx s2, H dx = none → dx ≠ a → Inv X pins σ (upd (upd H dx (exd dx [(f, y)])) a (exo a C (some dx))) s2 → Q () s2) : wpAny (model X.prog X.w) A (setAttr (.ref a) f u) Q E s := by
  obtain ⟨cd, ecd, em, hh⟩ := T.cd
  obtain ⟨t1, ata⟩ := exo_at I.hok e
  obtain ⟨hp, gs, dr, tk, os⟩ := s
  refine PySem.W.set_plain I.kIn (od := none) ⟨ata, rfl, rfl, trivial⟩ T.sa (stores_first I.kIn ata ecd T.ov em hh no fun h2 tk2 dx up new ne atx nn => ?_)
  have free : H dx = none := I.hok.fresh new
  have old : ∀ {b : Addr} {o : Obj}, hp.get? b = some o → b ≠ dx := fun {b o} q => Nat.ne_of_lt (Nat.lt_of_lt_of_le (Heap.lt_size q) new)
  have other : ∀ {b : Addr}, H b = none → b ≠ a := fun {b} n z => by
    subst z
    rw [e] at n
    cases n
  have U : Un X.fs [] H (upd (upd H dx (exd dx [(f, y)])) a (exo a C (some dx))) hp h2 := by
    refine ⟨fun b o q n _ _ => up b o (other n) q, fun b o q n _ _ => ⟨o.slots, up b o (other n) q⟩, fun b o q n _ => ?_, fun b o q _ => ?_, fun b xs q => ?_, fun b o v q => ?_, fun b ps q => ⟨#[], ?_⟩⟩
    · rw [upd_ne (other n), upd_ne (old q)]
      exact n
    · by_cases z : b = a
      · subst z
        exact ⟨_, atx⟩
      · exact ⟨o, up b o z q⟩
    · rw [upd_ne (at_ne e q exo_tup), upd_ne (ne_of_none q free)]
      exact q
    · rw [upd_ne (at_ne e q exo_frz), upd_ne (ne_of_none q free)]
      exact q
    · rw [upd_ne (at_ne e q exo_tbl), upd_ne (ne_of_none q free), q]
      simp
  refine fin dx _ free ne (I.un (t' := tk2) U fun b o q => ?_)
  by_cases z : b = a
  · subst z
    rw [upd_same] at q
    cases q
    exact exo_ok atx
  rw [upd_ne z] at q
  by_cases z2 : b = dx
  · subst z2
    rw [upd_same] at q
    cases q
    exact exd_ok nn (relO_put (fs := []) ry fun g => True.intro)
  rw [upd_ne z2] at q
  refine (I.hok b o q).stay (fun c v hc k => up c v (hc.elim (fun hc => by rw [hc]; exact z) fun hc => at_ne e hc exo_own) k) (fun c hc => ?_) fun c xs hc => ?_
  · rw [upd_ne (at_ne e hc exo_own), upd_ne (ne_of_none hc free)]
    exact hc
  · rw [upd_ne (at_ne e hc exo_tup), upd_ne (ne_of_none hc free)]
    exact hc
/-- self.f = y, one more field -/
theorem put_next (T : OwE X.K C nid t) (I : Inv X pins σ H s) (e : H a = some (exo a C (some dx))) (ed : H dx = some (exd dx fs)) (few : fs.length ≤ 900) (no : PySem.W.findIn X.K (.ref C) f = some none) (ry : RelV y u)
    (fin : ∀ s2, Inv X pins σ (upd H dx (exd dx ((f, y) :: fs))) s2 → Q () s2) : wpAny (model X.prog X.w) A (setAttr (.ref a) f u) Q E s := by
  obtain ⟨cd, ecd, em, hh⟩ := T.cd
  obtain ⟨t1, ata⟩ := exo_at I.hok e
  obtain ⟨m0, nn, rel⟩ := exd_at I.hok ed
  have wi := within_of rel
  obtain ⟨hp, gs, dr, tk, os⟩ := s
  obtain ⟨oD, _, _, atD, _, _⟩ := nn.count wi
  refine PySem.W.set_plain I.kIn (od := some oD) ⟨ata, rfl, rfl, atD⟩ T.sa (stores_next I.kIn ata nn wi (by rw [List.length_map]; omega) ecd T.ov em hh no fun h2 tk2 up n2 => ?_)
  have there : ∃ o, h2.get? dx = some o := let ⟨o, _, _, q, _⟩ := n2; ⟨o, q⟩
  exact fin _ (I.write (t' := tk2) (x := dx) (e := dx) (o := exd dx ((f, y) :: fs)) (by rw [ed]; exact True.intro) (.inl rfl) up there (exd_ok n2 (relO_put ry rel)))
/-- B.__init__(self, ..), B built-in -/
theorem init_ok {us : List Value} {Q : Value → Shared → Prop} {B iid : String} (G : Ini B iid) (T : OwE X.K C nid t) (hB : t.contains (.type B) = true) (I : Inv X pins σ H s) (e : H a = some (exo a C none)) (few : us.length ≤ sizeLine)
    (fin : ∀ s2, Inv X pins σ H s2 → Q .none s2) : wpAny (model X.prog X.w) A (call (.builtin iid) (.ref a :: us)) Q E s := by
  obtain ⟨cn, qn, ns, bas, mr, sl, subs, ab, col, dd, s0, s1, s2, s3, s5, el, em⟩ := T.cls
  obtain ⟨t1, ata⟩ := exo_at I.hok e
  obtain ⟨hp, gs, dr, tk, os⟩ := s
  refine wpAny_call (init_ran G (by rw [em]; exact hB) (I.kIn _ _ el) ata few fun h2 t2 up at2 => ?_)
  have J := I.write (t' := tk) (x := a) (e := a) (o := exo a C none) (by rw [e]; exact True.intro) (.inl rfl) up ⟨_, at2⟩ (exo_ok at2)
  have same_ : upd H a (exo a C none) = H := funext fun b => by
    by_cases z : b = a
    · rw [z, upd_same, e]
    · rw [upd_ne z]
  rw [same_] at J
  exact fin _ J
end
/-! ### readings and rules -/
/-- B.__init__(self, ..) -/
def tBIni (K : PySem.W.Frag) (B : String) (ta : TA) : TE := fun σ H Q => ta σ H fun vs H1 => ∃ (a C : Addr) (ws : List V) (nid : String) (t : List Value), vs = .ref a :: ws ∧ ws.length ≤ 1000 ∧ OwE K C nid t ∧ t.contains (.type B) = true ∧ H1 a = some (exo a C none) ∧ Q .non H1
/-- self.f = e, self an error that is being made -/
def tPut (K : PySem.W.Frag) (f : PySem.Str) (to te : TE) : TS := fun D σ H => te σ H fun y H1 => to σ H1 fun x H2 => ∃ (a C : Addr) (nid : String) (t : List Value), x = .ref a ∧ OwE K C nid t ∧ PySem.W.findIn K (.ref C) f = some none ∧
  ((H2 a = some (exo a C none) ∧ ∀ dx, H2 dx = none → dx ≠ a → D.nx σ (upd (upd H2 dx (exd dx [(f, y)])) a (exo a C (some dx)))) ∨
    ∃ (dx : Addr) (fs : List (PySem.Str × V)), H2 a = some (exo a C (some dx)) ∧ H2 dx = some (exd dx fs) ∧ fs.length ≤ 900 ∧ D.nx σ (upd H2 dx (exd dx ((f, y) :: fs))))
section
variable {X : Cx} {o e : Expr} {es : List Expr} {to te : TE} {ta : TA} {f : PySem.Str} {p p' p1 p2 pos : Pos}
/-- a built-in class whose __init__ is called by its name -/
structure BtC (B iid : String) (x : PySem.Str) : Prop where
  ini : Ini B iid
  ty : typeOf (.type B) = pure (.type "type")
  boot : bootBuiltins x = some (.type B)
  stub : Manifest.isStub B = false
  hand : PySem.W.handedIn (Value.builtin iid) = true
theorem bt_VE : BtC "ValueError" "ValueError.__init__" "ValueError" := ⟨ini_VE, by kernel_rfl, PyProof.Rows.Boot.«ValueError», by decide +kernel, by decide +kernel⟩
theorem bt_LE : BtC "LookupError" "LookupError.__init__" "LookupError" := ⟨ini_LE, by kernel_rfl, PyProof.Rows.Boot.«LookupError», by decide +kernel, by decide +kernel⟩
theorem bt_OE : BtC "OverflowError" "OverflowError.__init__" "OverflowError" := ⟨ini_OE, by kernel_rfl, PyProof.Rows.Boot.«OverflowError», by decide +kernel, by decide +kernel⟩
theorem bt_KE : BtC "KeyError" "KeyError.__init__" "KeyError" := ⟨ini_KE, by kernel_rfl, PyProof.Rows.Boot.«KeyError», by decide +kernel, by decide +kernel⟩
theorem pe_binit {B iid : String} {x : PySem.Str} {pl : Sem Bool} (G : BtC B iid x) (hg : Gl X x) (hm : X.mg x = none) (vV : PySem.W.findCls X.K (.type B) (.type "type") "__init__" = some (.val (.builtin iid))) (ha : PA X (e :: es) ta)
    (hn : x ≠ "__name__" := by decide) (hdb : (x == ("__debug__" : PySem.Str)) = false := by decide)
    (hc : eval (.Call (.Attribute (.Name x p1) "__init__" p2) (e :: es) [] pos) X.env = (do
      let ov ← eval (.Name x p1) X.env
      standAt p2.atName
      let (fn, first) ← holding [ov] (getMethod ov "__init__" pl)
      callWith pos fn first (backTo pos (starEach (e :: es) X.env)) (backToKw pos (keywordEach [] X.env))) := by rfl)
    (he : starEach (e :: es) X.env = (false, eval e X.env) :: starEach es X.env := by rfl) (hpl : (backTo pos (starEach es X.env)).any (·.1) = false := by rfl) :
    PE X (.Call (.Attribute (.Name x p1) "__init__" p2) (e :: es) [] pos) (tBIni X.K B ta) := by
  refine ⟨fun pins s σ H Q I h => PySem.W.methodCall_KW (ld_blt I hg hm G.boot ?_ hn hdb) hc⟩
  obtain ⟨m, fr⟩ := I.fr
  refine PySem.W.method_type fr I.ok.mod.kin G.ty G.stub vV G.hand ?_
  show wpAny _ _ (callWith pos (Value.builtin iid) [] (backTo pos (starEach (e :: es) X.env)) []) _ _ _
  refine PyProof.Rows.callWith_method1 (thn (ha.run pos pins _ σ H _ (I.tok _) h) fun us s1 z => ?_) he hpl
  obtain ⟨vs, H1, I1, r1, a, C, ws, nid, t, rfl, few, T, hB, ea, q⟩ := z
  cases r1 with
  | @cons _ u0 _ ur ra rw' =>
    obtain rfl : u0 = Value.ref a := ra
    refine init_ok G.ini T hB I1 ea ?_ fun s2 J => ⟨.non, H1, J, rfl, q⟩
    rw [← Paired.length rw', sizeLine_eq]
    omega
theorem ps_put (ho : PE X o to) (he : PE X e te) (hs : swapsWith e (some (.Attribute o f p')) pos.line X.env = pure false := by rfl) : PS X (.Assign [.Attribute o f p'] e pos) (tPut X.K f to te) := by
  refine ⟨fun pins s σ H D I h => plainObj_wpAny_Assign_Attribute (thn (he.run pins s σ H _ I h) fun v s1 z => ?_) hs⟩
  obtain ⟨y, H1, I1, r1, q1⟩ := z
  refine thn (ho.run pins s1 σ H1 _ I1 q1) fun u s2 z => ?_
  obtain ⟨x, H2, I2, r2, a, C, nid, t, rfl, T, no, q⟩ := z
  obtain rfl : u = Value.ref a := r2
  rcases q with ⟨ea, q⟩ | ⟨dx, fs, ea, ed, few, q⟩
  · exact put_first T I2 ea no r1 fun dx s3 n ne J => ⟨σ, _, J, q dx n ne⟩
  · exact put_next T I2 ea ed few no r1 fun s3 J => ⟨σ, _, J, q⟩
theorem pmk_own {CX : CXT} {x : PySem.Str} {C fI : Addr} {k : Nat} {fd : FuncData} {ps : List PySem.Str} {sp : Sp} {ds : List Value} {dvs : List V} {nid : String} {t : List Value} (T : OwE X.K C nid t) (iC : PySem.W.findIn X.K (.ref C) "__init__" = some (some (.ref fI)))
    (tI : PySem.W.typeIn X.K (.ref fI) = some (.type "function")) (F1 : FnOk X.prog X.w X.K X.mg X.base CX k fI fd ps sp) (hr : Room (k + 1) X.A) (hb : Binds X.K fd ps ds) (hd : Vals dvs ds) (hx : Passes CX X (fun _ _ _ => False)) (hg : Gl X x) (hm : X.mg x = some (.ref C)) (ha : PA X (e :: es) ta)
    (hdb : (x == ("__debug__" : PySem.Str)) = false := by decide) (he : starEach (e :: es) X.env = (false, eval e X.env) :: starEach es X.env := by rfl) (hpl : (backTo pos (starEach es X.env)).any (·.1) = false := by rfl) :
    PMk X (.Call (.Name x p) (e :: es) [] pos) (tMkO C sp dvs ta) := by
  intro pins s σ H Q I h
  obtain ⟨cn, qn, ns, bas, mr, sl, subs, ab, col, dd, s0, s1, s2, s3, s5, el, em⟩ := T.cls
  refine wpAny_Call_Name_kw (ld_glob I hg hm ?_ hdb)
  refine PySem.W.callWith_K (h₀ := X.base) I.ok.mod.kin T.kC (thn (ha.run pos pins s σ H _ I h) fun us s1 z => ?_) he hpl
  obtain ⟨vs, H1, I1, r1, hz, q1⟩ := z
  refine ⟨I1.kIn, ?_⟩
  show wpAny _ _ (call (.ref C) us) _ _ _
  obtain ⟨hp, gs, dr, tk, os⟩ := s1
  have new_ : hp.objs.size ≤ hp.objs.size + 1 := Nat.le_succ _
  have q2 := q1 _ (I1.hok.fresh new_)
  have up : ∀ b o, hp.get? b = some o → ((hp.push (PySem.W.kdv_tup us)).push (excO C hp.objs.size)).get? b = some o := fun b o q => Heap.get?_push_of_some _ (Heap.get?_push_of_some _ q)
  have ate : ((hp.push (PySem.W.kdv_tup us)).push (excO C hp.objs.size)).get? (hp.objs.size + 1) = some (excO C hp.objs.size) := by heap_get
  have J := I1.laid (t' := tk) (a := hp.objs.size + 1) (o := exo (hp.objs.size + 1) C none) (h' := (hp.push (PySem.W.kdv_tup us)).push (excO C hp.objs.size)) up new_ (exo_ok ate)
  have r2 : Vals (V.ref (hp.objs.size + 1) :: (vs ++ dvs)) (Value.ref (hp.objs.size + 1) :: (us ++ ds)) := .cons rfl (r1.append hd)
  have many : (Value.ref (hp.objs.size + 1) :: us ++ ds).length = ps.length := (F1.len _ _ _ _ q2 ▸ r2.length).symm
  have few : us.length ≤ sizeLine := by
    rw [← Paired.length r1, sizeLine_eq]
    omega
  have ov := T.ov
  rw [← em] at ov
  have body := F1.run _ X.stack _ _ ⟨Value.ref (hp.objs.size + 1) :: us, []⟩ (Value.ref (hp.objs.size + 1) :: (us ++ ds)) _ _ (fun _ _ _ => False) (hr.make C us []) (J.env0.make C us []) (hb _ (Value.ref (hp.objs.size + 1) :: us) J.kIn many) r2 q2
  refine wpAny_call (called ov (I1.kIn _ _ el) (PySem.W.looks_findIn I1.kIn iC) (fun z => PySem.W.bind_fn I1.kIn z tI) few (codeAny_mono body fun r s2 z => ?_))
  match r, z with
  | .error er, z => exact hx pins σ _ _ er s2 J z
  | .ok (.ret u), z =>
    obtain ⟨v, H2, os2, bare2, un2, hok2, rv, ev, d, fs, ea, ed, hd1, q3⟩ := z
    subst ev
    obtain ⟨h2, g2, d2, t2, os3⟩ := s2
    exact ⟨rv, mk_end (raises_own T.exC T.tyC) I1 new_ up un2 hok2 os2 bare2 ea ed hd1 q3⟩
  | .ok .next, z => exact False.elim z
  | .ok .brk, z => exact False.elim z
  | .ok .cont, z => exact False.elim z
end
end Xe

set_option maxRecDepth 100000
set_option maxHeartbeats 4000000
namespace Dl
open PySem PySem.Spec PyProof.Rows L2 Gd Xe
variable {K : PySem.W.Frag} {E : XK}
/-! ### raise C(..), told of data -/
/-- where a field of an error comes from -/
inductive Src where
  | arg (i : Nat) | txt (z : PySem.Str)
abbrev XS := List (PySem.Str × Src)
def xsV (ws : List V) : XS → Option (List (PySem.Str × V))
  | [] => some []
  | (f, .arg i) :: r => ws[i]?.bind fun v => (xsV ws r).map ((f, v) :: ·)
  | (f, .txt z) :: r => (xsV ws r).map ((f, .str z) :: ·)
def xsT (ts : List T) : XS → Option (List (PySem.Str × T))
  | [] => some []
  | (f, .arg i) :: r => ts[i]?.bind fun v => (xsT ts r).map ((f, v) :: ·)
  | (f, .txt z) :: r => (xsT ts r).map ((f, .str z) :: ·)
def xsOk : XS → Bool
  | [] => true
  | (_, .arg _) :: r => xsOk r
  | (_, .txt z) :: r => okSb z && xsOk r
def flF : List (PySem.Str × T) → Prop
  | [] => True
  | (_, t) :: r => t.flat = true ∧ flF r
theorem DvAll.getA {W : Wd} : ∀ {vs : List V} {ts : List T} {i : Nat} {t : T}, DvAll K W vs ts → ts[i]? = some t → ∃ v, vs[i]? = some v ∧ Dv K W v t
  | _, _, 0, _, .cons d _, e => by
    cases (Option.some.inj e)
    exact ⟨_, rfl, d⟩
  | _, _, i + 1, _, .cons _ r, e => r.getA (i := i) e
theorem xs_sim {W : Wd} {ws : List V} {ts : List T} (d : DvAll K W ws ts) : ∀ {sh : XS} {τs : List (PySem.Str × T)}, xsOk sh = true → xsT ts sh = some τs → flF τs → ∃ l, xsV ws sh = some l ∧ DnF K W.B l τs
  | [], _, _, e, _ => by
    cases e
    exact ⟨[], rfl, .nil⟩
  | (f, .arg i) :: r, τs, o, e, fl => by
    simp only [xsT, Option.bind_eq_some_iff, Option.map_eq_some_iff] at e
    obtain ⟨t, e1, τ2, e2, rfl⟩ := e
    obtain ⟨v, ev, dv⟩ := d.getA e1
    obtain ⟨l, el, dl⟩ := xs_sim d (sh := r) o e2 fl.2
    exact ⟨(f, v) :: l, by simp [xsV, ev, el], .cons (flat_dn dv fl.1) dl⟩
  | (f, .txt z) :: r, τs, o, e, fl => by
    simp only [xsT, Option.map_eq_some_iff] at e
    obtain ⟨τ2, e2, rfl⟩ := e
    simp only [xsOk, Bool.and_eq_true] at o
    obtain ⟨l, el, dl⟩ := xs_sim d (sh := r) o.2 e2 fl.2
    exact ⟨(f, .str z) :: l, by simp [xsV, el], .cons (.str (okSb_ok o.1)) dl⟩
/-- a class whose errors this __init__ makes -/
structure Fit (K : PySem.W.Frag) (B : String) (sh : XS) (C : Addr) : Prop where
  ow : ∃ nid t, OwE K C nid t ∧ t.contains (.type B) = true
  no : ∀ p ∈ sh, PySem.W.findIn K (.ref C) p.1 = some none
def spE (K : PySem.W.Frag) (B : String) (n : Nat) (sh : XS) : Sp := fun vs H Q _ => vs.length = n + 1 ∧ ∃ (a C : Addr) (ws : List V) (l : List (PySem.Str × V)), vs = .ref a :: ws ∧ Fit K B sh C ∧ xsV ws sh = some l ∧ H a = some (exo a C none) ∧
  ∀ d, H d = none → d ≠ a → Q .non (upd (upd H d (exd d l)) a (exo a C (some d)))
theorem spE_len {B : String} {n : Nat} {sh : XS} : ∀ vs H Q E, spE K B n sh vs H Q E → vs.length = n + 1 := fun _ _ _ _ h => h.1
theorem gone_heap {H : Hp} {a d : Addr} {x y z u : HO} (na : H a = none) (ne : d ≠ a) : upd (del (upd (upd (upd H a x) d y) a z) a) d u = upd H d u := funext fun b => by
  by_cases h : b = d
  · subst h
    rw [upd_same, upd_same]
  · rw [upd_ne h, upd_ne h]
    by_cases h2 : b = a
    · subst h2
      rw [del_same, na]
    · rw [del_ne h2, upd_ne h2, upd_ne h, upd_ne h2]
def rRaise (K : PySem.W.Frag) (C : Addr) (B : String) (n : Nat) (sh : XS) (ra : DA) : DS := fun D xw ρ μ => ra ρ xw μ fun ts μ' => (ts.length = n ∧ n ≤ 1000) ∧ Fit K B sh C ∧ xsOk sh = true ∧ ∃ τs, xsT ts sh = some τs ∧ flF τs ∧ xw C τs μ'
instance sim_raise {C : Addr} {B : String} {n : Nat} {sh : XS} {ta : TA} {ra} [a : SimA K E ta ra] : SimS K E (fun _ σ H => tMkO C (spE K B n sh) [] ta σ H fun cls d H' => E cls d H') (rRaise K C B n sh ra) := ⟨fun {W H σ ρ μ xw D De} o s k lk h => by
  refine a.run o s k h fun {vs ts W1 H1 μ1} l1 o1 d1 h1 => ?_
  obtain ⟨⟨hn, few⟩, fit, ok, τs, e, fl, hx⟩ := h1
  obtain ⟨l, el, dl⟩ := xs_sim d1 ok e fl
  have len : vs.length = n := d1.length.trans hn
  refine ⟨by omega, fun x nx => ⟨by simp [len], x, C, vs ++ [], l, rfl, fit, by rw [List.append_nil]; exact el, upd_same, fun d nd ne => ⟨rfl, d, l, upd_same, ?_, ?_, ?_⟩⟩⟩
  · rw [upd_ne ne, upd_same]
  · rw [upd_ne ne] at nd
    exact nd
  · rw [upd_ne ne] at nd
    rw [gone_heap nx ne]
    exact k l1 ((Grow.side o1.sb (.xd l) nd).ok o1) upd_same dl hx⟩
/-! ### a lambda is handed on; errors are caught and told -/
theorem Ok.extN {W : Wd} {H H' : Hp} {μ : Mu} (x : Ok K W H μ) (e : LamX.ExtN H H') (t : LamX.Tabs W.T H') : Ok K W H' μ := by
  have stays : ∀ a u, W.Kn a → H a = some u → H' a = some u := fun a u k q => by
    obtain ⟨u2, e2, n2⟩ := x.tb.nt a k
    rw [q] at e2
    cases e2
    exact e a u q n2
  have ow : ∀ a k, W.own a = some k → W.Kn a := fun a k q => .inr (.inr (by rw [q]; exact fun z => by cases z))
  refine ⟨fun a u q => stays a u (.inl (by rw [q]; exact fun z => by cases z)) (x.sg _ _ q), fun a u q => stays a u (.inr (.inl (by rw [q]; exact fun z => by cases z))) (x.sb _ _ q), fun a k q => ?_, x.len, fun k r q => ?_, t, fun a k => ?_, fun a k => ?_⟩
  · obtain ⟨a1, a2, a3, a4⟩ := x.lab a k q
    refine ⟨a1, a2, fun z => ?_, a4⟩
    cases h : H a with
    | none => exact a3 h
    | some u =>
      rw [stays a u (ow a k q) h] at z
      cases z
  · obtain ⟨p, ep, r1⟩ := x.res k r q
    exact ⟨p, ep, r1.mono rfl (Same.refl _) (fun _ _ z => z) fun a u oa ha => stays a u (ow a k oa) ha⟩
  · obtain ⟨u, eu, n⟩ := x.tb.nt a k
    exact ⟨u, stays a u k eu, n⟩
  · obtain ⟨u, eu, n⟩ := x.tb.po a k
    exact ⟨u, stays a u (.inr (.inr k)) eu, n⟩
/-- what the errors of the classes in m are told as: a word, and fields -/
abbrev ClM := List (Addr × PySem.Str × List PySem.Str)
def lkV (fs : List (PySem.Str × V)) : List PySem.Str → Option (List V)
  | [] => some []
  | n :: r => (fs.lookup n).bind fun v => (lkV fs r).map (v :: ·)
def lkT (fs : List (PySem.Str × T)) : List PySem.Str → Option (List T)
  | [] => some []
  | n :: r => (fs.lookup n).bind fun v => (lkT fs r).map (v :: ·)
theorem lk_sim {B : Hp} {vs : List (PySem.Str × V)} {fs : List (PySem.Str × T)} (d : DnF K B vs fs) : ∀ {ns : List PySem.Str} {ts : List T}, lkT fs ns = some ts → ∃ ws, lkV vs ns = some ws ∧ DnAll K B ws ts
  | [], _, e => by
    cases e
    exact ⟨[], rfl, .nil⟩
  | n :: r, ts, e => by
    simp only [lkT, Option.bind_eq_some_iff, Option.map_eq_some_iff] at e
    obtain ⟨t, e1, us, e2, rfl⟩ := e
    obtain ⟨v, ev, dv⟩ := d.look e1
    obtain ⟨ws, ew, dw⟩ := lk_sim d (ns := r) e2
    exact ⟨v :: ws, by simp [lkV, ev, ew], .cons dv dw⟩
def spCls (m : ClM) : Sp := fun vs H Q _ => vs.length = 1 ∧ ∃ (a C : Addr) (fs : List (PySem.Str × V)) (z : PySem.Str) (ns : List PySem.Str) (ws : List V), vs = [.ref a] ∧ Err H a C fs ∧ (C, z, ns) ∈ m ∧ lkV fs ns = some ws ∧ ∀ t, H t = none → Q (.ref t) (upd H t (.tup (.str z :: ws)))
theorem spCls_len {m : ClM} : ∀ vs H Q E, spCls m vs H Q E → vs.length = 1 := fun _ _ _ _ h => h.1
/-- what a def makes of the lambda that it gets -/
def TTd (m : ClM) : (XK → Hp → VK → Prop) → Hp → VK → Prop := fun tl H Q => ∀ p, H p = none → ∀ (Q' : VK) (E' : XK), (∀ v H1, (∀ l, H1 l = none → Q (.ref l) (upd H1 l (.lst [v]))) → Q' v H1) →
  (∀ (C d : Addr) (fs : List (PySem.Str × V)) (z : PySem.Str) (ns : List PySem.Str) (ws : List V) (H1 : Hp), (C, z, ns) ∈ m → H1 d = some (.xd fs) → lkV fs ns = some ws → (∀ a t, H1 a = none → H1 t = none → a ≠ t → Q (.ref t) (upd (upd H1 a (ExK a (.ref C) (some d))) t (.tup (.str z :: ws)))) → E' (.ref C) (some d) H1) → tl E' (upd H p (.lst [])) Q'
def rTold (m : ClM) (TT : List (Addr × PySem.Str)) (r : DE) : DE := fun ρ xw μ Φ => (∃ k : Nat, μ[k]? = some (Res.tab TT)) ∧
  r ρ (fun C fs μ' => ∃ z ns ts, (C, z, ns) ∈ m ∧ lkT fs ns = some ts ∧ okSb z = true ∧ Φ (.tup (.str z :: ts)) μ') μ (fun t μ' => t.flat = true ∧ Φ (.lst [t]) μ')
instance sim_told {m : ClM} {TT : List (Addr × PySem.Str)} {t : XK → TE} {r} [a : ∀ E', SimE K E' (t E') r] : SimE K E (LamX.tLam TT (TTd m) t) (rTold m TT r) := ⟨fun {W H σ ρ μ xw Φ Q} o s k h q => by
  obtain ⟨⟨j, ej⟩, h⟩ := h
  obtain ⟨_, _, eT⟩ := o.res j _ ej
  have eT : W.T = TT := eT
  refine ⟨eT ▸ o.tb.tabs, fun H1 e1 t1 => ?_⟩
  have o1 := o.extN e1 (by rw [eT]; exact t1)
  intro p np Q' E' hq he
  have o2 := (Grow.side o1.sb (.lst []) np).ok o1
  refine (a E').run (xw := fun C fs μ' => ∃ z ns ts, (C, z, ns) ∈ m ∧ lkT fs ns = some ts ∧ okSb z = true ∧ Φ (.tup (.str z :: ts)) μ') o2 s (fun {C d fs τs W' H' μ'} l x ed df hx => ?_) h (fun {v τ W' H' μ'} l x dv hv => hq v H' fun y ny => ?_)
  · obtain ⟨z, ns, ts, hm, el, oz, hΦ⟩ := hx
    obtain ⟨ws, ew, dw⟩ := lk_sim df el
    refine he C d fs z ns ws H' hm ed ew fun b t nb nt ne => ?_
    have g1 := Grow.side x.sb (ExK b (.ref C) (some d)) nb
    have x1 := g1.ok x
    have nt1 : upd H' b (ExK b (.ref C) (some d)) t = none := by rw [upd_ne (Ne.symm ne)]; exact nt
    have g2 := Grow.new x1.sb (.tup (.str z :: ws)) nt1
    have x2 := g2.ok x1
    exact q ((l.trans (g1.le x)).trans (g2.le x1)) x2 (.of (.tup (SqT.of upd_same) (.cons (.str (okSb_ok oz)) (dw.mono g2.b)))) hΦ
  · have g1 := Grow.new x.sb (.lst [v]) ny
    have x1 := g1.ok x
    exact q (l.trans (g1.le x)) x1 (.of (.lst upd_same (.cons ((flat_dn dv hv.1).mono g1.b) .nil))) hv.2⟩
theorem pmk_ownX {X : Cx} {CX : CXT} {x : PySem.Str} {C fI : Addr} {k : Nat} {fd : FuncData} {ps : List PySem.Str} {sp : Sp} {nid : String} {t : List Value} {p pos : Pos} {e : Expr} {es : List Expr} {ta : TA} (T : OwE X.K C nid t) (iC : PySem.W.findIn X.K (.ref C) "__init__" = some (some (.ref fI)))
    (tI : PySem.W.typeIn X.K (.ref fI) = some (.type "function")) (F1 : FnOk X.prog X.w X.K X.mg X.base CX k fI fd ps sp) (hr : Room (k + 1) X.A) (hb : ∃ ds, Vals [] ds ∧ Binds X.K fd ps ds) (hx : Passes CX X (fun _ _ _ => False)) (hg : Gl X x) (hm : X.mg x = some (.ref C)) (ha : PA X (e :: es) ta)
    (hdb : (x == ("__debug__" : PySem.Str)) = false := by decide) (he : starEach (e :: es) X.env = (false, eval e X.env) :: starEach es X.env := by rfl) (hpl : (backTo pos (starEach es X.env)).any (·.1) = false := by rfl) :
    PMk X (.Call (.Name x p) (e :: es) [] pos) (tMkO C sp [] ta) :=
  let ⟨_, hd, hb⟩ := hb
  pmk_own T iC tI F1 hr hb hd hx hg hm ha hdb he hpl
end Dl
namespace Gd
open PySem PySem.Spec PyProof.Rows L2
variable {P : Program} {w : World} {K : PySem.W.Frag} {mg : PySem.Str → Option Value} {base : Heap}
/-- a def whose code object's place is known -/
theorem FunD.code {x : PySem.Str} {params : Arguments} {body : List Stmt} {scope : Scope} {dvs : List V} {kws : List (PySem.Str × V)} {f c P1 : Addr} {fd : FuncData} (F : FunD K x x params body scope dvs kws f fd) (g : PySem.W.nsIn K mainGlobals x = some (some (.ref f))) (tb : PySem.W.tabIn K x = some (c, P1)) :
    ∃ (oc : Value) (od : Option Addr) (dV kV doc pm : Value) (an : Option Addr) (ct : Value) (osl : Array (Option Value)), fd = PySem.W.fnOf x x params body scope dV kV doc pm an (.ref c) ct ∧ K.lookup f = some ⟨oc, od, .func fd, osl⟩ ∧ PySem.W.codeIn K (.ref c) x = true := by
  obtain ⟨oc, od, dV, kV, doc, pm, an, cdv, ct, osl, rfl, lk, hcd, _, _⟩ := F.ex
  obtain rfl : cdv = .ref c := code_by g tb lk
  exact ⟨oc, od, dV, kV, doc, pm, an, ct, osl, rfl, lk, hcd⟩
theorem FunD.okL {x : PySem.Str} {params : Arguments} {body : List Stmt} {scope : Scope} {dvs : List V} {kws : List (PySem.Str × V)} {f c P1 : Addr} {fd : FuncData} {N ps : List PySem.Str} {k : Nat} {sp : Sp} (F : FunD K x x params body scope dvs kws f fd) (g : PySem.W.nsIn K mainGlobals x = some (some (.ref f)))
    (tb : PySem.W.tabIn K x = some (c, P1)) (S : FnScope N ps scope) (len : ∀ vs H Q E, sp vs H Q E → vs.length = ps.length)
    (hbody : ∀ (A : Around) (outer : List Env) (s : Shared) (H : Hp) (vs : List V) (Q : VK) (E : XK), Room k (A.deeper (envOfC x scope s.heap.objs.size f (.ref c))) → sp vs H Q E →
      ∃ t, PSs (cxOf CX0 P w K mg base N x scope f (.ref c) A outer s H E).nox body t ∧ t { nx := fun _ H' => Q .non H', rt := Q } (L2.start N vs) H) : FnOk P w K mg base CX0 (k + 1) f fd ps sp := by
  obtain ⟨oc, od, dV, kV, doc, pm, an, ct, osl, rfl, lk, hcd⟩ := FunD.code F g tb
  exact fn_of lk hcd S len fun A outer s H vs Q E hr hsp => let ⟨t, a, b⟩ := hbody A outer s H vs Q E hr hsp; ⟨t, a.nox, b⟩
end Gd

set_option maxRecDepth 100000
set_option maxHeartbeats 4000000
namespace Dl
open PySem PySem.Spec PyProof.Rows L2 Gd
variable {K : PySem.W.Frag} {E : XK}
/-! ### types, those of own objects too -/
def rTypX (K : PySem.W.Frag) : List V → Hp → VK → Prop := fun xs H Q => rTyp K xs H Q ∨ (∃ (y C dx : Addr) (fs : List (PySem.Str × V)), xs = [.ref y] ∧ H y = some (.ins C dx fs) ∧ Q (.ref C) H) ∨
  ∃ (y : Addr) (φ : Heap → Prop), xs = [.ref y] ∧ H y = some (.ext φ) ∧ (∀ hp : Heap, φ hp → ∃ o : Obj, hp.get? y = some o ∧ o.cls = .type "dict") ∧ Q (.ty "dict") H
theorem call_typeX {X : Cx} : CallR X (.type "type") (rTypX X.K) := by
  intro pins s σ H xs us Q I r h
  rcases h with h | ⟨y, C, dx, fs, rfl, e, q⟩ | ⟨y, φ, rfl, e, k, q⟩
  · exact call_type1 pins s σ H xs us Q I r h
  · exact NwS.call_typeC pins s σ H _ us Q I r ⟨y, C, rfl, NwS.OfCls.ins e, q⟩
  · obtain ⟨u, rfl, rx⟩ := vals1 r
    obtain rfl : u = Value.ref y := rx
    obtain ⟨p, _, _⟩ := (show ObjOk X.prog X.w H s.heap y (.ext φ) from I.hok y _ e)
    obtain ⟨o, eo, ec⟩ := k _ p
    exact call_type_of (show s.TypeIs (.ref y) "dict" from ⟨o, eo, ec⟩) (by decide +kernel) ⟨.ty "dict", H, I, rfl, q⟩
def T.tyx : T → Option String
  | .dct _ => some "dict"
  | t => t.tyn
def fTypX : Mu → T → (T → Prop) → Prop := fun μ t Ψ => match view μ t with
  | .obj C _ => Ψ (.cls C)
  | u => match u.tyx with
    | some n => Ψ (.ty n)
    | none => False
instance sim_typX : SimC K (rTypX K) (d1 fTypX) := sim_1 fun {W H μ v t Ψ Q} x d e q => by
  unfold fTypX at e
  split at e
  · rename_i C fs e1
    obtain ⟨p, dx, vs, rfl, e3, _, c⟩ := view_obj x d e1
    exact .inr (.inl ⟨p, C, dx, vs, rfl, e3, q (Grow.refl x.sb) (.of (.cls c.mks)) e⟩)
  · split at e
    · rename_i n e1
      by_cases hd : ∃ a, view μ t = .dct a
      · obtain ⟨a, hd⟩ := hd
        rw [hd] at e1
        cases e1
        have dn := view_dn x d hd (fun k z => by cases z)
        cases dn with
        | dct e2 k => exact .inr (.inr ⟨a, _, rfl, e2, k, q (Grow.refl x.sb) (.of (.ty _)) e⟩)
      · have e2 : (view μ t).tyn = some n := by
          revert e1
          cases hv : view μ t with
          | dct a => exact absurd ⟨a, hv⟩ hd
          | _ => exact fun h => h
        exact .inl ⟨v, n, rfl, (view_dn x d rfl (tyn_rs e2)).tyB e2, q (Grow.refl x.sb) (.of (.ty _)) e⟩
    · exact e.elim
/-- one type is another one -/
def rIsTX (K : PySem.W.Frag) (neg : Bool) : R2 := fun x y H Q => (∃ a b, x = .ty a ∧ y = .ty b ∧ Q (.bl (nb neg (decide (a = b)))) H) ∨ (∃ a b, x = .ref a ∧ y = .ref b ∧ PySem.W.makesIn K a = true ∧ PySem.W.makesIn K b = true ∧ Q (.bl (nb neg (decide (a = b)))) H) ∨
  (∃ a n, x = .ref a ∧ y = .ty n ∧ Q (.bl (nb neg false)) H) ∨ ∃ n b, x = .ty n ∧ y = .ref b ∧ Q (.bl (nb neg false)) H
theorem op_isTX {X : Cx} : OpR X (compareOp .Is) (rIsTX X.K false) := by
  intro pins s σ H x y v u Q I rx ry h
  rcases h with ⟨a, b, rfl, rfl, q⟩ | ⟨a, b, rfl, rfl, m1, m2, q⟩ | ⟨a, n, rfl, rfl, q⟩ | ⟨n, b, rfl, rfl, q⟩
  · exact op_isTyB pins s σ H _ _ v u Q I rx ry ⟨a, b, rfl, rfl, q⟩
  · exact op_is_cls pins s σ H _ _ v u Q I rx ry ⟨a, b, rfl, rfl, .inr ⟨m1, m2⟩, q⟩
  · cases rx; cases ry
    exact wpAny_pure ⟨.bl false, H, I, rfl, q⟩
  · cases rx; cases ry
    exact wpAny_pure ⟨.bl false, H, I, rfl, q⟩
theorem op_notTX {X : Cx} : OpR X (compareOp .IsNot) (rIsTX X.K true) := by
  intro pins s σ H x y v u Q I rx ry h
  rcases h with ⟨a, b, rfl, rfl, q⟩ | ⟨a, b, rfl, rfl, m1, m2, q⟩ | ⟨a, n, rfl, rfl, q⟩ | ⟨n, b, rfl, rfl, q⟩
  · exact op_notTyB pins s σ H _ _ v u Q I rx ry ⟨a, b, rfl, rfl, q⟩
  · exact op_isnot_cls pins s σ H _ _ v u Q I rx ry ⟨a, b, rfl, rfl, .inr ⟨m1, m2⟩, q⟩
  · cases rx; cases ry
    exact wpAny_pure ⟨.bl true, H, I, rfl, q⟩
  · cases rx; cases ry
    exact wpAny_pure ⟨.bl true, H, I, rfl, q⟩
def dTX (neg : Bool) : Mu → T → T → (T → Prop) → Prop := fun _ a b Ψ => match a, b with
  | .ty m, .ty n => Ψ (.bl (nb neg (decide (m = n))))
  | .cls m, .cls n => Ψ (.bl (nb neg (decide (m = n))))
  | .cls _, .ty _ => Ψ (.bl (nb neg false))
  | .ty _, .cls _ => Ψ (.bl (nb neg false))
  | _, _ => False
theorem Dv.clsv {W : Wd} {v : V} {C : Addr} (h : Dv K W v (.cls C)) : v = .ref C ∧ PySem.W.makesIn K C = true := by
  cases (show Dn K W.B v (.cls C) from h) with
  | cls m => exact ⟨rfl, m⟩
instance sim_isTX {neg : Bool} : SimOp K (rIsTX K neg) (dTX neg) := ⟨fun {W H μ x y tx ty Ψ Q} o dx dy h q => by
  unfold dTX at h
  split at h
  · cases dx.tyv; cases dy.tyv
    exact .inl ⟨_, _, rfl, rfl, q (Grow.refl o.sb) (.of (.bl _)) h⟩
  · obtain ⟨rfl, m1⟩ := dx.clsv
    obtain ⟨rfl, m2⟩ := dy.clsv
    exact .inr (.inl ⟨_, _, rfl, rfl, m1, m2, q (Grow.refl o.sb) (.of (.bl _)) h⟩)
  · obtain ⟨rfl, m1⟩ := dx.clsv
    cases dy.tyv
    exact .inr (.inr (.inl ⟨_, _, rfl, rfl, q (Grow.refl o.sb) (.of (.bl _)) h⟩))
  · cases dx.tyv
    obtain ⟨rfl, m2⟩ := dy.clsv
    exact .inr (.inr (.inr ⟨_, _, rfl, rfl, q (Grow.refl o.sb) (.of (.bl _)) h⟩))
  · exact h.elim⟩
/-! ### a dict of its own -/
/-- a thing of a kind that is told by name alone -/
def rDict : DE := fun _ _ μ Φ => ∀ a, Φ (.far a "dict") μ
instance sim_dnew : SimE K E tDNewK rDict := ⟨fun {W H σ ρ μ xw Φ Q} o s n h q p f =>
  have g := Grow.new o.sb (.dK []) f
  q (g.le o) (g.ok o) (.of (.far (Od.dK upd_same))) (h p)⟩
theorem disp_one {W : Wd} {H : Hp} {σ : L2.St} {μ : Mu} {Φ : T → Mu → Prop} {Q : VK} {k : Key} {c : V} (o : Ok K W H μ) (h : ∀ a, Φ (.far a "dict") μ) (q : ∀ {v τ W' H' μ'}, W.Le W' → Ok K W' H' μ' → Dv K W' v τ → Φ τ μ' → Q v H') : tDisp [(tC (kV k), tC c)] σ H Q := fun p f => by
  refine ⟨upd_same, [(k, c)], rfl, by show 1 ≤ 15; decide, ?_⟩
  have e : upd (upd H p (.dK [])) p (.dK (mergeK [] [(k, c)])) = upd H p (.dK (mergeK [] [(k, c)])) := funext fun b => by
    by_cases z : b = p
    · subst z
      rw [upd_same, upd_same]
    · rw [upd_ne z, upd_ne z, upd_ne z]
  rw [e]
  have g := Grow.new o.sb (.dK (mergeK [] [(k, c)])) f
  exact q (g.le o) (g.ok o) (.of (.far (Od.dK upd_same))) (h p)
instance sim_dispI {i : Int} {c : V} : SimE K E (tDisp [(tC (.int i), tC c)]) rDict := ⟨fun o s n h q => disp_one (k := .inl i) o h q⟩
instance sim_dispS {z : PySem.Str} {c : V} : SimE K E (tDisp [(tC (.str z), tC c)]) rDict := ⟨fun o s n h q => disp_one (k := .inr z) o h q⟩
/-! ### just this thing -/
def pinT (a : Addr) : T → T
  | .lst l => .pin a (.lst l)
  | .tup l => .pin a (.tup l)
  | .obj C fs => .pin a (.obj C fs)
  | t => t
def tPin (_ : Nat) (t : TS) : TS := t
theorem ps_pin {X : Cx} {st : Stmt} {t : TS} (i : Nat) (h : PS X st t) : PS X st (tPin i t) := h
def rPin (i : Nat) (r : DS) : DS := fun D xw ρ μ => match ρ[i]? with
  | some (some t) => ∀ a, r D xw (ρ.set i (some (pinT a t))) μ
  | _ => False
theorem pin_dv {W : Wd} {v : V} {t : T} (d : Dv K W v t) : ∃ a, Dv K W v (pinT a t) := by
  cases t with
  | lst l =>
    cases (show Dn K W.B v (.lst l) from d) with
    | @lst a _ _ e d1 => exact ⟨a, .of (.pin (.lst e d1))⟩
  | tup l =>
    cases (show Dn K W.B v (.tup l) from d) with
    | @tup a _ _ e d1 => exact ⟨a, .of (.pin (.tup e d1))⟩
  | obj C fs =>
    cases (show Dn K W.B v (.obj C fs) from d) with
    | @obj a _ _ _ _ e c d1 => exact ⟨a, .of (.pin (.obj e c d1))⟩
  | _ => exact ⟨default, d⟩
theorem set_same {ρ : List (Option T)} {i : Nat} {x : Option T} (e : ρ[i]? = some x) : i < ρ.length := (List.getElem?_eq_some_iff.mp e).1
instance sim_pin {i : Nat} {t : TS} {r} [a : SimS K E t r] : SimS K E (tPin i t) (rPin i r) := ⟨fun {W H σ ρ μ xw D De} o s n k h => by
  unfold rPin at h
  split at h
  · rename_i u e
    obtain ⟨v, ev, dv⟩ := s.2 i u e
    obtain ⟨p, dp⟩ := pin_dv dv
    have s2 := s.set (i := i) dp
    have same : σ.set i (some v) = σ := by
      apply List.ext_getElem?
      intro j
      by_cases z : i = j
      · subst z
        rw [List.getElem?_set_self (List.getElem?_eq_some_iff.mp ev).1, ev]
      · rw [List.getElem?_set_ne z]
    rw [same] at s2
    exact a.run o s2 n k (h p)
  · exact h.elim⟩
/-! ### tuples of just the same things -/
def rEqTT (K : PySem.W.Frag) (neg : Bool) : R2 := fun x y H Q => ∃ (a b : Addr) (xs : List V), x = .ref a ∧ y = .ref b ∧ SqT K H a xs ∧ SqT K H b xs ∧ (∀ v ∈ xs, flatV v = true ∨ (∃ p, v = .ref p) ∨ ∃ n, v = .ty n) ∧ Q (.bl (nb neg true)) H
theorem eqV_self : ∀ {v : V}, flatV v = true → eqV v v = true
  | .non, _ => rfl
  | .bl b, _ => by simp [eqV]
  | .int i, _ => by simp [eqV]
  | .str z, _ => by simp [eqV]
  | .byt _, h => nomatch h
  | .flt _, h => nomatch h
  | .ref _, h => nomatch h
  | .ty _, h => nomatch h
theorem all_same {A : Around} {s : Shared} {xs : List V} {us ws : List Value} (r1 : Vals xs us) (r2 : Vals xs ws) (h : ∀ v ∈ xs, flatV v = true ∨ (∃ p, v = .ref p) ∨ ∃ n, v = .ty n) (j : Nat) (h1 : j < us.toArray.size) (h2 : j < ws.toArray.size) : SeqAt.EqAt A s us.toArray[j] ws.toArray[j] true := by
  have k1 : j < xs.length := by rw [r1.length]; simpa using h1
  obtain ⟨u, hu, ru⟩ := r1.get (List.getElem?_eq_getElem k1)
  obtain ⟨v, hv, rv⟩ := r2.get (List.getElem?_eq_getElem k1)
  have e1 : us.toArray[j] = u := by
    have z : us[j]? = some us.toArray[j] := by
      have h1' : j < us.length := by simpa using h1
      rw [List.getElem?_eq_getElem h1'] <;> simp
    rw [hu] at z
    exact (Option.some.inj z).symm
  have e2 : ws.toArray[j] = v := by
    have z : ws[j]? = some ws.toArray[j] := by
      have h2' : j < ws.length := by simpa using h2
      rw [List.getElem?_eq_getElem h2'] <;> simp
    rw [hv] at z
    exact (Option.some.inj z).symm
  rw [e1, e2]
  rcases h _ (List.getElem_mem k1) with f | ⟨p, f⟩ | ⟨n, f⟩
  · have z := eqAt_V (A := A) (s := s) ru rv f f
    rw [eqV_self f] at z
    exact z
  · rw [f] at ru rv
    cases ru; cases rv
    exact SeqAt.EqAt.same _
  · rw [f] at ru rv
    cases ru; cases rv
    exact SeqAt.EqAt.same _
theorem all_true (n : Nat) : ((List.range n).all fun _ => true) = true := by simp
theorem op_eqTT {X : Cx} (hu : X.A.units + 64 < cLine) : OpR X (compareOp .Eq) (rEqTT X.K false) := by
  intro pins s σ H x y v u Q I rx ry h
  obtain ⟨a, b, xs, rfl, rfl, e1, e2, al, q⟩ := h
  cases rx; cases ry
  obtain ⟨us, r1, t1, _⟩ := I.tuple e1
  obtain ⟨ws, r2, t2, _⟩ := I.tuple e2
  have size : us.toArray.size = ws.toArray.size := by rw [List.size_toArray, List.size_toArray, ← r1.length, ← r2.length]
  refine SeqAt.RcAt.tuples (e := fun _ => true) t1 t2 (by omega) (fun j h1 h2 => all_same r1 r2 al j h1 h2) _ _ _ _ ?_
  exact fin_bl I q (by rw [all_true, size]; simp [nb])
theorem op_neTT {X : Cx} (hu : X.A.units + 64 < cLine) : OpR X (compareOp .NotEq) (rEqTT X.K true) := by
  intro pins s σ H x y v u Q I rx ry h
  obtain ⟨a, b, xs, rfl, rfl, e1, e2, al, q⟩ := h
  cases rx; cases ry
  obtain ⟨us, r1, t1, _⟩ := I.tuple e1
  obtain ⟨ws, r2, t2, _⟩ := I.tuple e2
  have size : us.toArray.size = ws.toArray.size := by rw [List.size_toArray, List.size_toArray, ← r1.length, ← r2.length]
  refine SeqAt.RcNeAt.tuples (e := fun _ => true) t1 t2 (by omega) (fun j h1 h2 => all_same r1 r2 al j h1 h2) _ _ _ _ ?_
  exact fin_bl I q (by rw [all_true, size]; simp [nb])
/-- things that are told apart by what they are -/
def T.one : T → Bool
  | .non => true
  | .bl _ => true
  | .int _ => true
  | .str _ => true
  | .wst _ => true
  | .ty _ => true
  | .far _ _ => true
  | .pin _ _ => true
  | _ => false
def T.ones : List T → Bool
  | [] => true
  | t :: r => t.one && T.ones r
theorem one_dn {B : Hp} {v w : V} {t : T} (h : t.one = true) (d : Dn K B v t) (e : Dn K B w t) : v = w ∧ (flatV v = true ∨ (∃ p, v = .ref p) ∨ ∃ n, v = .ty n) := by
  cases d <;> first
    | (cases e; exact ⟨rfl, .inl rfl⟩)
    | (cases e; exact ⟨rfl, .inr (.inl ⟨_, rfl⟩)⟩)
    | (cases e; exact ⟨rfl, .inr (.inr ⟨_, rfl⟩)⟩)
    | cases h
theorem ones_dn {B : Hp} : ∀ {vs ws : List V} {ts : List T}, T.ones ts = true → DnAll K B vs ts → DnAll K B ws ts → vs = ws ∧ ∀ v ∈ vs, flatV v = true ∨ (∃ p, v = .ref p) ∨ ∃ n, v = .ty n
  | _, _, _, _, .nil, .nil => ⟨rfl, fun v h => nomatch h⟩
  | _, _, _, h, .cons a r, .cons b q => by
    simp only [T.ones, Bool.and_eq_true] at h
    obtain ⟨e1, f1⟩ := one_dn h.1 a b
    obtain ⟨e2, f2⟩ := ones_dn h.2 r q
    subst e1; subst e2
    exact ⟨rfl, fun v hv => (List.mem_cons.mp hv).elim (fun z => by rw [z]; exact f1) (f2 v)⟩
def dEqTT (neg : Bool) : Mu → T → T → (T → Prop) → Prop := fun μ a b Ψ => ∃ l, view μ a = .tup l ∧ view μ b = .tup l ∧ T.ones l = true ∧ Ψ (.bl (nb neg true))
instance sim_eqTT {neg : Bool} : SimOp K (rEqTT K neg) (dEqTT neg) := ⟨fun {W H μ x y tx ty Ψ Q} o dx dy h q => by
  obtain ⟨l, e1, e2, on, h⟩ := h
  obtain ⟨p1, xs, rfl, s1, d1⟩ := view_tup o dx e1
  obtain ⟨p2, ys, rfl, s2, d2⟩ := view_tup o dy e2
  obtain ⟨e, al⟩ := ones_dn on d1 d2
  subst e
  exact ⟨p1, p2, xs, rfl, rfl, s1, s2, al, q (Grow.refl o.sb) (.of (.bl _)) h⟩⟩
section
variable {X : Cx} {K : PySem.W.Frag}
theorem typeXK (h : X.K = K) : CallR X (.type "type") (rTypX K) := by
  subst h
  exact call_typeX
theorem isTXK (h : X.K = K) : OpR X (compareOp .Is) (rIsTX K false) := by
  subst h
  exact op_isTX
theorem notTXK (h : X.K = K) : OpR X (compareOp .IsNot) (rIsTX K true) := by
  subst h
  exact op_notTX
theorem eqTTK (h : X.K = K) (hu : X.A.units + 64 < cLine) : OpR X (compareOp .Eq) (rEqTT K false) := by
  subst h
  exact op_eqTT hu
theorem neTTK (h : X.K = K) (hu : X.A.units + 64 < cLine) : OpR X (compareOp .NotEq) (rEqTT K true) := by
  subst h
  exact op_neTT hu
end
/-- a thing of a kind that is known -/
structure Knd (t : T) : Prop where
  fl : t.flat = true
  ty : (∃ C fs, unp t = .obj C fs) ∨ ∃ n, (unp t).tyx = some n ∧ (n = "int" → ∃ i, t = .int i) ∧ (n = "str" → ∃ z, t = .str z) ∧ (n = "tuple" → ∃ l, unp t = .tup l) ∧ (n = "list" → ∃ l, unp t = .lst l)
theorem view_flat {μ : Mu} {t : T} (h : t.flat = true) : view μ t = unp t := by
  cases t <;> first | rfl | cases h
theorem typ_k {μ : Mu} {t : T} {Ψ : T → Prop} (k : Knd t) (h1 : ∀ C fs, unp t = .obj C fs → Ψ (.cls C)) (h2 : ∀ n, (unp t).tyx = some n → (n = "int" → ∃ i, t = .int i) → (n = "str" → ∃ z, t = .str z) → (n = "tuple" → ∃ l, unp t = .tup l) → (n = "list" → ∃ l, unp t = .lst l) → Ψ (.ty n)) : fTypX μ t Ψ := by
  unfold fTypX
  rw [view_flat k.fl]
  rcases k.ty with ⟨C, fs, e⟩ | ⟨n, e, a, b, c, d⟩
  · rw [e]
    exact h1 C fs e
  · split
    · rename_i C fs e2
      rw [e2] at e
      cases e
    · rw [e]
      exact h2 n e a b c d
theorem knd_int (i : Int) : Knd (.int i) := ⟨rfl, .inr ⟨_, rfl, fun _ => ⟨i, rfl⟩, fun h => absurd h (by decide), fun h => absurd h (by decide), fun h => absurd h (by decide)⟩⟩
theorem knd_str (z : PySem.Str) : Knd (.str z) := ⟨rfl, .inr ⟨_, rfl, fun h => absurd h (by decide), fun _ => ⟨z, rfl⟩, fun h => absurd h (by decide), fun h => absurd h (by decide)⟩⟩
theorem knd_non : Knd .non := ⟨rfl, .inr ⟨_, rfl, fun h => absurd h (by decide), fun h => absurd h (by decide), fun h => absurd h (by decide), fun h => absurd h (by decide)⟩⟩
theorem knd_bl (b : Bool) : Knd (.bl b) := ⟨rfl, .inr ⟨_, rfl, fun h => absurd h (by decide), fun h => absurd h (by decide), fun h => absurd h (by decide), fun h => absurd h (by decide)⟩⟩
theorem knd_dict (a : Addr) : Knd (.far a "dict") := ⟨rfl, .inr ⟨_, rfl, fun h => absurd h (by decide), fun h => absurd h (by decide), fun h => absurd h (by decide), fun h => absurd h (by decide)⟩⟩
theorem knd_dct (a : Addr) : Knd (.dct a) := ⟨rfl, .inr ⟨_, rfl, fun h => absurd h (by decide), fun h => absurd h (by decide), fun h => absurd h (by decide), fun h => absurd h (by decide)⟩⟩
theorem knd_tup {t : T} {l : List T} (f : t.flat = true) (e : unp t = .tup l) : Knd t := ⟨f, .inr ⟨"tuple", by rw [e]; rfl, fun h => absurd h (by decide), fun h => absurd h (by decide), fun _ => ⟨l, e⟩, fun h => absurd h (by decide)⟩⟩
theorem knd_lst {t : T} {l : List T} (f : t.flat = true) (e : unp t = .lst l) : Knd t := ⟨f, .inr ⟨"list", by rw [e]; rfl, fun h => absurd h (by decide), fun h => absurd h (by decide), fun h => absurd h (by decide), fun _ => ⟨l, e⟩⟩⟩
theorem knd_obj {t : T} {C : Addr} {fs : List (PySem.Str × T)} (f : t.flat = true) (e : unp t = .obj C fs) : Knd t := ⟨f, .inl ⟨C, fs, e⟩⟩
/-! ### d.get(k) of a written dict of texts -/
def wlkT (l : List (PySem.Str × PySem.Str)) (z : PySem.Str) : T := match l.lookup z with
  | some y => .str y
  | none => .non
theorem wlk_or (l : List (PySem.Str × PySem.Str)) (z : PySem.Str) : (∃ y, wlkT l z = .str y) ∨ wlkT l z = .non := by
  unfold wlkT
  cases l.lookup z with
  | some y => exact .inl ⟨y, rfl⟩
  | none => exact .inr rfl
def rWGet (l : List (PySem.Str × PySem.Str)) (r : DE) : DE := fun ρ xw μ Φ => r ρ xw μ fun t μ' => match t with
  | .str z => Φ (wlkT l z) μ'
  | _ => False
theorem lookup_strs (z : PySem.Str) : ∀ l : List (PySem.Str × PySem.Str), (l.map fun p => (p.1, V.str p.2)).lookup z = (l.lookup z).map V.str
  | [] => rfl
  | (a, b) :: r => by
    simp only [List.map_cons, List.lookup_cons]
    split
    · rfl
    · exact lookup_strs z r
theorem sim_wget {w : World} {a : Addr} {l : List (PySem.Str × PySem.Str)} {ty : TE} {r} (q : WrD K w.params a (l.map fun p => (p.1, V.str p.2))) (ok : ∀ p ∈ l, okSb p.2 = true) [s : SimE K E ty r] : SimE K E (tWGet K w (tC (.ref a)) ty) (rWGet l r) := ⟨fun {W H σ ρ μ xw Φ Q} o sl n h k =>
  ⟨a, _, rfl, q, s.run o sl n h fun {v τ W' H' μ'} l1 x1 d1 h1 => by
    cases τ with
    | str z =>
      refine ⟨z, d1.str.1, k (τ := wlkT l z) l1 x1 ?_ h1⟩
      rw [lookup_strs]
      have h1 : True := trivial
      unfold wlkT
      cases e : l.lookup z with
      | none => exact .of .non
      | some y =>
        refine .of (.str (okSb_ok (ok (z, y) ?_)))
        exact PySem.mem_of_lookup e
    | _ => exact h1.elim⟩⟩
section
variable {X : Cx} {K : PySem.W.Frag} {w : World} {o e : Expr} {td ty : TE} {apos cpos : Pos}
theorem wgetK (h1 : X.K = K) (h2 : X.w = w) (ho : PE X o td) (he : PE X e ty) (m : M1 X o "get" apos e cpos) : PE X (.Call (.Attribute o "get" apos) [e] [] cpos) (tWGet K w td ty) := by
  subst h1; subst h2
  exact pe_wget ho he m
end
/-! ### over a list or a tuple -/
def iSq (K : PySem.W.Frag) (i : Nat) : TI := fun σ H R => iList K (tVar i) σ H R ∨ iTup K (tVar i) σ H R
theorem piSqK {X : Cx} {K : PySem.W.Frag} {tg e : Expr} {i : Nat} (h : X.K = K) (he : PE X e (tVar i)) : PI X tg e (iSq K i) :=
  ⟨fun pins s σ H R I q => q.elim (fun q => (piLK h he).run pins s σ H R I q) fun q => (piTK h he).run pins s σ H R I q⟩
def rIsq (i : Nat) : DL := fun ρ _ μ Φ => match ρ[i]? with
  | some (some t) => (match unp t with
    | .lst l => Φ l μ
    | .tup l => Φ l μ
    | _ => False)
  | _ => False
theorem sl_as {W : Wd} {σ : L2.St} {ρ : Rho} {i : Nat} {t u : T} {v : V} (s : Sl K W σ ρ) (e : ρ[i]? = some (some t)) (ev : σ[i]? = some (some v)) (d : Dv K W v u) : Sl K W σ (ρ.set i (some u)) := by
  have s2 := s.set (i := i) d
  have same : σ.set i (some v) = σ := by
    apply List.ext_getElem?
    intro j
    by_cases z : i = j
    · subst z
      rw [List.getElem?_set_self (List.getElem?_eq_some_iff.mp ev).1, ev]
    · rw [List.getElem?_set_ne z]
  rw [same] at s2
  exact s2
instance sim_isq {i : Nat} : SimI K E (iSq K i) (rIsq i) := ⟨fun {W H σ ρ μ xw Φ R} o s n h q => by
  unfold rIsq at h
  split at h
  · rename_i t e
    obtain ⟨v, ev, dv⟩ := s.2 i t e
    have li := (List.getElem?_eq_some_iff.mp e).1
    have dn : ∀ {u : T}, unp t = u → (∀ k, u ≠ .rs k) → Dn K W.B v u := fun {u} eu nr => by
      rcases dv.dn with ⟨k, p, rfl, _, _⟩ | d
      · exact absurd eu.symm (nr k)
      · rw [← eu]
        exact unp_dn d
    split at h
    · rename_i l el
      have s2 := sl_as s e ev (.of (dn el (fun k z => by cases z)))
      exact .inl ((sim_ilist (K := K) (E := E) (t := tVar i) (r := rVar i)).run (ρ := ρ.set i (some (.lst l))) (Φ := Φ) o s2 n (by unfold rIlst rVar; simp [li]; exact h) q)
    · rename_i l el
      have s2 := sl_as s e ev (.of (dn el (fun k z => by cases z)))
      exact .inr ((sim_itup (K := K) (E := E) (t := tVar i) (r := rVar i)).run (ρ := ρ.set i (some (.tup l))) (Φ := Φ) o s2 n (by unfold rItup rVar; simp [li]; exact h) q)
    · exact h.elim
  · exact h.elim⟩
theorem isq_of {i : Nat} {ρ : Rho} {xw : XW} {μ : Mu} {Φ : List T → Mu → Prop} {t : T} {l : List T} (e : ρ[i]? = some (some t)) (el : unp t = .lst l ∨ unp t = .tup l) (h : Φ l μ) : rIsq i ρ xw μ Φ := by
  unfold rIsq
  rw [e]
  rcases el with el | el <;> (simp only [el]; exact h)
theorem rLc_if {l : List T} {js : List Nat} {rg : DG} {rc : DB} {re : DE} {vs : List Nat} {ρ : Rho} {xw : XW} {μ : Mu} {Φ : List T → Mu → Prop} (f : T → T) (b : T → Bool) (sub : ∀ i ∈ js, i ∈ vs) (sz : l.length ≤ 1000000)
    (turn : ∀ t ∈ l, ∀ (Ψ : T → Mu → Prop) (N : Mu → Prop), (b t = true → Ψ (f t) μ) → (b t = false → N μ) → rg t (wipeR ρ vs) xw μ fun ρ2 μ2 => rc ρ2 xw μ2 fun c μ3 => if c = true then re ρ2 xw μ3 Ψ else N μ3) (fl : ∀ t ∈ l, (f t).flat = true) (h : Φ ((l.filter b).map f) μ) :
    (∀ i ∈ js, i ∈ vs) ∧ ∃ Pv : Nat → List T → Mu → Prop, Pv 0 [] μ ∧
  (∀ (i : Nat) (t : T) (acc : List T) (μ : Mu), l[i]? = some t → Pv i acc μ → rg t (wipeR ρ vs) xw μ fun ρ2 μ2 => rc ρ2 xw μ2 fun c μ3 => if c = true then re ρ2 xw μ3 fun y μ4 => y.flat = true ∧ acc.length < 1000000 ∧ Pv (i + 1) (acc ++ [y]) μ4 else Pv (i + 1) acc μ3) ∧
  ∀ acc μ, Pv l.length acc μ → Φ acc μ := by
  refine ⟨sub, fun i acc m => m = μ ∧ acc = ((l.take i).filter b).map f, ⟨rfl, by simp⟩, ?_, ?_⟩
  · rintro i t acc m e ⟨rfl, rfl⟩
    have ti : l.take (i + 1) = l.take i ++ [t] := all_take e
    refine turn t (List.mem_of_getElem? e) _ _ (fun hb => ⟨fl t (List.mem_of_getElem? e), ?_, rfl, ?_⟩) fun hb => ⟨rfl, ?_⟩
    · have lt := (List.getElem?_eq_some_iff.mp e).1
      have h1 := List.length_filter_le b (l.take i)
      rw [List.length_take] at h1
      rw [List.length_map]
      omega
    · rw [ti, List.filter_append, List.map_append, List.filter_cons_of_pos hb]
      rfl
    · rw [ti, List.filter_append, List.map_append, List.filter_cons_of_neg (by simp [hb])]
      simp
  · rintro acc m ⟨rfl, rfl⟩
    rw [List.take_length]
    exact h
end Dl

set_option maxRecDepth 100000
set_option maxHeartbeats 4000000
namespace Dl
open PySem PySem.Spec PyProof.Rows L2 Gd
variable {K : PySem.W.Frag} {E : XK}
/-! ### great powers; texts and tuples many times -/
def CPowW (i j : Int) : Prop := 0 ≤ j ∧ (Builtin.Int.intBits i : Int) * j ≤ 2 ^ 27
theorem op_powW {X : Cx} : OpR X (binaryOp .Pow) (rI CPowW fun i j => .int (i ^ j.toNat)) := opI fun _ _ _ _ _ _ _ hc q => PyProof.Rows.pow_int hc.1 hc.2 q
def rRepS : R2 := fun x y H Q => ∃ (z : PySem.Str) (k : Int), x = .str z ∧ y = .int k ∧ MulOk z k ∧ Q (.str (Txt.mul z k)) H
theorem op_repS {X : Cx} : OpR X (binaryOp .Mult) rRepS := op_rep_str
def dRepS : Mu → T → T → (T → Prop) → Prop := fun _ a b Ψ => match a, b with
  | .str z, .int k => MulOk z k ∧ Ψ (.str (Txt.mul z k))
  | _, _ => False
instance sim_repS : SimOp K rRepS dRepS := ⟨fun {W H μ x y tx ty Ψ Q} o dx dy h q => by
  unfold dRepS at h
  split at h
  · obtain ⟨rfl, a⟩ := dx.str
    cases dy.int
    refine ⟨_, _, rfl, rfl, h.1, q (Grow.refl o.sb) (.of (.str ?_)) h.2⟩
    exact (Tx.rep (n := _) (k := _) (⟨Nat.le_refl _, a⟩ : Tx _ _)).2
  · exact h.elim⟩
def rRepT : R2 := fun x y H Q => ∃ (l : Addr) (k : Int) (xs : List V), x = .ref l ∧ y = .int k ∧ H l = some (.tup xs) ∧ xs ≠ [] ∧ 2 ≤ k ∧ xs.length * k.toNat ≤ 1000000 ∧ ∀ p, H p = none → Q (.ref p) (upd H p (.tup (List.replicate k.toNat xs).flatten))
theorem op_repT2 {X : Cx} : OpR X (binaryOp .Mult) rRepT := op_repTW
theorem rep_ints {B : Hp} {i : Int} : ∀ n : Nat, DnAll K B (List.replicate n [V.int i]).flatten (List.replicate n (T.int i))
  | 0 => .nil
  | n + 1 => by
    rw [List.replicate_succ, List.replicate_succ, List.flatten_cons]
    exact .cons (.int i) (rep_ints n)
/-- (i,) * k -/
instance sim_repT {i k : Int} : SimE K E (tOp rRepT (tTup (tCons (tC (.int i)) tNil)) (tC (.int k))) (fun _ _ μ Φ => (2 ≤ k ∧ k ≤ 1000000) ∧ Φ (.tup (List.replicate k.toNat (.int i))) μ) := ⟨fun {W H σ ρ μ xw Φ Q} o s n h q => by
  obtain ⟨⟨k2, km⟩, h⟩ := h
  refine ⟨by show 1 ≤ sizeLine; rw [sizeLine_eq]; decide, fun p1 f1 => ⟨p1, k, [V.int i], rfl, rfl, upd_same, by simp, k2, by simp; omega, fun p f => ?_⟩⟩
  have g1 := Grow.side o.sb (.tup [V.int i]) f1
  have o1 := g1.ok o
  have g2 := Grow.new o1.sb (.tup (List.replicate k.toNat [V.int i]).flatten) f
  exact q ((g1.le o).trans (g2.le o1)) (g2.ok o1) (.of (.tup (SqT.of upd_same) (rep_ints _))) h⟩
/-- x.m(.., k=..) of a def that may raise -/
def rMethN (C : Addr) (mn : PySem.Str) (n m k : Nat) (d : DSpec) (perm : List Nat) (τs : List T) (r : DE) (ra rk : DA) : DE := fun ρ xw μ Φ => r ρ xw μ fun t μ1 => (∃ fs, view μ1 t = .obj C fs ∧ fs.lookup mn = none) ∧
  ra ρ xw μ1 fun ts μ1 => rk ρ xw μ1 fun ss μ2 => ts.length = n ∧ ss.length = m ∧ (pick perm ((t :: ts) ++ (τs ++ ss))).length = k ∧ CallD d (pick perm ((t :: ts) ++ (τs ++ ss))) μ2 Φ xw
instance sim_methN {C : Addr} {mn : PySem.Str} {n m k : Nat} {d : DSpec} {perm : List Nat} {dvs : List V} {te : TE} {t tk : TA} {r ra rk τs} [c : SimE K E te r] [a : SimA K E t ra] [b : SimA K E tk rk] [z : SimD K dvs τs] : SimE K E (tMethN C mn n m (liftSp K k d) (fun vs zs => pick perm (vs ++ (dvs ++ zs))) E te t tk) (rMethN C mn n m k d perm τs r ra rk) := ⟨fun x s xl h q => c.run x s xl h fun l0 x0 d0 h0 => by
  obtain ⟨⟨fs, e, no⟩, h0⟩ := h0
  obtain ⟨p, dx, vs, rfl, e3, d3, cc⟩ := view_obj x0 d0 e
  exact ⟨p, dx, vs, rfl, e3, d3.lookN no, a.run x0 (s.mono l0) (xl.mono l0) h0 fun l1 x1 d1 h1 => b.run x1 ((s.mono l0).mono l1) (xl.mono (l0.trans l1)) h1 fun l2 x2 d2 h2 => ⟨by rw [d1.length]; exact h2.1, by rw [d2.length]; exact h2.2.1,
    call_sim x2 (pick_dv (DvAll.app (.cons ((d0.mono l1).mono l2) (d1.mono l2)) ((z.all _).app d2)) perm) h2.2.2.1 (xl.mono ((l0.trans l1).trans l2)) h2.2.2.2 fun l3 x3 d3 h3 => q (((l0.trans l1).trans l2).trans l3) x3 d3 h3⟩⟩⟩
end Dl

set_option maxRecDepth 100000
set_option maxHeartbeats 4000000
namespace Dl
open PySem PySem.Spec PyProof.Rows L2 Gd
variable {K : PySem.W.Frag} {E : XK}
/-! ### a law's own def, where it knows tables of code objects -/
theorem Ok.tabs {W : Wd} {H : Hp} {μ : Mu} (x : Ok K W H μ) : Ok K { W with ad := W.ad ++ [default] } H (μ ++ [.tab W.T]) ∧ W.Le { W with ad := W.ad ++ [default] } := by
  have up : ∀ (k : Nat) (p : Addr), W.ad[k]? = some p → (W.ad ++ [default])[k]? = some p := fun k p e => by
    rw [List.getElem?_append_left (List.getElem?_eq_some_iff.mp e).1]
    exact e
  refine ⟨⟨x.sg, x.sb, fun a k q => ?_, by simp [x.len], fun k r q => ?_, x.tb.wd rfl (fun a q => .inl q) fun a q => .inl q⟩, ⟨rfl, Same.refl _, fun _ _ q => .inl q, up, rfl⟩⟩
  · obtain ⟨a1, a2, a3, a4⟩ := x.lab a k q
    exact ⟨a1, a2, a3, by simp; omega⟩
  · by_cases lt : k < μ.length
    · rw [List.getElem?_append_left lt] at q
      obtain ⟨p, ep, r1⟩ := x.res k r q
      exact ⟨p, up _ _ ep, r1.mono rfl (Same.refl _) (fun _ _ z => z) fun _ _ _ z => z⟩
    · have ek : k = μ.length := by
        have := (List.getElem?_eq_some_iff.mp q).1
        simp at this
        omega
      subst ek
      simp at q
      subst q
      refine ⟨default, ?_, rfl⟩
      show (W.ad ++ [default])[μ.length]? = _
      rw [← x.len]
      simp
def spLawT (K : PySem.W.Frag) (TT : List (Addr × PySem.Str)) : Sp := fun vs H Q _ => ∃ (a : Addr) (ns : List Int), vs = [.ref a] ∧ SqL K H a (ns.map V.int) ∧ ns.length ≤ 63 ∧ LamX.Tabs TT H ∧ ∀ H', Q (.bl true) H'
theorem lawT_len {TT : List (Addr × PySem.Str)} : ∀ vs H Q E, spLawT K TT vs H Q E → vs.length = 1 := fun vs H Q E h => by
  obtain ⟨_, _, rfl, _⟩ := h
  rfl
theorem law_simT {TT : List (Addr × PySem.Str)} {s : PySem.Str} {rest : TS} {r : DS} {N : List PySem.Str} {vs : List V} {H : Hp} {Q : VK} {E : XK} (h : spLawT K TT vs H Q E) [z : SimS K E rest r] (hN : 2 ≤ N.length)
    (k : r ⟨fun _ _ => False, fun t _ => t = .bl true, fun _ _ => False, fun _ _ => False⟩ (fun _ _ _ => False) (none :: some (.rs 0) :: List.replicate (N.length - 2) none) [.drw s 1000000, .tab TT]) :
    tSeq (tAsg (tCall (spBegunS K s) [] E0 (tCons (tVar 0) tNil)) (gName 1)) rest { nx := fun _ H' => Q .non H', rt := Q } (L2.start N vs) H := by
  obtain ⟨a, ns, rfl, hS, l63, tb, q⟩ := h
  refine ⟨_, rfl, a, ns, rfl, hS, l63, fun d H' dr => ?_⟩
  have o0 : Ok K ⟨fun _ => none, fun _ => none, [], fun _ => none, TT⟩ H [] := ⟨fun _ _ e => (by cases e), fun _ _ e => (by cases e), fun _ _ e => (by cases e), rfl, fun _ _ e => (by cases e), ⟨tb, fun a q => (by rcases q with q | q | q <;> exact absurd rfl q), fun a q => absurd rfl q⟩⟩
  obtain ⟨W1, l1, o1, e1⟩ := begun_sim o0 dr
  obtain ⟨o2, l2⟩ := o1.tabs
  have eT : W1.T = TT := l1.t
  rw [eT] at o2
  have ad2 := l2.ad _ _ e1
  obtain ⟨n, en⟩ : ∃ n, N.length = n + 2 := ⟨N.length - 2, by omega⟩
  have s0 : Sl K { W1 with ad := W1.ad ++ [default] } (L2.start N [.ref a]) (List.replicate N.length none) := by
    refine ⟨?_, fun i t e => ?_⟩
    · unfold L2.start
      simp
      omega
    · rw [List.getElem?_replicate] at e
      split at e <;> cases e
  have s1 := s0.set (i := 1) (v := .ref d) (t := .rs 0) ⟨d, ad2, rfl⟩
  have er : (List.replicate N.length (none : Option T)).set 1 (some (.rs 0)) = none :: some (.rs 0) :: List.replicate (N.length - 2) none := by
    rw [en]
    rfl
  rw [er] at s1
  exact z.run o2 s1 xl_none ⟨fun _ _ _ h => False.elim h, fun {v τ W2 H2 μ2} l2 o2 d2 h2 => by
    subst h2
    rw [d2.bl]
    exact q H2, fun _ _ _ h => False.elim h, fun _ _ _ h => False.elim h⟩ k
/-- the first is the thing at 0, at 1 the tables are known, all others are data -/
theorem callRT {α : Type} {d : List T → Mu → (α → Mu → Prop) → XW → Prop} {ts : List T} {μ : Mu} {r : Res} {TT : List (Addr × PySem.Str)} {Φ : α → Mu → Prop} {xw : XW} (e : μ[0]? = some r) (e1 : μ[1]? = some (.tab TT)) (h : flats ts = true) (q : d (.rs 0 :: ts) [r, .tab TT] (fun τ μc => Φ τ (mput μ [0, 1] μc)) (fun C fs μc => xw C fs (mput μ [0, 1] μc))) : CallD d (.rs 0 :: ts) μ Φ xw := by
  refine ⟨[0, 1], .rs 0 :: ts, [r, .tab TT], (by simp), .cons (.rs rfl) ?_, by simp [mget, e, e1], q⟩
  have : ∀ {ts : List T}, flats ts = true → RenAll [0, 1] ts ts := by
    intro ts
    induction ts with
    | nil => exact fun _ => .nil
    | cons t r ih =>
      intro h
      simp only [flats, Bool.and_eq_true] at h
      exact .cons (.fl h.1) (ih h.2)
  exact this h
end Dl

set_option maxRecDepth 100000
set_option maxHeartbeats 4000000
namespace Gd
open PySem PySem.Spec PyProof.Rows L2
/-! ### len, bool, str, repr of an own class's things by its own methods -/
section
variable {X : Cx} {k : Nat} {C f a dx : Addr} {fd : FuncData} {sp : Sp} {pins : List (Addr × Obj)} {σ : L2.St} {H : Hp} {s : Shared} {fs : List (PySem.Str × V)} {Q : VK} {A : Around} {E : Value → Shared → Prop} {name : PySem.Str}
theorem looks_own (I : Inv X pins σ H s) (ea : H a = some (.ins C dx fs)) : PySem.W.Looks (model X.prog X.w) s.heap (typeOf (.ref a)) (.ref C) := by
  obtain ⟨_, _, _, hx, mA, hns, _⟩ := (show ObjOk X.prog X.w H s.heap a (.ins C dx fs) from I.hok a _ ea)
  exact fun A Q E s1 k1 q => wpAny_typeOf_ref (k1 _ _ hx) q
theorem run_own (fr : A.frames = X.A.frames) (F : FnOk X.prog X.w X.K X.mg X.base CX0 k f fd ["self"] sp) (hr : Room k A) (b : Binds X.K fd ["self"] []) (I : Inv X pins σ H s) (pr : sp [.ref a] H Q (fun _ _ _ => False)) {R : Value → Shared → Prop}
    (q : ∀ u s', (∃ v H1, Inv X pins σ H1 s' ∧ RelV v u ∧ Q v H1) → R u s') : wpAny (model X.prog X.w) A (call (.ref f) [.ref a]) R E s := by
  refine wpAny_call (codeAny_mono (F.run A X.stack s H ⟨[.ref a], []⟩ [.ref a] [.ref a] _ _ hr ⟨fr.trans I.env0.frames, I.env0.mod, I.env0.bs, I.env0.bsz, I.env0.funs, I.env0.frf, I.env0.hok, I.env0.bare⟩ (b s [.ref a] I.kIn rfl) (.cons rfl .nil) pr) fun res s' hq => ?_)
  obtain ⟨u, rfl, ce⟩ := cr_out hq
  obtain ⟨v, H1, I1, rv, q1⟩ := I.after ce
  exact q u s' ⟨v, H1, I1, rv, q1⟩
theorem special_own (fr : A.frames = X.A.frames) (F : FnOk X.prog X.w X.K X.mg X.base CX0 k f fd ["self"] sp) (hr : Room k A) (b : Binds X.K fd ["self"] []) (I : Inv X pins σ H s) (ea : H a = some (.ins C dx fs))
    (fl : PySem.W.findIn X.K (.ref C) name = some (some (.ref f))) (ft : PySem.W.typeIn X.K (.ref f) = some (.type "function")) (pr : sp [.ref a] H Q (fun _ _ _ => False)) {R : Option Value → Shared → Prop}
    (q : ∀ u s', (∃ v H1, Inv X pins σ H1 s' ∧ RelV v u ∧ Q v H1) → R (some u) s') : wpAny (model X.prog X.w) A (callSpecial? (.ref a) name) R E s := by
  unfold callSpecial? specialOf
  refine wpAny_bind (wpAny_bind ((looks_own I ea).here ((PySem.W.looks_findIn I.kIn fl).here ?_)))
  refine wpAny_holding (wpAny_bind ((PySem.W.bind_fn I.kIn (.ref a) ft).here ?_))
  show wpAny _ _ (call (.ref f) [.ref a] [] >>= fun v => pure (some v)) _ _ s
  exact wpAny_bind (run_own fr F hr b I pr fun u s' h => wpAny_pure (q u s' h))
theorem special_none (I : Inv X pins σ H s) (ea : H a = some (.ins C dx fs)) (fl : PySem.W.findIn X.K (.ref C) name = some none) {R : Option Value → Shared → Prop} (q : R none s) : wpAny (model X.prog X.w) A (callSpecial? (.ref a) name) R E s := by
  unfold callSpecial? specialOf
  exact wpAny_bind (wpAny_bind ((looks_own I ea).here ((PySem.W.looks_findIn I.kIn fl).here (wpAny_pure q))))
theorem special_of (I : Inv X pins σ H s) (ea : H a = some (.ins C dx fs)) (fl : PySem.W.findIn X.K (.ref C) name = some (some (.ref f))) {R : Option Value → Shared → Prop} (q : R (some (.ref f)) s) : wpAny (model X.prog X.w) A (specialOf (.ref a) name) R E s := by
  unfold specialOf
  exact wpAny_bind ((looks_own I ea).here ((PySem.W.looks_findIn I.kIn fl).here q))
theorem bound_own (fr : A.frames = X.A.frames) (F : FnOk X.prog X.w X.K X.mg X.base CX0 k f fd ["self"] sp) (hr : Room k A) (b : Binds X.K fd ["self"] []) (I : Inv X pins σ H s) (ea : H a = some (.ins C dx fs))
    (fl : PySem.W.findIn X.K (.ref C) name = some (some (.ref f))) (ft : PySem.W.typeIn X.K (.ref f) = some (.type "function")) (pr : sp [.ref a] H Q (fun _ _ _ => False)) {R : Option Value → Shared → Prop}
    (q : ∀ u s', (∃ v H1, Inv X pins σ H1 s' ∧ RelV v u ∧ Q v H1) → R (some u) s') : wpAny (model X.prog X.w) A (callSpecialIfBound? (.ref a) name) R E s := by
  simp only [callSpecialIfBound?, bindSpecialIfBound?]
  refine wpAny_holding (wpAny_bind (wpAny_bind (special_of I ea fl ?_)))
  refine wpAny_bind (wpAny_askSetting (wpAny_ite ?_))
  have fin : wpAny (model X.prog X.w) A (call (.ref f) ([.ref a] ++ []) >>= fun v => pure (some v)) R E s := wpAny_bind (run_own fr F hr b I pr fun u s' h => wpAny_pure (q u s' h))
  split
  · exact wpAny_bind ((PySem.W.bind_fn I.kIn (.ref a) ft).here (wpAny_pure (by exact fin)))
  · exact wpAny_tryCatch (wpAny_bind ((PySem.W.bind_fn I.kIn (.ref a) ft).here (wpAny_pure (by exact fin))))
theorem len_own {Q2 : Nat → Hp → Prop} (fr : A.frames = X.A.frames) (F : FnOk X.prog X.w X.K X.mg X.base CX0 k f fd ["self"] sp) (hr : Room k A) (b : Binds X.K fd ["self"] []) (I : Inv X pins σ H s) (ea : H a = some (.ins C dx fs)) (m : Meth X.K C "__len__" f)
    (pr : sp [.ref a] H (fun v H1 => ∃ n : Nat, v = .int n ∧ n ≤ sizeLine ∧ Q2 n H1) (fun _ _ _ => False)) {R : Fin → Shared → Prop}
    (q : ∀ (n : Nat) t s' H1, Inv X pins σ H1 s' → Q2 n H1 → R (.done (.ret (.int n t))) s') : wpAny (model X.prog X.w) A (Builtin.«len» ⟨[.ref a], []⟩) R E s := by
  unfold Builtin.«len»
  refine wpAny_bind (m := oneArg "len" _) (wpAny_pure ?_)
  refine wpAny_bind (m := callSpecial? (.ref a) (Str.ofString "__len__")) (special_own fr F hr b I ea m.at_ (beq_iff_eq.mp m.fn) pr fun u s' h => ?_)
  obtain ⟨v, H1, I1, rv, n, rfl, hn, q1⟩ := h
  obtain ⟨t, rfl⟩ := (show ∃ t, u = Value.int n t from rv)
  rw [sizeLine_eq] at hn
  refine wpAny_bind (wpAny_holding (wpAny_pure ?_))
  refine wpAny_bind (wpAny_letGo ?_)
  show wpAny _ _ (if ((n : Nat) : Int) < 0 then _ else _) _ _ _
  rw [if_neg (by omega)]
  show wpAny _ _ (if ((n : Nat) : Int) ≥ 2 ^ 63 then _ else _) _ _ _
  rw [if_neg (by omega)]
  exact wpAny_bind (wpAny_mkInt (wpAny_pure (q n _ _ H1 (I1.tok _) q1)))
/-- what such a method answers, and what comes of it -/
def rDunL (C : Addr) (sp : Sp) : List V → Hp → VK → Prop := fun xs H Q => ∃ (a dx : Addr) (fs : List (PySem.Str × V)), xs = [.ref a] ∧ H a = some (.ins C dx fs) ∧
  sp [.ref a] H (fun v H1 => ∃ n : Nat, v = .int n ∧ n ≤ sizeLine ∧ Q (.int n) H1) (fun _ _ _ => False)
def rDunB (C : Addr) (sp : Sp) : List V → Hp → VK → Prop := fun xs H Q => ∃ (a dx : Addr) (fs : List (PySem.Str × V)), xs = [.ref a] ∧ H a = some (.ins C dx fs) ∧
  sp [.ref a] H (fun v H1 => ∃ n : Nat, v = .int n ∧ n ≤ sizeLine ∧ Q (.bl ((n : Int) != 0)) H1) (fun _ _ _ => False)
def rDunS (C : Addr) (sp : Sp) : List V → Hp → VK → Prop := fun xs H Q => ∃ (a dx : Addr) (fs : List (PySem.Str × V)), xs = [.ref a] ∧ H a = some (.ins C dx fs) ∧
  sp [.ref a] H (fun v H1 => ∃ z : PySem.Str, v = .str z ∧ Q (.str z) H1) (fun _ _ _ => False)
theorem call_lenD (F : FnOk X.prog X.w X.K X.mg X.base CX0 k f fd ["self"] sp) (hr : Room (k + 1) X.A) (hb : ∃ ds, Vals [] ds ∧ Binds X.K fd ["self"] ds) (m : Meth X.K C "__len__" f) : CallR X (.builtin "len") (rDunL C sp) := by
  intro pins s σ H xs us Q I r h
  obtain ⟨ds, vd, b⟩ := hb
  cases vd
  obtain ⟨a, dx, fs, rfl, ea, pr⟩ := h
  obtain ⟨u, rfl, ru⟩ := vals1 r
  obtain rfl : u = Value.ref a := ru
  refine Calls.call_function_entry kind_len plain_len entry_len (args_len1 _) ?_
  exact len_own (A := X.A.in1) (Q2 := fun n H1 => Q (.int n) H1) rfl F hr.in1 b I ea m pr fun n t s' H1 I1 q => ⟨_, rfl, .int n, H1, I1, ⟨_, rfl⟩, q⟩
theorem truthy_own (fr : A.frames = X.A.frames) (F : FnOk X.prog X.w X.K X.mg X.base CX0 k f fd ["self"] sp) (hr : Room (k + 1) A) (b : Binds X.K fd ["self"] []) (I : Inv X pins σ H s) (ea : H a = some (.ins C dx fs)) (m : Meth X.K C "__len__" f)
    (nb : PySem.W.findIn X.K (.ref C) "__bool__" = some none) (pr : sp [.ref a] H (fun v H1 => ∃ n : Nat, v = .int n ∧ n ≤ sizeLine ∧ Q (.bl ((n : Int) != 0)) H1) (fun _ _ _ => False)) {R : Bool → Shared → Prop}
    (q : ∀ (n : Nat) s' H1, Inv X pins σ H1 s' → Q (.bl ((n : Int) != 0)) H1 → R ((n : Int) != 0) s') : wpAny (model X.prog X.w) A (truthy (.ref a)) R E s := by
  have key : wpAny (model X.prog X.w) A (runValue (.builtin "len" ⟨[.ref a], []⟩)) (fun r s' => ∃ (n : Nat) (t : Tok), r = .int n t ∧ R ((n : Int) != 0) s') E s := by
    refine wpAny_runValue (codeAny_builtin entry_len ?_)
    rw [Around.under_plainId plain_len _]
    exact len_own (A := A.in1) (Q2 := fun n H1 => Q (.bl ((n : Int) != 0)) H1) fr F hr.in1 b I ea m pr fun n t s' H1 I1 q1 => ⟨n, t, rfl, q n s' H1 I1 q1⟩
  unfold truthy
  first
    | refine wpAny_bind (special_none (name := Str.ofString "__bool__") I ea nb ?_)
    | refine wpAny_bind (wpAny_pure (wpAny_bind (special_none (name := Str.ofString "__bool__") I ea nb ?_)))
  first
    | refine wpAny_bind (special_of I ea m.at_ ?_)
    | refine wpAny_bind (wpAny_pure (wpAny_bind (special_of I ea m.at_ ?_)))
  first
    | exact wpAny_bind (wpAny_mono key (fun r s' h' => by obtain ⟨n, t, rfl, hq⟩ := h'; exact wpAny_pure hq) fun _ _ e => e)
    | exact wpAny_bind (wpAny_pure (wpAny_bind (wpAny_mono key (fun r s' h' => by obtain ⟨n, t, rfl, hq⟩ := h'; exact wpAny_pure hq) fun _ _ e => e)))
theorem call_boolD (F : FnOk X.prog X.w X.K X.mg X.base CX0 k f fd ["self"] sp) (hr : Room (k + 3) X.A) (hb : ∃ ds, Vals [] ds ∧ Binds X.K fd ["self"] ds) (m : Meth X.K C "__len__" f) (nb : PySem.W.findIn X.K (.ref C) "__bool__" = some none) : CallR X (.type "bool") (rDunB C sp) := by
  intro pins s σ H xs us Q I r h
  obtain ⟨ds, vd, b⟩ := hb
  cases vd
  obtain ⟨a, dx, fs, rfl, ea, pr⟩ := h
  obtain ⟨u, rfl, ru⟩ := vals1 r
  obtain rfl : u = Value.ref a := ru
  have g : MeetsIn X.prog X.w (Builtin.«bool.__new__» ⟨[.type "bool", .ref a], []⟩) (fun A R s => wpAny (model X.prog X.w) A.in1 (truthy (.ref a)) (fun b s' => R (.ok (.ret (.bool b))) s') (fun e s' => R (.error e) s') s) := .of_wp fun A R s h => by
    show wpAny _ _ (isType (.type "bool") >>= _) _ _ s
    refine wpAny_bind (wpAny_pure ?_)
    refine wpAny_bind (wpAny_of_eq PySem.F.conv_sub_bool ?_)
    refine wpAny_bind (m := someArgs "bool" 0 1 _) (wpAny_pure ?_)
    exact wpAny_bind (wpAny_mono h (fun r s' h' => wpAny_pure ⟨_, rfl, h'⟩) fun _ _ e => e)
  refine callType_newIn PySem.F.called_bool PySem.F.newNe_bool (PySem.F.typeCall_bool_1 _) (PySem.F.newCall_bool_1 _) (fun obj => PySem.F.args_object_init_2 obj _) PySem.F.entry_bool_new g ?_
  exact truthy_own (A := X.A.in1.in1) (Q := Q) rfl F hr.in1.in1 b I ea m nb pr fun n s' H1 I1 q => ⟨rfl, .bl ((n : Int) != 0), H1, I1, rfl, q⟩
theorem call_strD (F : FnOk X.prog X.w X.K X.mg X.base CX0 k f fd ["self"] sp) (hr : Room (k + 2) X.A) (hb : ∃ ds, Vals [] ds ∧ Binds X.K fd ["self"] ds) (m : Meth X.K C "__str__" f) : CallR X (.type "str") (rDunS C sp) := by
  intro pins s σ H xs us Q I r h
  obtain ⟨ds, vd, b⟩ := hb
  cases vd
  obtain ⟨a, dx, fs, rfl, ea, pr⟩ := h
  obtain ⟨u, rfl, ru⟩ := vals1 r
  obtain rfl : u = Value.ref a := ru
  have g : MeetsIn X.prog X.w (Builtin.«str.__new__» ⟨[.type "str", .ref a], []⟩) (fun A R s => wpAny (model X.prog X.w) A.in1 (Builtin.Str.strOf (.ref a)) (fun r s' => R (.ok (.ret r)) s') (fun e s' => R (.error e) s') s) := .of_wp fun A R s h => by
    rw [str_new_tree]
    refine wpAny_bind (wpAny_pure ?_)
    refine wpAny_bind (wpAny_of_eq isSubtype_str_str ?_)
    exact wpAny_bind (wpAny_mono h (fun r s' h' => wpAny_pure ⟨_, rfl, h'⟩) fun _ _ e => e)
  refine callType_newIn PySem.F.called_str (by decide) (PySem.F.typeCall_str_1 _) (PySem.F.newCall_str_1 _) (fun obj => PySem.F.args_object_init_2 obj _) PySem.F.entry_str_new g ?_
  unfold Builtin.Str.strOf
  show wpAny _ _ (cRoomFor "str" [.ref a] >>= _) _ _ s
  refine wpAny_bind (wpAny_cRoomFor hr.in1.in1.units0 ?_)
  refine wpAny_bind (m := callSpecial? (.ref a) (Str.ofString "__str__")) (special_own (A := X.A.in1.in1) rfl F hr.in1.in1 b I ea m.at_ (beq_iff_eq.mp m.fn) pr fun u s' h => ?_)
  obtain ⟨v, H1, I1, rv, z, rfl, q⟩ := h
  obtain ⟨t, rfl⟩ := (show ∃ t, u = Value.str z t from rv)
  refine wpAny_bind (wpAny_pure ?_)
  exact wpAny_pure ⟨typeIs_str _ _ _, .str z, H1, I1, ⟨_, rfl⟩, q⟩
theorem call_reprD (F : FnOk X.prog X.w X.K X.mg X.base CX0 k f fd ["self"] sp) (hr : Room (k + 1) X.A) (hb : ∃ ds, Vals [] ds ∧ Binds X.K fd ["self"] ds) (m : Meth X.K C "__repr__" f) : CallR X (.builtin "repr") (rDunS C sp) := by
  intro pins s σ H xs us Q I r h
  obtain ⟨ds, vd, b⟩ := hb
  cases vd
  obtain ⟨a, dx, fs, rfl, ea, pr⟩ := h
  obtain ⟨u, rfl, ru⟩ := vals1 r
  obtain rfl : u = Value.ref a := ru
  refine Calls.call_function_entry PySem.F.kind_repr PySem.F.plain_repr PySem.F.entry_repr (PySem.F.args_repr1 _) ?_
  unfold Builtin.«repr»
  refine wpAny_bind (m := oneArg "repr" _) (wpAny_pure ?_)
  refine wpAny_bind (wpAny_cRoomFor hr.in1.units0 ?_)
  refine wpAny_bind (special_of I ea m.at_ ?_)
  refine wpAny_bind (m := callSpecialIfBound? (.ref a) (Str.ofString "__repr__")) (bound_own (A := X.A.in1) rfl F hr.in1 b I ea m.at_ (beq_iff_eq.mp m.fn) pr fun u s' h => ?_)
  obtain ⟨v, H1, I1, rv, z, rfl, q⟩ := h
  obtain ⟨t, rfl⟩ := (show ∃ t, u = Value.str z t from rv)
  refine wpAny_bind (wpAny_isInstance (T := "str") (b := true) rfl isSubtype_str_str ?_)
  exact wpAny_pure ⟨_, rfl, .str z, H1, I1, ⟨_, rfl⟩, q⟩
end
end Gd
namespace Dl
open PySem PySem.Spec PyProof.Rows L2 Gd
variable {K : PySem.W.Frag} {E : XK}
def rLnO (C : Addr) (d : DSpec) (ra : DA) : DE := fun ρ xw μ Φ => ra ρ xw μ fun ts μ1 => ∃ (t : T) (fs : List (PySem.Str × T)), ts = [t] ∧ view μ1 t = .obj C fs ∧ CallD d [t] μ1 (fun τ μ2 => ∃ n : Nat, τ = .int n ∧ n ≤ 1000000 ∧ Φ (.int n) μ2) (fun _ _ _ => False)
def rBoO (C : Addr) (d : DSpec) (ra : DA) : DE := fun ρ xw μ Φ => ra ρ xw μ fun ts μ1 => ∃ (t : T) (fs : List (PySem.Str × T)), ts = [t] ∧ view μ1 t = .obj C fs ∧ CallD d [t] μ1 (fun τ μ2 => ∃ n : Nat, τ = .int n ∧ n ≤ 1000000 ∧ Φ (.bl ((n : Int) != 0)) μ2) (fun _ _ _ => False)
def rStO (C : Addr) (d : DSpec) (ra : DA) : DE := fun ρ xw μ Φ => ra ρ xw μ fun ts μ1 => ∃ (t : T) (fs : List (PySem.Str × T)), ts = [t] ∧ view μ1 t = .obj C fs ∧ CallD d [t] μ1 (fun τ μ2 => ∃ z : PySem.Str, τ = .str z ∧ Φ (.str z) μ2) (fun _ _ _ => False)
instance sim_lnO {C : Addr} {d : DSpec} {t : TA} {ra} [a : SimA K E t ra] : SimE K E (tCB (rDunL C (liftSp K 1 d)) t) (rLnO C d ra) := ⟨fun x s k h q => a.run x s k h fun l1 x1 d1 h1 => by
  obtain ⟨u, fs, rfl, e, h1⟩ := h1
  obtain ⟨v, rfl, d0⟩ := one_dv d1
  obtain ⟨p, dx, vs, rfl, e3, d3, c⟩ := view_obj x1 d0 e
  exact ⟨p, dx, vs, rfl, e3, call_sim x1 (.cons d0 .nil) rfl (@xl_none K _ _) h1 fun l2 x2 d2 h2 => by
    obtain ⟨n, rfl, hn, h2⟩ := h2
    exact ⟨n, d2.int, by rw [sizeLine_eq]; omega, q (l1.trans l2) x2 (.of (.int _)) h2⟩⟩⟩
instance sim_boO {C : Addr} {d : DSpec} {t : TA} {ra} [a : SimA K E t ra] : SimE K E (tCB (rDunB C (liftSp K 1 d)) t) (rBoO C d ra) := ⟨fun x s k h q => a.run x s k h fun l1 x1 d1 h1 => by
  obtain ⟨u, fs, rfl, e, h1⟩ := h1
  obtain ⟨v, rfl, d0⟩ := one_dv d1
  obtain ⟨p, dx, vs, rfl, e3, d3, c⟩ := view_obj x1 d0 e
  exact ⟨p, dx, vs, rfl, e3, call_sim x1 (.cons d0 .nil) rfl (@xl_none K _ _) h1 fun l2 x2 d2 h2 => by
    obtain ⟨n, rfl, hn, h2⟩ := h2
    exact ⟨n, d2.int, by rw [sizeLine_eq]; omega, q (l1.trans l2) x2 (.of (.bl _)) h2⟩⟩⟩
instance sim_stO {C : Addr} {d : DSpec} {t : TA} {ra} [a : SimA K E t ra] : SimE K E (tCB (rDunS C (liftSp K 1 d)) t) (rStO C d ra) := ⟨fun x s k h q => a.run x s k h fun l1 x1 d1 h1 => by
  obtain ⟨u, fs, rfl, e, h1⟩ := h1
  obtain ⟨v, rfl, d0⟩ := one_dv d1
  obtain ⟨p, dx, vs, rfl, e3, d3, c⟩ := view_obj x1 d0 e
  exact ⟨p, dx, vs, rfl, e3, call_sim x1 (.cons d0 .nil) rfl (@xl_none K _ _) h1 fun l2 x2 d2 h2 => by
    obtain ⟨z, rfl, h2⟩ := h2
    exact ⟨z, d2.str.1, q (l1.trans l2) x2 (.of (.str d2.str.2)) h2⟩⟩⟩
end Dl
namespace Gd
open PySem PySem.Spec PyProof.Rows L2
variable {P : Program} {w : World} {K : PySem.W.Frag} {mg : PySem.Str → Option Value} {base : Heap}
/-- a def that makes lambdas, where no repr is under way -/
theorem FunD.okLG {x : PySem.Str} {params : Arguments} {body : List Stmt} {scope : Scope} {dvs : List V} {kws : List (PySem.Str × V)} {f c P1 : Addr} {fd : FuncData} {N ps : List PySem.Str} {k : Nat} {sp : Sp} (F : FunD K x x params body scope dvs kws f fd) (g : PySem.W.nsIn K mainGlobals x = some (some (.ref f)))
    (tb : PySem.W.tabIn K x = some (c, P1)) (S : FnScope N ps scope) (len : ∀ vs H Q E, sp vs H Q E → vs.length = ps.length)
    (hbody : ∀ (A : Around) (out : List Env) (s : Shared) (H : Hp) (vs : List V) (Q : VK) (E : XK), A.guards = some [] → Room k (A.deeper (envOfC x scope s.heap.objs.size f (.ref c))) → sp vs H Q E →
      ∃ t, PSs (cxOf CX0 P w K mg base N x scope f (.ref c) A out s H E).nox body t ∧ t { nx := fun _ H' => Q .non H', rt := Q } (L2.start N vs) H) : FnG P w K mg base (k + 1) f fd ps sp := by
  obtain ⟨oc, od, dV, kV, doc, pm, an, ct, osl, rfl, lk, hcd⟩ := FunD.code F g tb
  refine ⟨fun h => len _ _ _ _ h, ?_⟩
  intro A out s H ar us vs Q E hA room e0 bnd rel pr
  obtain ⟨t, bodyp, start'⟩ := hbody A out s H vs Q E hA (room.deeper _) pr
  have inK : K.In s.heap := e0.mod.kin.keeps (fun b o q => (e0.bs b o q).1)
  have nolim : s.heap.NoLimit := e0.mod.nolimit.keeps (fun b o q => (e0.bs b o q).1)
  refine codeAny_call_function room.depth (inK _ _ lk) rfl S.co S.gen rfl (PySem.W.codeRec_of inK hcd) (bnd _ _ _ _ ?_)
  have kinds : ∀ y ∈ ps.zip us, scope.names.lookup y.1 = some .local ∨ (scope.names.lookup y.1 = some .cell ∧ ((cellsFrom (s.heap.objs.size + 1) scope.names []).lookup y.1).isSome = true) := by
    rintro ⟨nm, val⟩ hy
    have m := (List.of_mem_zip hy).1
    exact (S.par nm m).imp id fun q => ⟨q, PySem.W.cellsFrom_some _ _ _ (.inl q)⟩
  refine wpAny_newFunctionEnv_cells S.kind kinds ?_
  rintro env rfl s1 made
  refine ⟨nolim.keeps made.toInCall.keep, codeAny_func ?_⟩
  have inv0 := inv_start (CX := CX0) (mg := mg) (qual := x) (cd := .ref c) (E := E) S room.hd e0 (len _ _ _ _ pr) rel made
  refine wpAny_mono ((bodyp.nox).run [] s1 (L2.start N vs) H _ inv0 start') ?_ fun e s' z => z
  intro fl s' z
  match fl, z with
  | .ret u, ⟨v, σ', H', J, rv, q⟩ => exact ⟨v, H', J.os, J.bare, J.base, J.hok, rv, q⟩
  | .next, ⟨σ', H', J, q⟩ => exact ⟨.non, H', J.os, J.bare, J.base, J.hok, rfl, q⟩
  | .brk, ⟨_, _, _, q⟩ => exact False.elim q
  | .cont, ⟨_, _, _, q⟩ => exact False.elim q
end Gd

set_option maxRecDepth 100000
set_option maxHeartbeats 4000000
namespace Dl
open PySem PySem.Spec PyProof.Rows L2 Gd
variable {K : PySem.W.Frag} {E : XK}
/-! ### a list many times -/
theorem rep_dn {B : Hp} {xs : List V} {l : List T} (d : DnAll K B xs l) : ∀ n : Nat, DnAll K B (List.replicate n xs).flatten (List.replicate n l).flatten
  | 0 => .nil
  | n + 1 => by
    rw [List.replicate_succ, List.replicate_succ, List.flatten_cons, List.flatten_cons]
    exact d.append (rep_dn d n)
def dRepL : Mu → T → T → (List T → Prop) → Prop := fun μ a b Ψ => match b with
  | .int k => ∃ l, view μ a = .lst l ∧ 0 ≤ k ∧ k ≤ 1000000 ∧ l.length * k.toNat ≤ 1000000 ∧ Ψ (List.replicate k.toNat l).flatten
  | _ => False
instance sim_repL : SimOpL K rRep dRepL := ⟨fun {W H μ x y tx ty Ψ Q} o dx dy h q => by
  unfold dRepL at h
  split at h
  · rename_i k
    obtain ⟨l, e1, k0, k1, z, h⟩ := h
    obtain ⟨p, xs, rfl, s1, d1⟩ := view_lst o dx e1
    cases dy.int
    refine ⟨p, k, xs, rfl, rfl, s1, by omega, by omega, by rw [d1.length]; exact line1 z, fun p3 f => ?_⟩
    obtain ⟨x2, fr⟩ := Fr.new o f (rep_dn d1 k.toNat)
    exact q x2 fr h
  · exact h.elim⟩
end Dl
namespace Gd
open PySem PySem.Spec PyProof.Rows L2
/-! ### {t: v}, t a tuple of ints and texts: a dict of which no more is known -/
def isDict (p : Addr) (hp : Heap) : Prop := ∃ o : Obj, hp.get? p = some o ∧ o.cls = .type "dict"
def tDispT (K : PySem.W.Frag) (tk tv : TE) : TE := fun σ H Q => ∀ p, H p = none → tk σ (upd H p (.dT [])) fun x H1 => tv σ H1 fun _ H2 => H2 p = some (.dT []) ∧ ∃ (b : Addr) (ks : List Key), x = .ref b ∧ SqT K H2 b (ks.map kV) ∧ Q (.ref p) (upd H2 p (.ext (isDict p)))
theorem pe_dispT {X : Cx} {pos : Pos} {k v : Expr} {tk tv : TE} (hk : PE X k tk) (hv : PE X v tv) (hu : X.A.units + 1 < cLine) : PE X (.Dict [some k] [v] pos) (tDispT X.K tk tv) := by
  refine ⟨fun pins s σ H Q I q => ?_⟩
  have hn := I.hok.fresh (Nat.le_refl s.heap.objs.size)
  have I1 := I.laid (a := s.heap.objs.size) (o := .dT []) (h' := s.heap.push { cls := .type "dict", data := .dict #[] }) (t' := s.toks) (fun _ _ q => Heap.get?_push_of_some _ q) (Nat.le_refl _) (dt_empty s.heap I.big)
  rw [arm_eval_Dict, zip_pairTrees [some k] [v] X.env pos rfl rfl, dictDisplay_pairs _ (by simp [pairTrees]) (by simp [pairTrees])]
  refine wpAny_bind (wpAny_standAt (wpAny_bind ?_))
  unfold subDict
  refine wpAny_bind (wpAny_alloc ?_)
  refine wpAny_bind (wpAny_holding ?_)
  rw [if_pos (by simp [pairTrees])]
  refine wpAny_bind (pairTrees_cons_walk (thn (hk.run pins _ σ _ _ I1 (q _ hn)) fun u s1 z1 => ?_))
  obtain ⟨x, H1, I2, rx, q1⟩ := z1
  refine thn (hv.run pins s1 σ H1 _ I2 q1) fun u2 s2 z2 => ?_
  obtain ⟨y, H2, I3, ry, e, b, ks, rfl, sq, q2⟩ := z2
  refine pairTrees_nil_walk ?_
  obtain rfl : u = Value.ref b := rx
  refine wpAny_holding ?_
  rw [List.forIn_cons]
  obtain ⟨its, rv, ⟨o, ho, hc, n, hd⟩, _⟩ := I3.tuple sq
  obtain ⟨z, hdd, xs, rel, dd⟩ := dt_of I3.hok e
  cases rel
  refine wpAny_bind (wpAny_bind (wpAny_bind (wpAny_dictSet_heap (knd := tupleKind (mixKind X.prog X.w)) (k := ks) (hsz := Nat.zero_le _) (show X.A.units < cLine by omega) ⟨o, its.toArray, n, ho, hc, hd, by simpa using items_are rv⟩ dd fun h' dd' hs => wpAny_pure ?_)))
  show wpAny _ _ (forIn [] PUnit.unit _) _ _ _
  rw [List.forIn_nil]
  refine wpAny_pure (wpAny_pure (wpAny_pure (wpAny_pure ?_)))
  obtain ⟨o2, es, ep, ho2, ec2, _⟩ := dd'
  have hcls : o2.cls = .type "dict" := ec2.1
  refine ⟨.ref s.heap.objs.size, upd H2 s.heap.objs.size (.ext (isDict s.heap.objs.size)), d_write I3 (by rw [e]; exact True.intro) hs ⟨o2, ho2⟩ ⟨⟨o2, ho2, hcls⟩, ⟨o2, ho2⟩, fun h1 h2 p k => ?_⟩, rfl, q2⟩
  obtain ⟨o3, a, b3⟩ := p
  exact ⟨o3, k _ a, b3⟩
end Gd
namespace Dl
open PySem PySem.Spec PyProof.Rows L2 Gd
variable {K : PySem.W.Frag} {E : XK}
def keyT : T → Option Key
  | .int i => some (.inl i)
  | .str z => some (.inr z)
  | _ => none
def keysT : List T → Option (List Key)
  | [] => some []
  | t :: r => (keyT t).bind fun k => (keysT r).map (k :: ·)
theorem keys_dn {B : Hp} : ∀ {l : List T} {xs : List V} {ks : List Key}, DnAll K B xs l → keysT l = some ks → xs = ks.map kV
  | [], _, _, .nil, e => by cases e; rfl
  | t :: r, _, _, .cons (v := v) d a, e => by
    simp only [keysT, Option.bind_eq_some_iff, Option.map_eq_some_iff] at e
    obtain ⟨k, ek, ks, er, rfl⟩ := e
    rw [keys_dn a er]
    cases t with
    | int i => cases ek; cases d; rfl
    | str z => cases ek; cases d; rfl
    | _ => cases ek
def rDispT (i : Nat) (d : Mu → T → T → (T → Prop) → Prop) (j : Int) : DE := fun ρ _ μ Φ => match ρ[i]? with
  | some (some t) => d μ t (.int j) fun τ => ∃ l ks, τ = .tup l ∧ keysT l = some ks ∧ ∀ a, Φ (.dct a) μ
  | _ => False
instance sim_dispT {i : Nat} {j : Int} {r : R2} {c : V} {d} [op : SimOp K r d] : SimE K E (tDispT K (tOp r (tVar i) (tC (.int j))) (tC c)) (rDispT i d j) := ⟨fun {W H σ ρ μ xw Φ Q} o s n h q p f => by
  unfold rDispT at h
  split at h
  · rename_i t et
    obtain ⟨v, ev, dv⟩ := s.2 i t et
    have g1 := Grow.side o.sb (.dT []) f
    have o1 := g1.ok o
    refine ⟨v, ev, ?_⟩
    refine op.run o1 (dv.mono (g1.le o)) (ty := .int j) (.of (.int j)) h fun {v2 τ W' H'} g d2 h2 => ?_
    obtain ⟨l, ks, rfl, ek, h2⟩ := h2
    have nw : W.B p = none := by
      cases z : W.B p with
      | none => rfl
      | some u => rw [o.sb _ _ z] at f; cases f
    cases (show Dn K W'.B v2 (.tup l) from d2) with
    | @tup b xs _ e da =>
      refine ⟨g.h _ _ upd_same, b, ks, rfl, ?_, ?_⟩
      · rw [← keys_dn da ek]
        exact sqT_mono g.bh e
      · have gg : Grow W H { W' with B := upd W'.B p (.ext (isDict p)) } (upd H' p (.ext (isDict p))) := by
          refine ⟨g.g, g.ad, g.own, fun a u e => ?_, fun a u e => ?_, fun a u e => ?_, fun a u e => ?_, g.t, fun a u e => ?_⟩
          · by_cases z : a = p
            · subst z; rw [nw] at e; cases e
            · show upd W'.B p _ a = _
              rw [upd_ne z]; exact g.b _ _ e
          · by_cases z : a = p
            · subst z; rw [f] at e; cases e
            · rw [upd_ne z]; exact g.h _ _ (by rw [upd_ne z]; exact e)
          · by_cases z : a = p
            · subst z
              have e : upd W'.B a (.ext (isDict a)) a = some u := e
              rw [upd_same] at e ⊢
              exact e
            · have e : upd W'.B p (.ext (isDict p)) a = some u := e
              rw [upd_ne z] at e ⊢
              exact g.bh _ _ e
          · by_cases z : a = p
            · subst z; exact .inr f
            · have e : upd W'.B p (.ext (isDict p)) a = some u := e
              rw [upd_ne z] at e
              exact (g.nb _ _ e).imp id fun e => by rw [upd_ne z] at e; exact e
          · by_cases z : a = p
            · subst z
              have e : upd W'.B a (.ext (isDict a)) a = some u := e
              rw [upd_same] at e
              cases e
              exact .inr fun ps z => by cases z
            · have e : upd W'.B p (.ext (isDict p)) a = some u := e
              rw [upd_ne z] at e
              exact g.bt _ _ e
        exact q (gg.le o) (gg.ok o) (.of (.dct upd_same fun hp z => z)) (h2 p)
  · exact h.elim⟩
/-- just two things that may be changed, and data -/
theorem callR2 {α : Type} {d : List T → Mu → (α → Mu → Prop) → XW → Prop} {k1 k2 : Nat} {t : T} {μ : Mu} {r1 r2 : Res} {Φ : α → Mu → Prop} {xw : XW} (ne : k1 ≠ k2) (e1 : μ[k1]? = some r1) (e2 : μ[k2]? = some r2) (h : t.flat = true) (q : d [.rs 0, t, .rs 1] [r1, r2] (fun τ μc => Φ τ (mput μ [k1, k2] μc)) (fun C fs μc => xw C fs (mput μ [k1, k2] μc))) : CallD d [.rs k1, t, .rs k2] μ Φ xw :=
  ⟨[k1, k2], [.rs 0, t, .rs 1], [r1, r2], (by simp [ne]), .cons (.rs rfl) (.cons (.fl h) (.cons (.rs rfl) .nil)), by simp [mget, e1, e2], q⟩
/-- C(.., k=..), what may be refused -/
def rMakeN (C : Addr) (n m k : Nat) (d : DSpec) (perm : List Nat) (τs : List T) (K : PySem.W.Frag) (ra rk : DA) : DE := fun ρ xw μ Φ => ra ρ xw μ fun ts μ1 => rk ρ xw μ1 fun ss μ' => ts.length = n ∧ ss.length = m ∧ COk K C [] ∧ (pick perm ((.rs μ'.length :: ts) ++ (τs ++ ss))).length = k ∧
  CallD d (pick perm ((.rs μ'.length :: ts) ++ (τs ++ ss))) (μ' ++ [.obj C []]) (fun τ μ2 => τ = .non ∧ μ2.length = μ'.length + 1 ∧ ∃ fs, μ2[μ'.length]? = some (.obj C fs) ∧ Φ (.obj C fs) (μ2.take μ'.length)) (fun C2 fs μ2 => xw C2 fs (μ2.set μ'.length .gone))
instance sim_makeN {C : Addr} {n m k : Nat} {d : DSpec} {perm : List Nat} {dvs : List V} {t tk : TA} {ra rk τs} [a : SimA K E t ra] [b : SimA K E tk rk] [z : SimD K dvs τs] : SimE K E (tMakeN C n m (liftSp K k d) (fun vs zs => pick perm (vs ++ (dvs ++ zs))) E t tk) (rMakeN C n m k d perm τs K ra rk) := ⟨fun {W H σ ρ μ xw Φ Q} x s kx h q => a.run x s kx h fun {vs ts W0 H0 μ0} l0 x0 d0 h0 => b.run x0 (s.mono l0) (kx.mono l0) h0 fun {zs ss W1 H1 μ1} l1 x1 d1 h1 => by
  obtain ⟨ln, lm, c, lk, h1⟩ := h1
  refine ⟨by rw [d0.length]; exact ln, by rw [d1.length]; exact lm, fun ad dx fx fd ne => ?_⟩
  obtain ⟨W2, l2, x2, e2⟩ := x1.make fx fd ne c
  refine call_sim x2 (pick_dv (DvAll.app (.cons (show Dv K W2 (.ref ad) (.rs μ1.length) from ⟨ad, e2, rfl⟩) ((d0.mono l1).mono l2)) ((z.all _).app (d1.mono l2))) perm) lk (fun {C2 d2 fs τs2 W' H' μ'} l o e df h => kx (((l0.trans l1).trans l2).trans l) o.gone e df h) h1 (fun {v τ W' H' μ'} l o dv h => ?_)
  obtain ⟨rfl, len, fs, e3, h⟩ := h
  have em : μ' = μ'.take μ1.length ++ [.obj C fs] := by
    have : μ'.drop μ1.length = [.obj C fs] := by
      rw [List.drop_eq_getElem_cons (by omega), List.drop_eq_nil_of_le (by omega)]
      have := (List.getElem?_eq_some_iff.mp e3).2
      rw [this]
    rw [← this, List.take_append_drop]
  have tl : (μ'.take μ1.length).length = μ1.length := by rw [List.length_take]; omega
  rw [em] at o
  obtain ⟨W4, g4, b4, n4, a4, o4, dn, t4⟩ := o.done tl.symm (l.ad _ _ e2)
  refine ⟨dv.non, q (W' := W4) ((l0.trans l1).trans ⟨g4.trans (l.g.trans l2.g), (l2.b.trans l.b).trans b4, fun a u e => ?_, fun j p e => ?_, t4.trans (l.t.trans l2.t)⟩) o4 (.of dn) h⟩
  · rcases n4 a u e with e | e
    · exact (l2.trans l).nb a u e
    · exact .inr (by rw [← (l2.trans l).g]; exact e)
  · rw [a4, tl]
    have lt := (List.getElem?_eq_some_iff.mp e).1
    rw [x1.len] at lt
    rw [List.getElem?_take, if_pos lt]
    exact (l2.trans l).ad _ _ e⟩
end Dl

set_option maxRecDepth 100000
set_option maxHeartbeats 4000000
namespace Dl
open PySem PySem.Spec PyProof.Rows L2 Gd
variable {K : PySem.W.Frag} {E : XK}
/-! ### a list that may be changed is lent: the callee sees it as data, and its answer holds no list -/
mutual
inductive Nol : T → Prop
  | non : Nol .non
  | bl (b : Bool) : Nol (.bl b)
  | int (i : Int) : Nol (.int i)
  | str (z : PySem.Str) : Nol (.str z)
  | tup {l : List T} (h : NolAll l) : Nol (.tup l)
  | obj {C : Addr} {fs : List (PySem.Str × T)} (h : NolF fs) : Nol (.obj C fs)
inductive NolAll : List T → Prop
  | nil : NolAll []
  | cons {t : T} {l : List T} (h : Nol t) (r : NolAll l) : NolAll (t :: l)
inductive NolF : List (PySem.Str × T) → Prop
  | nil : NolF []
  | cons {f : PySem.Str} {t : T} {l : List (PySem.Str × T)} (h : Nol t) (r : NolF l) : NolF ((f, t) :: l)
end
theorem NolAll.of {l : List T} (h : ∀ t ∈ l, Nol t) : NolAll l := by
  induction l with
  | nil => exact .nil
  | cons t r ih => exact .cons (h t List.mem_cons_self) (ih fun u hu => h u (List.mem_cons_of_mem _ hu))
def wo (B : Hp) (p : Addr) : Hp := fun a => if a = p then none else B a
theorem wo_ne {B : Hp} {p a : Addr} (h : a ≠ p) : wo B p a = B a := if_neg h
theorem wo_sqT {B : Hp} {p a : Addr} {ys xs : List V} (hp : B p = some (.lst ys)) (h : SqT K B a xs) : SqT K (wo B p) a xs := by
  rcases h with h | h
  · rcases h with h | ⟨o, h⟩
    · have ne : a ≠ p := fun z => by subst z; rw [hp] at h; cases h
      exact .inl (.inl (by rw [wo_ne ne]; exact h))
    · have ne : a ≠ p := fun z => by subst z; rw [hp] at h; cases h
      exact .inl (.inr ⟨o, by rw [wo_ne ne]; exact h⟩)
  · exact .inr h
mutual
theorem Dn.wo {B : Hp} {p : Addr} {ys : List V} (hp : B p = some (.lst ys)) : ∀ {v : V} {t : T}, Dn K B v t → Nol t → Dn K (wo B p) v t
  | _, _, .non, _ => .non
  | _, _, .bl b, _ => .bl b
  | _, _, .int i, _ => .int i
  | _, _, .str t, _ => .str t
  | _, _, .tup e d, .tup h => .tup (wo_sqT hp e) (DnAll.wo hp d h)
  | _, _, .obj (a := a) e c d, .obj h => .obj (by
      have ne : a ≠ p := fun z => by subst z; rw [hp] at e; cases e
      rw [wo_ne ne]; exact e) c (DnF.wo hp d h)
theorem DnAll.wo {B : Hp} {p : Addr} {ys : List V} (hp : B p = some (.lst ys)) : ∀ {vs : List V} {ts : List T}, DnAll K B vs ts → NolAll ts → DnAll K (wo B p) vs ts
  | _, _, .nil, _ => .nil
  | _, _, .cons d r, .cons h k => .cons (Dn.wo hp d h) (DnAll.wo hp r k)
theorem DnF.wo {B : Hp} {p : Addr} {ys : List V} (hp : B p = some (.lst ys)) : ∀ {vs : List (PySem.Str × V)} {ts : List (PySem.Str × T)}, DnF K B vs ts → NolF ts → DnF K (wo B p) vs ts
  | _, _, .nil, _ => .nil
  | _, _, .cons d r, .cons h k => .cons (Dn.wo hp d h) (DnF.wo hp r k)
end
/-- the thing at k is told as the list that it is -/
inductive Rep (k : Nat) (l : List T) : List T → List T → Prop
  | nil : Rep k l [] []
  | rs {ts us : List T} (r : Rep k l ts us) : Rep k l (.rs k :: ts) (.lst l :: us)
  | fl {t : T} {ts us : List T} (h : t.flat = true) (r : Rep k l ts us) : Rep k l (t :: ts) (t :: us)
def tBor (t : TE) : TE := t
theorem pe_bor {X : Cx} {e : Expr} {t : TE} (h : PE X e t) : PE X e (tBor t) := h
def rBor (n : Nat) (d : DSpec) (τs : List T) (ra : DA) : DE := fun ρ xw μ Φ => ra ρ xw μ fun ts μ' => (ts ++ τs).length = n ∧ ∃ (k : Nat) (l us : List T), μ'[k]? = some (.lst l) ∧ Rep k l (ts ++ τs) us ∧ d us [] (fun τ _ => Nol τ ∧ Φ τ μ') (fun _ _ _ => False)
theorem Rep.len {k : Nat} {l : List T} : ∀ {ts us : List T}, Rep k l ts us → us.length = ts.length
  | _, _, .nil => rfl
  | _, _, .rs r => congrArg (· + 1) r.len
  | _, _, .fl _ r => congrArg (· + 1) r.len
theorem Dv.flat {W : Wd} {v : V} {t : T} (d : Dv K W v t) (h : t.flat = true) : Dn K W.B v t := by
  cases t with
  | rs k => cases h
  | _ => exact d
theorem rep_dv {W W2 : Wd} {k : Nat} {l : List T} {p : Addr} {xs : List V} (hk : W.ad[k]? = some p) (hb : Same W.B W2.B) (hp : W2.B p = some (.lst xs)) (hd : DnAll K W2.B xs l) : ∀ {vs : List V} {ts us : List T}, DvAll K W vs ts → Rep k l ts us → DvAll K W2 vs us
  | _, _, _, .nil, .nil => .nil
  | _, _, _, .cons d r, .fl h q => .cons (.of ((d.flat h).mono hb)) (rep_dv hk hb hp hd r q)
  | _, _, _, .cons d r, .rs q => by
    obtain ⟨p2, e, rfl⟩ := d
    rw [hk] at e
    cases e
    exact .cons (.of (.lst hp hd)) (rep_dv hk hb hp hd r q)
theorem bor_sim {n : Nat} {d : DSpec} {W : Wd} {H : Hp} {μ : Mu} {vs : List V} {ts us : List T} {k : Nat} {l : List T} {Φ : T → Mu → Prop} {Q : VK} (x : Ok K W H μ) (dv : DvAll K W vs ts) (ln : ts.length = n) (ek : μ[k]? = some (.lst l)) (rep : Rep k l ts us)
    (h : d us [] (fun τ _ => Nol τ ∧ Φ τ μ) (fun _ _ _ => False)) (q : ∀ {v τ W' H'}, W.Le W' → Ok K W' H' μ → Dv K W' v τ → Φ τ μ → Q v H') : liftSp K n d vs H Q E := by
  obtain ⟨p, e1, o, xs, eh, da⟩ := x.res k _ ek
  obtain ⟨b1, g1, h1, lt⟩ := x.lab p k o
  have cal := cal_ok (ks := []) (rs := []) x .nil rfl
  have same : Same W.B (upd W.B p (.lst xs)) := fun a u e => by
    by_cases z : a = p
    · subst z; rw [b1] at e; cases e
    · rw [upd_ne z]; exact e
  have ok2 : Ok K { W.cal H [] with B := upd W.B p (.lst xs) } H [] := by
    refine ⟨cal.sg, fun a u e => ?_, fun a i e => ?_, cal.len, fun j r e => (by cases e), cal.tb.wd rfl (fun a e => ?_) fun a e => .inl e⟩
    · by_cases z : a = p
      · subst z
        have e : upd W.B a (.lst xs) a = some u := e
        rw [upd_same] at e
        cases e
        exact eh
      · have e : upd W.B p (.lst xs) a = some u := e
        rw [upd_ne z] at e
        exact x.sb _ _ e
    · obtain ⟨j, ej, e2⟩ := Option.bind_eq_some_iff.mp (show (W.own a).bind (ixk []) = some i from e)
      simp [ixk] at e2
    · by_cases z : a = p
      · subst z
        exact .inr ⟨_, eh, nt_lst⟩
      · rcases e with e | e | e
        · exact .inl (.inl e)
        · refine .inl (.inr (.inl ?_))
          have e : upd W.B p (.lst xs) a ≠ none := e
          rw [upd_ne z] at e
          exact e
        · exact .inl (.inr (.inr e))
  refine ⟨by rw [dv.length]; exact ln, { W.cal H [] with B := upd W.B p (.lst xs) }, us, [], _, _, ok2, rep_dv (W2 := { W.cal H [] with B := upd W.B p (.lst xs) }) e1 same upd_same (da.mono same) dv rep, h, fun {C d fs τs W' H' μ'} _ _ _ _ z => z.elim, fun {v τ W' H' μ'} le o2 d2 h2 => ?_⟩
  obtain ⟨nl, h2⟩ := h2
  have hp : W'.B p = some (.lst xs) := le.b _ _ upd_same
  have le2 : (W.cal H []).Le { W' with B := wo W'.B p } := by
    refine ⟨le.g, fun a u e => ?_, fun a u e => ?_, le.ad, le.t⟩
    · have e : W.B a = some u := e
      have ne : a ≠ p := fun z => by subst z; rw [b1] at e; cases e
      show wo W'.B p a = some u
      rw [wo_ne ne]
      exact le.b _ _ (same _ _ e)
    · have e : wo W'.B p a = some u := e
      by_cases z : a = p
      · subst z
        unfold wo at e
        rw [if_pos rfl] at e
        cases e
      · rw [wo_ne z] at e
        refine (le.nb _ _ e).imp (fun e => ?_) id
        have e : upd W.B p (.lst xs) a = some u := e
        rw [upd_ne z] at e
        exact e
  have ok3 : Ok K { W' with B := wo W'.B p } H' (List.replicate μ'.length .gone) := by
    refine ⟨o2.sg, fun a u e => ?_, fun a i e => ?_, by rw [List.length_replicate]; exact o2.len, fun j r e => ?_, o2.tb.wd rfl (fun a e => ?_) fun a e => .inl e⟩
    · have e : wo W'.B p a = some u := e
      by_cases z : a = p
      · subst z
        unfold wo at e
        rw [if_pos rfl] at e
        cases e
      · rw [wo_ne z] at e
        exact o2.sb _ _ e
    · obtain ⟨a1, a2, a3, a4⟩ := o2.lab a i e
      refine ⟨?_, a2, a3, by rw [List.length_replicate]; exact a4⟩
      show wo W'.B p a = none
      unfold wo
      split
      · rfl
      · exact a1
    · obtain ⟨lt2, er⟩ := List.getElem?_eq_some_iff.mp e
      rw [List.getElem_replicate] at er
      subst er
      rw [List.length_replicate, ← o2.len] at lt2
      exact ⟨_, List.getElem?_eq_getElem lt2, trivial⟩
    · rcases e with e | e | e
      · exact .inl (.inl e)
      · refine .inl (.inr (.inl fun z => e ?_))
        show wo W'.B p a = none
        unfold wo
        split
        · rfl
        · exact z
      · exact .inl (.inr (.inr e))
  obtain ⟨c1, c2, c3⟩ := cal_bac x .nil rfl le2 ok3
  refine q c1 (by simpa [mput] using c2) (.of ?_) h2
  rw [c3]
  exact d2.wo hp nl
instance sim_bor {n : Nat} {d : DSpec} {dvs : List V} {E' : XK} {t : TA} {ra τs} [a : SimA K E t ra] [z : SimD K dvs τs] : SimE K E (tBor (tCall (liftSp K n d) dvs E' t)) (rBor n d τs ra) := ⟨fun x s k h q => a.run x s k h fun l1 x1 d1 h1 => by
  obtain ⟨ln, kk, l, us, ek, rep, h1⟩ := h1
  exact bor_sim x1 (d1.app (z.all _)) ln ek rep h1 fun l2 x2 d2 h2 => q (l1.trans l2) x2 d2 h2⟩
end Dl
namespace Gd
open PySem PySem.Spec PyProof.Rows L2
theorem mtR_reverse {X : Cx} : MtR X "list.reverse" rReverse := mt_reverse
theorem mtR_clear {X : Cx} : MtR X "list.clear" rClear := mt_clear
end Gd
namespace Gd
open PySem PySem.Spec PyProof.Rows L2
theorem pe_dispTK {K : PySem.W.Frag} {X : Cx} {pos : Pos} {k v : Expr} {tk tv : TE} (h : X.K = K) (hk : PE X k tk) (hv : PE X v tv) (hu : X.A.units + 1 < cLine) : PE X (.Dict [some k] [v] pos) (tDispT K tk tv) := by
  subst h
  exact pe_dispT hk hv hu
end Gd

set_option maxRecDepth 100000
set_option maxHeartbeats 4000000
namespace Dl
open PySem PySem.Spec PyProof.Rows L2 Gd
variable {K : PySem.W.Frag} {E : XK}
/-! ### x is True, x is False -/
def rIsB : R2 := fun x y H Q => ∃ b, y = .bl b ∧ Q (.bl (decide (x = .bl b))) H
theorem op_isB {X : Cx} : OpR X (compareOp .Is) rIsB := by
  intro pins s σ H x y v u Q I rx ry h
  obtain ⟨b, rfl, q⟩ := h
  cases ry
  cases x with
  | non => cases rx; exact wpAny_pure ⟨.bl false, H, I, rfl, by simpa using q⟩
  | bl c =>
    cases rx
    refine wpAny_pure ⟨.bl (decide (V.bl c = V.bl b)), H, I, ?_, q⟩
    cases c <;> cases b <;> rfl
  | int i => obtain ⟨t, rfl⟩ := rx; exact wpAny_pure ⟨.bl false, H, I, rfl, by simpa using q⟩
  | str z => obtain ⟨t, rfl⟩ := rx; exact wpAny_pure ⟨.bl false, H, I, rfl, by simpa using q⟩
  | ref a => cases rx; exact wpAny_pure ⟨.bl false, H, I, rfl, by simpa using q⟩
  | ty n => cases rx; exact wpAny_pure ⟨.bl false, H, I, rfl, by simpa using q⟩
  | byt z => obtain ⟨t, rfl⟩ := rx; exact wpAny_pure ⟨.bl false, H, I, rfl, by simpa using q⟩
  | flt z => obtain ⟨t, rfl⟩ := rx; exact wpAny_pure ⟨.bl false, H, I, rfl, by simpa using q⟩
def isB (b : Bool) : T → Bool
  | .bl c => c == b
  | _ => false
/-- a truth, or nothing of that kind -/
def dIsB : Mu → T → T → (T → Prop) → Prop := fun _ a b Ψ => match b with
  | .bl c => (∀ x t, a ≠ .pin x t) ∧ Ψ (.bl (isB c a))
  | _ => False
instance sim_isB : SimOp K rIsB dIsB := ⟨fun {W H μ x y tx ty Ψ Q} o dx dy h q => by
  unfold dIsB at h
  split at h
  · rename_i c
    cases dy.bl
    obtain ⟨np, h⟩ := h
    refine ⟨c, rfl, q (Grow.refl o.sb) (.of (.bl _)) ?_⟩
    have e : decide (x = V.bl c) = isB c tx := by
      rcases dx.dn with ⟨k, p, rfl, _, rfl⟩ | d
      · simp [isB]
      · cases d with
        | bl b => cases b <;> cases c <;> simp [isB]
        | pin d => exact absurd rfl (np _ _)
        | _ => simp [isB]
    rw [e]
    exact h
  · exact h.elim⟩
end Dl
namespace Dl
open PySem PySem.Spec PyProof.Rows L2 Gd
variable {K : PySem.W.Frag} {E : XK}
def rGlst (n : Nat) (rs : DGs) : DG := fun t ρ xw μ Ψ => match view μ t with
  | .lst l => l.length = n ∧ rs l ρ xw μ Ψ
  | _ => False
instance sim_glst {m : Nat} {gs : TGs} {vs rs} [b : SimGs K E gs vs rs] : SimG K E (gLst K m gs) vs (rGlst m rs) := ⟨fun {W H σ ρ μ xw v t Ψ Q} o s n d h q => by
  unfold rGlst at h
  split at h
  · rename_i l e
    obtain ⟨p, xs, rfl, sq, da⟩ := view_lst o d e
    exact ⟨p, xs, rfl, SqL.of sq, by rw [da.length]; exact h.1, b.run o s n da h.2 q⟩
  · exact h.elim⟩
end Dl
namespace L2
open PySem PySem.Spec PyProof.Rows Gd
variable {X : Cx} {K : PySem.W.Frag}
theorem pgLK (h : X.K = K) {pos : Pos} {es : List Expr} {k : Nat} {t : TGs} {n : Nat} (hc : X.calm = true) (hh : PGs X es t)
    (hn : (assignEach es X.env).length = n := by rfl) (hst : (assignEach es X.env).findIdx? (·.1) = none := by rfl) : PG X (.Tuple es k pos) (gLst K n t) := by
  subst h
  exact pg_lst hc hh hn hst
end L2
namespace Dl
open PySem PySem.Spec PyProof.Rows L2 Gd
variable {K : PySem.W.Frag} {E : XK}
/-- C(.., k=..), what is never refused -/
def rMakeN0 (C : Addr) (n m k : Nat) (d : DSpec) (perm : List Nat) (τs : List T) (K : PySem.W.Frag) (ra rk : DA) : DE := fun ρ xw μ Φ => ra ρ xw μ fun ts μ1 => rk ρ xw μ1 fun ss μ' => ts.length = n ∧ ss.length = m ∧ COk K C [] ∧ (pick perm ((.rs μ'.length :: ts) ++ (τs ++ ss))).length = k ∧
  CallD d (pick perm ((.rs μ'.length :: ts) ++ (τs ++ ss))) (μ' ++ [.obj C []]) (fun τ μ2 => τ = .non ∧ μ2.length = μ'.length + 1 ∧ ∃ fs, μ2[μ'.length]? = some (.obj C fs) ∧ Φ (.obj C fs) (μ2.take μ'.length)) (fun _ _ _ => False)
instance (priority := 500) sim_makeN0 {C : Addr} {n m k : Nat} {d : DSpec} {perm : List Nat} {dvs : List V} {t tk : TA} {ra rk τs} [a : SimA K E t ra] [b : SimA K E tk rk] [z : SimD K dvs τs] : SimE K E (tMakeN C n m (liftSp K k d) (fun vs zs => pick perm (vs ++ (dvs ++ zs))) (fun _ _ _ => False) t tk) (rMakeN0 C n m k d perm τs K ra rk) := ⟨fun {W H σ ρ μ xw Φ Q} x s kx h q => a.run x s kx h fun {vs ts W0 H0 μ0} l0 x0 d0 h0 => b.run x0 (s.mono l0) (kx.mono l0) h0 fun {zs ss W1 H1 μ1} l1 x1 d1 h1 => by
  obtain ⟨ln, lm, c, lk, h1⟩ := h1
  refine ⟨by rw [d0.length]; exact ln, by rw [d1.length]; exact lm, fun ad dx fx fd ne => ?_⟩
  obtain ⟨W2, l2, x2, e2⟩ := x1.make fx fd ne c
  refine call_sim x2 (pick_dv (DvAll.app (.cons (show Dv K W2 (.ref ad) (.rs μ1.length) from ⟨ad, e2, rfl⟩) ((d0.mono l1).mono l2)) ((z.all _).app (d1.mono l2))) perm) lk (@xl_none K _ _) h1 (fun {v τ W' H' μ'} l o dv h => ?_)
  obtain ⟨rfl, len, fs, e3, h⟩ := h
  have em : μ' = μ'.take μ1.length ++ [.obj C fs] := by
    have : μ'.drop μ1.length = [.obj C fs] := by
      rw [List.drop_eq_getElem_cons (by omega), List.drop_eq_nil_of_le (by omega)]
      have := (List.getElem?_eq_some_iff.mp e3).2
      rw [this]
    rw [← this, List.take_append_drop]
  have tl : (μ'.take μ1.length).length = μ1.length := by rw [List.length_take]; omega
  rw [em] at o
  obtain ⟨W4, g4, b4, n4, a4, o4, dn, t4⟩ := o.done tl.symm (l.ad _ _ e2)
  refine ⟨dv.non, q (W' := W4) ((l0.trans l1).trans ⟨g4.trans (l.g.trans l2.g), (l2.b.trans l.b).trans b4, fun a u e => ?_, fun j p e => ?_, t4.trans (l.t.trans l2.t)⟩) o4 (.of dn) h⟩
  · rcases n4 a u e with e | e
    · exact (l2.trans l).nb a u e
    · exact .inr (by rw [← (l2.trans l).g]; exact e)
  · rw [a4, tl]
    have lt := (List.getElem?_eq_some_iff.mp e).1
    rw [x1.len] at lt
    rw [List.getElem?_take, if_pos lt]
    exact (l2.trans l).ad _ _ e⟩
end Dl

set_option maxRecDepth 100000
set_option maxHeartbeats 4000000
namespace Gd
open PySem PySem.Spec PyProof.Rows L2
open AutoSeq1 (wpAny_loadPart')
open MeetsSeq MeetsSeq2 MeetsSeq3 SeqRoads2
/-! ### == and != by an own class's __eq__ -/
theorem looks_tyis {M : Model} {s : Shared} {u : Value} {n : String} (h : s.TypeIs u n) : PySem.W.Looks M s.heap (typeOf u) (.type n) := by
  cases u with
  | ref a =>
    obtain ⟨o, ho, hc⟩ := h
    exact fun A Q E s1 k q => wpAny_typeOf_ref (k _ _ ho) (by rw [hc]; exact q)
  | _ => exact PySem.W.Looks.of_pure h
/-- of this built-in type -/
def TyD (K : PySem.W.Frag) (H : Hp) (y : V) (n : String) : Prop := TyB K H y n ∨ (n = "dict" ∧ ∃ (p : Addr) (φ : Heap → Prop), y = .ref p ∧ H p = some (.ext φ) ∧ ∀ hp : Heap, φ hp → ∃ o : Obj, hp.get? p = some o ∧ o.cls = .type "dict")
/-- what == asks of an own class -/
structure EqO (K : PySem.W.Frag) (C f : Addr) : Prop where
  eq : Meth K C "__eq__" f
  ne : PySem.W.findIn K (.ref C) "__ne__" = some (some (.builtin "object.__ne__"))
  ob : PySem.W.mroIn K C (.type "object") = some true
  n0 : PySem.W.mroIn K C (.type "NoneType") = some false
  n1 : PySem.W.mroIn K C (.type "bool") = some false
  n2 : PySem.W.mroIn K C (.type "int") = some false
  n3 : PySem.W.mroIn K C (.type "str") = some false
  n4 : PySem.W.mroIn K C (.type "list") = some false
  n5 : PySem.W.mroIn K C (.type "tuple") = some false
  n6 : PySem.W.mroIn K C (.type "dict") = some false
section
variable {X : Cx} {k : Nat} {C f a dx : Addr} {fd : FuncData} {sp : Sp} {pins : List (Addr × Obj)} {σ : L2.St} {H : Hp} {s : Shared} {fs : List (PySem.Str × V)} {A : Around} {E : Value → Shared → Prop} {y : V} {u : Value} {n : String}
theorem TyD.is (I : Inv X pins σ H s) (ry : RelV y u) (t : TyD X.K H y n) : s.TypeIs u n := by
  rcases t with t | ⟨rfl, p, φ, rfl, e, k⟩
  · exact t.is I ry
  · obtain rfl : u = Value.ref p := ry
    obtain ⟨q, _, _⟩ := (show ObjOk X.prog X.w H s.heap p (.ext φ) from I.hok p _ e)
    obtain ⟨o, eo, ec⟩ := k _ q
    exact ⟨o, eo, ec⟩
def SevenT (n : String) : Prop := n = "NoneType" ∨ n = "bool" ∨ n = "int" ∨ n = "str" ∨ n = "list" ∨ n = "tuple" ∨ n = "dict"
theorem nf_ty {K : PySem.W.Frag} (t : SevenT n) : PySem.W.notFirst K C (.type n) = true := by
  refine Bool.or_eq_true_iff.mpr (.inr ?_)
  show ((fastBuiltinMro n).map (·.contains (.ref C)) == some false) = true
  rcases t with rfl | rfl | rfl | rfl | rfl | rfl | rfl
  · rw [show fastBuiltinMro "NoneType" = some [.type "NoneType", .type "object"] from by decide +kernel]; first | rfl | simp
  · rw [show fastBuiltinMro "bool" = some [.type "bool", .type "int", .type "object"] from by decide +kernel]; first | rfl | simp
  · rw [show fastBuiltinMro "int" = some [.type "int", .type "object"] from by decide +kernel]; first | rfl | simp
  · rw [show fastBuiltinMro "str" = some [.type "str", .type "object"] from by decide +kernel]; first | rfl | simp
  · rw [show fastBuiltinMro "list" = some [.type "list", .type "object"] from by decide +kernel]; first | rfl | simp
  · rw [show fastBuiltinMro "tuple" = some [.type "tuple", .type "object"] from by decide +kernel]; first | rfl | simp
  · rw [show fastBuiltinMro "dict" = some [.type "dict", .type "object"] from by decide +kernel]; first | rfl | simp
theorem EqO.no (O : EqO X.K C f) (t : SevenT n) : PySem.W.mroIn X.K C (.type n) = some false := by
  rcases t with rfl | rfl | rfl | rfl | rfl | rfl | rfl
  · exact O.n0
  · exact O.n1
  · exact O.n2
  · exact O.n3
  · exact O.n4
  · exact O.n5
  · exact O.n6
/-- what an own == answers -/
def BlQ (Q : Bool → Hp → Prop) : VK := fun v H1 => ∃ r, v = .bl r ∧ Q r H1
theorem run_own2 {Q : VK} (fr : A.frames = X.A.frames) (F : FnOk X.prog X.w X.K X.mg X.base CX0 k f fd ["self", "other"] sp) (hr : Room k A) (b : Binds X.K fd ["self", "other"] []) (I : Inv X pins σ H s) (ry : RelV y u) (pr : sp [.ref a, y] H Q (fun _ _ _ => False)) {R : Value → Shared → Prop}
    (q : ∀ u s', (∃ v H1, Inv X pins σ H1 s' ∧ RelV v u ∧ Q v H1) → R u s') : wpAny (model X.prog X.w) A (call (.ref f) [.ref a, u]) R E s := by
  refine wpAny_call (codeAny_mono (F.run A X.stack s H ⟨[.ref a, u], []⟩ [.ref a, u] [.ref a, y] _ _ hr ⟨fr.trans I.env0.frames, I.env0.mod, I.env0.bs, I.env0.bsz, I.env0.funs, I.env0.frf, I.env0.hok, I.env0.bare⟩ (b s [.ref a, u] I.kIn rfl) (.cons rfl (.cons ry .nil)) pr) fun res s' hq => ?_)
  obtain ⟨u, rfl, ce⟩ := cr_out hq
  obtain ⟨v, H1, I1, rv, q1⟩ := I.after ce
  exact q u s' ⟨v, H1, I1, rv, q1⟩
theorem call_ownB {Q : Bool → Hp → Prop} (fr : A.frames = X.A.frames) (F : FnOk X.prog X.w X.K X.mg X.base CX0 k f fd ["self", "other"] sp) (hr : Room k A) (b : Binds X.K fd ["self", "other"] []) (I : Inv X pins σ H s) (ry : RelV y u) (pr : sp [.ref a, y] H (BlQ Q) (fun _ _ _ => False)) {R : Value → Shared → Prop}
    (q : ∀ r s' H1, Inv X pins σ H1 s' → Q r H1 → R (.bool r) s') : wpAny (model X.prog X.w) A (call (.ref f) [.ref a, u]) R E s :=
  run_own2 fr F hr b I ry pr fun u2 s' h => by
    obtain ⟨v, H1, I1, rv, r, rfl, hq⟩ := h
    obtain rfl : u2 = Value.bool r := rv
    exact q r s' H1 I1 hq
theorem inst_of (I : Inv X pins σ H s) (ea : H a = some (.ins C dx fs)) : ∃ od, PySem.W.InstAt s.heap a (PySem.W.instObj C dx) C od := by
  obtain ⟨mA, J, _⟩ := ins_get I.hok ea
  obtain ⟨od, J, _⟩ := J.look
  exact ⟨_, J⟩
/-- the type of the other one -/
def TyO (K : PySem.W.Frag) (H : Hp) (C : Addr) (y : V) : Prop := (∃ n, TyD K H y n ∧ SevenT n) ∨ ∃ p D dx fs, y = .ref p ∧ H p = some (.ins D dx fs) ∧ (D = C ∨ PySem.W.subIn K (.ref D) (.ref C) = some false)
theorem TyO.looks (I : Inv X pins σ H s) (ry : RelV y u) (t : TyO X.K H C y) : ∃ tb, PySem.W.Looks (model X.prog X.w) s.heap (typeOf u) tb ∧ PySem.W.notFirst X.K C tb = true := by
  rcases t with ⟨n, t, sv⟩ | ⟨p, D, dx, fs, rfl, e, hD⟩
  · exact ⟨.type n, looks_tyis (t.is I ry), nf_ty sv⟩
  · obtain rfl : u = Value.ref p := ry
    refine ⟨.ref D, looks_own I e, Bool.or_eq_true_iff.mpr (hD.imp (fun h => ?_) fun h => ?_)⟩
    · rw [h]
      exact beq_self_eq_true _
    · rw [h]; rfl
theorem rc_ownEq {Q : Bool → Hp → Prop} (fr : A.frames = X.A.frames) (F : FnOk X.prog X.w X.K X.mg X.base CX0 k f fd ["self", "other"] sp) (hr : Room k A) (b : Binds X.K fd ["self", "other"] []) (O : EqO X.K C f) (I : Inv X pins σ H s) (ea : H a = some (.ins C dx fs)) (ry : RelV y u)
    (t : TyO X.K H C y) (pr : sp [.ref a, y] H (BlQ Q) (fun _ _ _ => False)) {R : Value → Shared → Prop} (q : ∀ r s' H1, Inv X pins σ H1 s' → Q r H1 → R (.bool r) s') : wpAny (model X.prog X.w) A (richCompare .Eq (.ref a) u) R E s := by
  obtain ⟨od, J⟩ := inst_of I ea
  obtain ⟨m0, hF⟩ := I.fr
  obtain ⟨tb, L, nf⟩ := t.looks I ry
  exact PySem.W.cmp_K (op := .Eq) (tb := tb) hr.units0 hF I.ok.mod.kin J L nf O.eq.at_ O.eq.fn (call_ownB fr F hr b I ry pr q)
/-- != of an own thing, on the left -/
theorem rc_ownNe {Q : Bool → Hp → Prop} (fr : A.frames = X.A.frames) (F' : FnOk X.prog X.w X.K X.mg X.base CX0 k f fd ["self", "other"] sp) (hr : Room (k + 1) A) (b : Binds X.K fd ["self", "other"] []) (O : EqO X.K C f) (I : Inv X pins σ H s) (ea : H a = some (.ins C dx fs)) (ry : RelV y u)
    (t : TyO X.K H C y) (pr : sp [.ref a, y] H (BlQ Q) (fun _ _ _ => False)) {R : Value → Shared → Prop} (q : ∀ r s' H1, Inv X pins σ H1 s' → Q r H1 → R (.bool (!r)) s') : wpAny (model X.prog X.w) A (richCompare .NotEq (.ref a) u) R E s := by
  obtain ⟨od, J⟩ := inst_of I ea
  obtain ⟨tb, L, nf⟩ := t.looks I ry
  have ent : ∀ {R' : Fin → Shared → Prop}, (∀ r s' H1, Inv X pins σ H1 s' → Q r H1 → R' (.done (.ret (.bool (!r)))) s') → wpAny (model X.prog X.w) A.in1 (Builtin.«object.__ne__» ⟨[.ref a, u], []⟩) R' E s := fun {R'} q' => by
    unfold Builtin.«object.__ne__»
    refine wpAny_bind (wpAny_pure ?_)
    refine wpAny_bind (wpAny_cRoomFor hr.in1.units0 ?_)
    refine wpAny_bind (PySem.W.ifBound_K I.kIn J O.eq.at_ O.eq.fn (call_ownB (A := A.in1) fr F' hr.in1 b I ry pr fun r s' H1 I1 hq => ?_))
    refine wpAny_bind (wpAny_truthy_bool ?_)
    exact wpAny_pure (q' r s' H1 I1 hq)
  have one : wpAny (model X.prog X.w) A (tryCompare (.ref a) "__ne__" u) (fun r s' => ∃ v, r = some v ∧ R v s') E s := by
    unfold tryCompare
    refine wpAny_bind (m := callSpecialIfBound? (.ref a) (Str.ofString "__ne__") [u]) ?_
    simp only [callSpecialIfBound?, bindSpecialIfBound?]
    refine wpAny_holding (wpAny_bind (wpAny_bind (wpAny_bind (J.type.here ((PySem.W.looks_findIn I.kIn O.ne).here ?_)))))
    refine wpAny_bind (wpAny_askSetting (wpAny_ite ?_))
    have cl : wpAny (model X.prog X.w) A (call (.builtin "object.__ne__") ([.ref a] ++ [u])) (fun v s' => ∃ r H1, v = .bool (!r) ∧ Inv X pins σ H1 s' ∧ Q r H1) E s :=
      wpAny_call (codeAny_call_builtin F.cmp_object.ne.plain F.cmpEntry_ne (PySem.W.check_slot F.cmpKind_ne F.cmpSplit_ne (J.type.andThen (PySem.W.looks_mroIn I.kIn O.ob)) (F.cmpArgs_ne _ _) (ent fun r s' H1 I1 hq => ⟨r, H1, rfl, I1, hq⟩)))
    have fin : wpAny (model X.prog X.w) A (call (.builtin "object.__ne__") ([.ref a] ++ [u]) >>= fun v => pure (some v)) (fun a_1 s' => wpAny (model X.prog X.w) A (match a_1 with | some Value.notImplemented => pure none | none => pure none | some v => pure (some v)) (fun r s' => ∃ v, r = some v ∧ R v s') E s') E s := by
      refine wpAny_bind (wpAny_mono cl (fun v s' h' => ?_) fun _ _ e => e)
      obtain ⟨r, H1, rfl, I1, hq⟩ := h'
      exact wpAny_pure (wpAny_pure ⟨_, rfl, q r s' H1 I1 hq⟩)
    split
    · exact wpAny_bind (wpAny_of_eq (F.cmp_object.ne.bind _) (wpAny_pure (by exact fin)))
    · exact wpAny_tryCatch (wpAny_bind (wpAny_of_eq (F.cmp_object.ne.bind _) (wpAny_pure (by exact fin))))
  unfold richCompare
  simp only [oneThing_ref]
  refine wpAny_holding (wpAny_bind (wpAny_cRoomFor hr.units0 ?_))
  refine wpAny_bind (J.type.here (wpAny_bind (L.here ?_)))
  split
  · rename_i q2
    have e : PySem.W.subIn X.K tb (.ref C) = some false := by
      rcases Bool.or_eq_true_iff.mp nf with e | e
      · rw [beq_iff_eq.mp e] at q2; simp at q2
      · exact beq_iff_eq.mp e
    refine wpAny_bind ((PySem.W.looks_subIn I.kIn e).here ?_)
    simp only [Bool.false_eq_true, if_false]
    refine wpAny_bind (wpAny_mono one (fun r s' z => ?_) fun _ _ e => e)
    obtain ⟨v, rfl, hq⟩ := z
    exact wpAny_pure hq
  · refine wpAny_bind (wpAny_pure ?_)
    simp only [Bool.false_eq_true, if_false]
    refine wpAny_bind (wpAny_mono one (fun r s' z => ?_) fun _ _ e => e)
    obtain ⟨v, rfl, hq⟩ := z
    exact wpAny_pure hq
/-! ### a built-in thing on the left declines -/
theorem seven_declines (I : Inv X pins σ H s) (ea : H a = some (.ins C dx fs)) (O : EqO X.K C f) (ry : RelV y u) (t : TyD X.K H y n) (sv : SevenT n) :
    ∃ id, Slot n "__eq__" id ∧ ∀ Q' : Value → Shared → Prop, Q' .notImplemented s → wpAny (model X.prog X.w) A (call (.builtin id) [u, .ref a]) Q' E s := by
  obtain ⟨od, J⟩ := inst_of I ea
  have hl := J.at_
  have isI : ∀ {m : String} {M : Model}, SevenT m → PySem.W.Looks M s.heap (isInstance (.ref a) (.type m)) false := fun h => J.type.andThen (PySem.W.looks_mroIn I.kIn (O.no h))
  have ti := t.is I ry
  rcases t with t | ⟨rfl, p, φ, rfl, e, kk⟩
  · cases t with
    | non =>
      obtain rfl : u = Value.none := ry
      exact ⟨_, F.slot_NoneType_eq, fun Q' hq => call_gives F.slot_NoneType_eq rfl F.entry_NoneType_eq (F.args_NoneType_eq_2 _ _) (SeqAt.NoneType___eq___none_ref_0 a) hq⟩
    | bl bb =>
      obtain rfl : u = Value.bool bb := ry
      refine ⟨_, F.slot_bool_eq, fun Q' hq => wpAny_call_entry F.slot_bool_eq rfl F.entry_int_eq ?_ (F.args_int_eq_2 _ _)⟩
      obtain ⟨hp, g, d, tk, os⟩ := s
      wp_walk using wpAny_loadPart' hl, wpAny_load hl
      exact ⟨_, rfl, hq⟩
    | int i =>
      obtain ⟨tk, rfl⟩ := (show ∃ t, u = Value.int i t from ry)
      refine ⟨_, F.slot_int_eq, fun Q' hq => wpAny_call_entry F.slot_int_eq ti F.entry_int_eq ?_ (F.args_int_eq_2 _ _)⟩
      obtain ⟨hp, g, d, tk2, os⟩ := s
      wp_walk using wpAny_loadPart' hl, wpAny_load hl
      exact ⟨_, rfl, hq⟩
    | str z =>
      obtain ⟨tk, rfl⟩ := (show ∃ t, u = Value.str z t from ry)
      refine ⟨_, F.slot_str_eq, fun Q' hq => wpAny_call_entry F.slot_str_eq ti F.entry_str_eq ?_ (F.args_str_eq_2 _ _)⟩
      obtain ⟨hp, g, d, tk2, os⟩ := s
      wp_walk using wpAny_loadPart' hl, wpAny_load hl
      exact ⟨_, rfl, hq⟩
    | byt z => rcases sv with h | h | h | h | h | h | h <;> exact absurd h (by decide)
    | @lst p xs h =>
      obtain rfl : u = Value.ref p := ry
      refine ⟨_, F.slot_list_eq, fun Q' hq => wpAny_call_entry F.slot_list_eq ti F.entry_list_eq ?_ (F.args_list_eq_2 _ _)⟩
      unfold Builtin.«list.__eq__»
      refine wpAny_bind (wpAny_pure ?_)
      refine wpAny_bind ((isI (m := "list") (by simp [SevenT])).here ?_)
      exact wpAny_pure ⟨_, rfl, hq⟩
    | @tup p xs h =>
      obtain rfl : u = Value.ref p := ry
      refine ⟨_, F.slot_tuple_eq, fun Q' hq => wpAny_call_entry F.slot_tuple_eq ti F.entry_tuple_eq ?_ (F.args_tuple_eq_2 _ _)⟩
      unfold Builtin.«tuple.__eq__»
      refine wpAny_bind (wpAny_pure ?_)
      refine wpAny_bind ((isI (m := "tuple") (by simp [SevenT])).here ?_)
      exact wpAny_pure ⟨_, rfl, hq⟩
    | @dK p kvs h =>
      obtain rfl : u = Value.ref p := ry
      refine ⟨_, F.slot_dict_eq, fun Q' hq => wpAny_call_entry F.slot_dict_eq ti F.entry_dict_eq ?_ (F.args_dict_eq_2 _ _)⟩
      unfold Builtin.«dict.__eq__»
      refine wpAny_bind (wpAny_pure ?_)
      refine wpAny_bind ((isI (m := "dict") (by simp [SevenT])).here ?_)
      exact wpAny_bind (wpAny_rule (wpAny_pure ⟨_, rfl, hq⟩))
  · obtain rfl : u = Value.ref p := ry
    refine ⟨_, F.slot_dict_eq, fun Q' hq => wpAny_call_entry F.slot_dict_eq ti F.entry_dict_eq ?_ (F.args_dict_eq_2 _ _)⟩
    unfold Builtin.«dict.__eq__»
    refine wpAny_bind (wpAny_pure ?_)
    refine wpAny_bind ((isI (m := "dict") (by simp [SevenT])).here ?_)
    exact wpAny_bind (wpAny_rule (wpAny_pure ⟨_, rfl, hq⟩))
theorem rc_oddEq {Q : Bool → Hp → Prop} (fr : A.frames = X.A.frames) (F' : FnOk X.prog X.w X.K X.mg X.base CX0 k f fd ["self", "other"] sp) (hr : Room k A) (b : Binds X.K fd ["self", "other"] []) (O : EqO X.K C f) (I : Inv X pins σ H s) (ea : H a = some (.ins C dx fs)) (ry : RelV y u)
    (t : TyD X.K H y n) (sv : SevenT n) (pr : sp [.ref a, y] H (BlQ Q) (fun _ _ _ => False)) {R : Value → Shared → Prop} (q : ∀ r s' H1, Inv X pins σ H1 s' → Q r H1 → R (.bool r) s') : wpAny (model X.prog X.w) A (richCompare .Eq u (.ref a)) R E s := by
  obtain ⟨od, J⟩ := inst_of I ea
  obtain ⟨id, sl, dec⟩ := seven_declines (A := A) (E := E) I ea O ry t sv
  have ti := t.is I ry
  have two : wpAny (model X.prog X.w) A (tryCompare (.ref a) "__eq__" u) (fun r s' => ∃ v, r = some v ∧ R v s') E s := by
    unfold tryCompare
    refine wpAny_bind (PySem.W.ifBound_K I.kIn J O.eq.at_ O.eq.fn (call_ownB fr F' hr b I ry pr fun r s' H1 I1 hq => ?_))
    exact wpAny_pure ⟨_, rfl, q r s' H1 I1 hq⟩
  simp only [richCompare, cmpInfo_Eq, ti.oneThing_none]
  refine wpAny_holding (wpAny_bind (wpAny_cRoomFor hr.units0 ?_))
  refine wpAny_bind (wpAny_typeOf ti ?_)
  refine wpAny_bind (J.type.here ?_)
  split
  · refine wpAny_bind ((PySem.W.looks_mroIn I.kIn (O.no sv)).here ?_)
    simp only [Bool.false_eq_true, if_false, Bool.not_false, if_true]
    refine wpAny_bind (m := tryCompare u _ (.ref a)) (wpAny_tryCompare_declines ti sl (dec _ ⟨rfl, ?_⟩))
    refine wpAny_bind (m := tryCompare (.ref a) _ u) (wpAny_mono two (fun r s1 z => ?_) fun _ _ e => e)
    obtain ⟨v, rfl, hq⟩ := z
    exact wpAny_pure hq
  · rename_i q2
    exact absurd (by simp) q2
end
end Gd

set_option maxRecDepth 100000
set_option maxHeartbeats 4000000
namespace Gd
open PySem PySem.Spec PyProof.Rows L2 Dl
open AutoSeq1 (wpAny_loadPart')
open MeetsSeq MeetsSeq2 MeetsSeq3 SeqRoads2
/-! ### ==, != and in, told of data -/
/-- what stands where: told by the heap -/
def Cons (K : PySem.W.Frag) (H : Hp) : Prop := (∀ a xs ys, SqT K H a xs → SqT K H a ys → xs = ys) ∧ (∀ a C dx fs n, H a = some (.ins C dx fs) → TyD K H (.ref a) n → False) ∧ ∀ a xs ys, H a = some (.lst xs) → SqT K H a ys → False
theorem inv_cons {X : Cx} {pins : List (Addr × Obj)} {σ : L2.St} {H : Hp} {s : Shared} (I : Inv X pins σ H s) : Cons X.K H := by
  refine ⟨fun a xs ys h1 h2 => I.tuple_inj h1 h2, fun a C dx fs n e t => ?_, fun a xs ys h1 h2 => ?_⟩
  · obtain ⟨o, ho, hc⟩ := (show ∃ o, s.heap.get? a = some o ∧ o.cls = .type n from t.is I (show RelV (V.ref a) (Value.ref a) from rfl))
    obtain ⟨od, J⟩ := inst_of I e
    rw [J.at_] at ho
    cases ho
    cases hc
  · obtain ⟨o, ho, hc⟩ := (show ∃ o, s.heap.get? a = some o ∧ o.cls = .type "list" from (TyB.lst (K := X.K) (.inl (.inl h1))).is I (show RelV (V.ref a) (Value.ref a) from rfl))
    obtain ⟨o2, ho2, hc2⟩ := (show ∃ o, s.heap.get? a = some o ∧ o.cls = .type "tuple" from (TyB.tup (K := X.K) h2).is I (show RelV (V.ref a) (Value.ref a) from rfl))
    rw [ho] at ho2
    cases ho2
    rw [hc] at hc2
    exact absurd (Value.type.inj hc2) (by decide)
abbrev EqLs := List (Addr × DSpec)
def E00 : XK := fun _ _ _ => False
def pOwn (K : PySem.W.Frag) (L : EqLs) (x y : V) (H : Hp) (Q : Bool → Hp → Prop) : Prop := ∃ (a C dx : Addr) (fs : List (PySem.Str × V)) (d : DSpec), x = .ref a ∧ H a = some (.ins C dx fs) ∧ (C, d) ∈ L ∧ TyO K H C y ∧ liftSp K 2 d [.ref a, y] H (BlQ Q) (fun _ _ _ => False)
def pOdd (K : PySem.W.Frag) (L : EqLs) (x y : V) (H : Hp) (Q : Bool → Hp → Prop) : Prop := ∃ (n : String) (b C dx : Addr) (fs : List (PySem.Str × V)) (d : DSpec), TyD K H x n ∧ SevenT n ∧ y = .ref b ∧ H b = some (.ins C dx fs) ∧ (C, d) ∈ L ∧ liftSp K 2 d [.ref b, x] H (BlQ Q) (fun _ _ _ => False)
def pEq (K : PySem.W.Frag) (L : EqLs) (x y : V) (H : Hp) (Q : Bool → Hp → Prop) : Prop := pOwn K L x y H Q ∨ pOdd K L x y H Q
/-- the classes whose == is known -/
def EqL (X : Cx) (k : Nat) (L : EqLs) : Prop := ∀ p ∈ L, ∃ (f : Addr) (fd : FuncData) (j : Nat), j ≤ k ∧ FnOk X.prog X.w X.K X.mg X.base CX0 j f fd ["self", "other"] (liftSp X.K 2 p.2) ∧ Binds X.K fd ["self", "other"] [] ∧ EqO X.K p.1 f
theorem eql_nil {X : Cx} {k : Nat} : EqL X k [] := fun p h => by cases h
theorem eql_cons {X : Cx} {k : Nat} {L : EqLs} {C f : Addr} {fd : FuncData} {j : Nat} {d : DSpec} {K : PySem.W.Frag} (e : X.K = K) (F : FnOk X.prog X.w K X.mg X.base CX0 j f fd ["self", "other"] (liftSp K 2 d)) (hj : j ≤ k) (hb : ∃ ds, Vals [] ds ∧ Binds K fd ["self", "other"] ds) (O : EqO K C f) (r : EqL X k L) : EqL X k ((C, d) :: L) := fun p h => by
  subst e
  obtain ⟨ds, vd, b⟩ := hb
  cases vd
  rcases List.mem_cons.mp h with h | h
  · rw [h]; exact ⟨f, fd, j, hj, F, b, O⟩
  · exact r p h
section
variable {X : Cx} {k : Nat} {L : EqLs} {pins : List (Addr × Obj)} {σ : L2.St} {H : Hp} {s : Shared} {A : Around} {E : Value → Shared → Prop} {x y : V} {u v : Value} {Q : Bool → Hp → Prop}
theorem rc_eqO (hL : EqL X k L) (fr : A.frames = X.A.frames) (hr : Room k A) (I : Inv X pins σ H s) (rx : RelV x u) (ry : RelV y v) (h : pEq X.K L x y H Q) {R : Value → Shared → Prop} (q : ∀ r s' H1, Inv X pins σ H1 s' → Q r H1 → R (.bool r) s') : wpAny (model X.prog X.w) A (richCompare .Eq u v) R E s := by
  rcases h with ⟨a, C, dx, fs, d, rfl, ea, hm, t, pr⟩ | ⟨n, b, C, dx, fs, d, t, sv, rfl, eb, hm, pr⟩
  · obtain ⟨f, fd, j, hj, F, b, O⟩ := hL _ hm
    obtain rfl : u = Value.ref a := rx
    exact rc_ownEq fr F (hr.mono hj) b O I ea ry t pr q
  · obtain ⟨f, fd, j, hj, F, bd, O⟩ := hL _ hm
    obtain rfl : v = Value.ref b := ry
    exact rc_oddEq fr F (hr.mono hj) bd O I eb rx t sv pr q
theorem op_eqO (hL : EqL X k L) (hr : Room k X.A) : OpR X (compareOp .Eq) (fun x y H Q => pEq X.K L x y H fun r H1 => Q (.bl r) H1) := by
  intro pins s σ H x y v u Q I rx ry h
  show wpAny (model X.prog X.w) X.A (richCompare .Eq v u) _ _ s
  exact rc_eqO hL rfl hr I rx ry h fun r s' H1 I1 hq => ⟨.bl r, H1, I1, rfl, hq⟩
theorem op_neO (hL : EqL X k L) (hr : Room (k + 1) X.A) : OpR X (compareOp .NotEq) (fun x y H Q => pOwn X.K L x y H fun r H1 => Q (.bl (!r)) H1) := by
  intro pins s σ H x y v u Q I rx ry h
  show wpAny (model X.prog X.w) X.A (richCompare .NotEq v u) _ _ s
  obtain ⟨a, C, dx, fs, d, rfl, ea, hm, t, pr⟩ := h
  obtain ⟨f, fd, j, hj, F, b, O⟩ := hL _ hm
  obtain rfl : v = Value.ref a := rx
  exact rc_ownNe rfl F (hr.mono (Nat.add_le_add_right hj 1)) b O I ea ry t pr fun r s' H1 I1 hq => ⟨.bl (!r), H1, I1, rfl, hq⟩
/-- == inside a list: the same thing is equal to itself -/
def pEqB (K : PySem.W.Frag) (L : EqLs) (x y : V) (H : Hp) (Q : Bool → Hp → Prop) : Prop := pEq K L x y H Q ∧ ∀ a, x = .ref a → y = .ref a → Cons K H → Q true H
theorem eb_O (hL : EqL X k L) (fr : A.frames = X.A.frames) (hr : Room k A) (I : Inv X pins σ H s) (rx : RelV x u) (ry : RelV y v) (h : pEqB X.K L x y H Q) {R : Bool → Shared → Prop} (q : ∀ r s' H1, Inv X pins σ H1 s' → Q r H1 → R r s') : wpAny (model X.prog X.w) A (eqBool u v) R E s := by
  unfold eqBool
  refine wpAny_holding ?_
  refine wpAny_ite_split (fun hab => ?_) (fun hab => ?_)
  · have e := eq_of_beq hab
    have key : ∃ a, x = .ref a ∧ y = .ref a := by
      rcases h.1 with ⟨a, C, dx, fs, d, rfl, ea, hm, t, pr⟩ | ⟨n, b, C, dx, fs, d, t, sv, rfl, eb, hm, pr⟩
      · obtain rfl : u = Value.ref a := rx
        refine ⟨a, rfl, ?_⟩
        rw [← e] at ry
        cases y with
        | ref c => cases (show Value.ref a = Value.ref c from ry); rfl
        | non => cases (show Value.ref a = Value.none from ry)
        | bl _ => cases (show Value.ref a = Value.bool _ from ry)
        | ty _ => cases (show Value.ref a = Value.type _ from ry)
        | int _ => obtain ⟨_, z⟩ := (show ∃ t, Value.ref a = Value.int _ t from ry); cases z
        | str _ => obtain ⟨_, z⟩ := (show ∃ t, Value.ref a = Value.str _ t from ry); cases z
        | byt _ => obtain ⟨_, z⟩ := (show ∃ t, Value.ref a = Value.bytes _ t from ry); cases z
        | flt _ => obtain ⟨_, z⟩ := (show ∃ t, Value.ref a = Value.float _ t from ry); cases z
      · obtain rfl : v = Value.ref b := ry
        refine ⟨b, ?_, rfl⟩
        rw [e] at rx
        cases x with
        | ref c => cases (show Value.ref b = Value.ref c from rx); rfl
        | non => cases (show Value.ref b = Value.none from rx)
        | bl _ => cases (show Value.ref b = Value.bool _ from rx)
        | ty _ => cases (show Value.ref b = Value.type _ from rx)
        | int _ => obtain ⟨_, z⟩ := (show ∃ t, Value.ref b = Value.int _ t from rx); cases z
        | str _ => obtain ⟨_, z⟩ := (show ∃ t, Value.ref b = Value.str _ t from rx); cases z
        | byt _ => obtain ⟨_, z⟩ := (show ∃ t, Value.ref b = Value.bytes _ t from rx); cases z
        | flt _ => obtain ⟨_, z⟩ := (show ∃ t, Value.ref b = Value.float _ t from rx); cases z
    obtain ⟨a, rfl, rfl⟩ := key
    exact wpAny_bind (wpAny_rule (wpAny_pure (q true s H I (h.2 a rfl rfl (inv_cons I)))))
  · have key := rc_eqO (E := E) hL fr hr I rx ry h.1 (R := fun v s' => ∃ r, v = Value.bool r ∧ R r s') fun r s' H1 I1 hq => ⟨r, rfl, q r s' H1 I1 hq⟩
    have fin : wpAny (model X.prog X.w) A (richCompare .Eq u v >>= fun r => truthOfDropped r) R E s := wpAny_bind (wpAny_mono key (fun v s' hv => by
      obtain ⟨r, rfl, hq⟩ := hv
      exact wpAny_truthy_bool hq) fun _ _ x => x)
    have isr : (∃ a, u = Value.ref a) ∨ ∃ a, v = Value.ref a := by
      rcases h.1 with ⟨a, C, dx, fs, d, rfl, ea, hm, t, pr⟩ | ⟨n, b, C, dx, fs, d, t, sv, rfl, eb, hm, pr⟩
      · exact .inl ⟨a, rx⟩
      · exact .inr ⟨b, ry⟩
    rcases isr with ⟨a, rfl⟩ | ⟨a, rfl⟩
    · exact fin
    · cases u <;> exact fin
/-- x in a list, item by item -/
def goIn (K : PySem.W.Frag) (L : EqLs) (x : V) (l : Addr) (xs : List V) : List V → Hp → (Bool → Hp → Prop) → Prop
  | [], H, Q => Q false H
  | z :: zs, H, Q => pEqB K L z x H fun r H1 => (r = true → Q true H1) ∧ (r = false → SqL K H1 l xs ∧ goIn K L x l xs zs H1 Q)
theorem in_loop (hL : EqL X k L) (hr : Room (k + 1) X.A) {l : Addr} {xs : List V} (rx : RelV x u) {R : Result → Shared → Prop} (qt : ∀ s' H1, Inv X pins σ H1 s' → Q true H1 → R (.ok (.ret (.bool true))) s') (qf : ∀ s' H1, Inv X pins σ H1 s' → Q false H1 → R (.ok (.ret (.bool false))) s') : ∀ (zs pre : List V) (i : Nat) (H : Hp) (s : Shared), xs = pre ++ zs → i = pre.length → Inv X pins σ H s → SqL X.K H l xs → goIn X.K L x l xs zs H Q →
    wpAny (model X.prog X.w) X.A.in1 (Builtin.«list.__contains__.loop» ⟨[.ref l, u, rawInt i], []⟩) (GQ.FinOf X.prog X.w X.A R) (fun e s' => R (.error e) s') s
  | [], pre, i, H, s, e, hi, I, sq, g => by
    obtain ⟨its, r, ⟨o, n, hl, hc, hd, hda⟩, hz⟩ := I.list sq
    obtain ⟨cls, dict, data, sl⟩ := o
    simp only at hc hd hda
    subst hc hd hda
    have hlen := r.length
    have hR := qf s H I g
    obtain ⟨hp, gg, d, tk, os⟩ := s
    wp_walk using wpAny_loadPart' hl
    have hi1 : its.toArray[((i : Nat) : Int).toNat]? = none := by simp; rw [← hlen, e, hi]; simp
    rw [hi1]
    wp_walk
    exact hR
  | z :: zs, pre, i, H, s, e, hi, I, sq, g => by
    obtain ⟨its, r, ⟨o, n, hl, hc, hd, hda⟩, hz⟩ := I.list sq
    obtain ⟨cls, dict, data, sl⟩ := o
    simp only at hc hd hda
    subst hc hd hda
    have gz : xs[i]? = some z := by rw [e, hi]; simp
    obtain ⟨w, hw, rw'⟩ := r.get gz
    have step := eb_O (A := X.A.in1) (E := fun e s' => R (.error e) s') hL rfl hr.in1 I rw' rx g (R := fun b s' => (b = true → R (.ok (.ret (.bool true))) s') ∧ (b = false → ∃ H1, Inv X pins σ H1 s' ∧ SqL X.K H1 l xs ∧ goIn X.K L x l xs zs H1 Q)) fun b s' H1 I1 hq => ⟨fun hb => qt s' H1 I1 (hq.1 hb), fun hb => ⟨H1, I1, hq.2 hb⟩⟩
    obtain ⟨hp, gg, d, tk, os⟩ := s
    wp_walk using wpAny_loadPart' hl
    have hi1 : its.toArray[((i : Nat) : Int).toNat]? = some w := by simpa using hw
    rw [hi1]
    refine wpAny_bind (wpAny_mono step (fun b s2 h2 => ?_) fun _ _ x => x)
    cases b with
    | true =>
      have hR := h2.1 rfl
      obtain ⟨hp2, gg2, d2, tk2, os2⟩ := s2
      wp_walk
      exact hR
    | false =>
      obtain ⟨H1, I1, sq1, g1⟩ := h2.2 rfl
      have rcc := in_loop hL hr rx qt qf zs (pre ++ [z]) (i + 1) H1 s2 (by rw [e, List.append_assoc]; rfl) (by rw [hi, List.length_append]; rfl) I1 sq1 g1
      obtain ⟨hp2, gg2, d2, tk2, os2⟩ := s2
      have hcc : ((i : Int) + 1) = ((i + 1 : Nat) : Int) := by omega
      wp_walk
      rw [hcc]
      exact ⟨plainId_quiet plain_contains_loop _, codeAny_builtin entry_contains_loop (by
        rw [Around.under_plainId plain_contains_loop _]
        exact rcc)⟩
theorem in_list_go (hL : EqL X k L) (hr : Room (k + 1) X.A) {l : Addr} {xs : List V} (rx : RelV x u) (I : Inv X pins σ H s) (sq : SqL X.K H l xs) (g : goIn X.K L x l xs xs H Q) {R : Result → Shared → Prop} (qt : ∀ s' H1, Inv X pins σ H1 s' → Q true H1 → R (.ok (.ret (.bool true))) s') (qf : ∀ s' H1, Inv X pins σ H1 s' → Q false H1 → R (.ok (.ret (.bool false))) s') :
    wpAny (model X.prog X.w) X.A.in1 (Builtin.«list.__contains__» ⟨[.ref l, u], []⟩) (GQ.FinOf X.prog X.w X.A R) (fun e s' => R (.error e) s') s := by
  have rcc := in_loop hL hr rx qt qf xs [] 0 H s rfl rfl I sq g
  obtain ⟨its, r, ⟨o, n, hl, hc, hd, hda⟩, hz⟩ := I.list sq
  obtain ⟨cls, dict, data, sl⟩ := o
  simp only at hc hd hda
  subst hc hd hda
  obtain ⟨hp, gg, d, tk, os⟩ := s
  wp_walk using wpAny_loadPart' hl
  exact ⟨plainId_quiet plain_contains_loop _, codeAny_builtin entry_contains_loop (by
    rw [Around.under_plainId plain_contains_loop _]
    exact rcc)⟩
def rInO (K : PySem.W.Frag) (L : EqLs) (neg : Bool) : R2 := fun x y H Q => ∃ l xs, y = .ref l ∧ SqL K H l xs ∧ goIn K L x l xs xs H fun r H1 => Q (.bl (nb neg r)) H1
theorem op_inO (hL : EqL X k L) (hr : Room (k + 1) X.A) : OpR X (compareOp .In) (rInO X.K L false) := by
  intro pins s σ H x y v u Q I rx ry h
  obtain ⟨l, xs, rfl, sq, g⟩ := h
  obtain rfl : u = Value.ref l := ry
  obtain ⟨its, r, pl, hz⟩ := I.list sq
  show wpAny _ X.A (do return Value.bool (← contains (.ref l) v)) _ _ s
  refine wpAny_bind (wpAny_contains_slot pl.isList.typeIs F.slot_list_contains (wpAny_mono (GQ.call_here (Q := fun w s' => ∃ b, w = Value.bool b ∧ ∃ H1, Inv X pins σ H1 s' ∧ Q (.bl (nb false b)) H1) F.slot_list_contains pl.isList.typeIs F.entry_list_contains (F.args_list_contains_2 _ _)
    (in_list_go hL hr rx I sq g (fun s' H1 I1 q => ⟨true, rfl, H1, I1, q⟩) fun s' H1 I1 q => ⟨false, rfl, H1, I1, q⟩)) (fun w s' hw => ?_) fun _ _ e => e))
  obtain ⟨b, rfl, H1, I1, q⟩ := hw
  exact wpAny_truthy_bool (wpAny_pure ⟨.bl b, H1, I1, rfl, q⟩)
theorem op_notInO (hL : EqL X k L) (hr : Room (k + 1) X.A) : OpR X (compareOp .NotIn) (rInO X.K L true) := by
  intro pins s σ H x y v u Q I rx ry h
  obtain ⟨l, xs, rfl, sq, g⟩ := h
  obtain rfl : u = Value.ref l := ry
  obtain ⟨its, r, pl, hz⟩ := I.list sq
  show wpAny _ X.A (do return Value.bool (!(← contains (.ref l) v))) _ _ s
  refine wpAny_bind (wpAny_contains_slot pl.isList.typeIs F.slot_list_contains (wpAny_mono (GQ.call_here (Q := fun w s' => ∃ b, w = Value.bool b ∧ ∃ H1, Inv X pins σ H1 s' ∧ Q (.bl (nb true b)) H1) F.slot_list_contains pl.isList.typeIs F.entry_list_contains (F.args_list_contains_2 _ _)
    (in_list_go hL hr rx I sq g (fun s' H1 I1 q => ⟨true, rfl, H1, I1, q⟩) fun s' H1 I1 q => ⟨false, rfl, H1, I1, q⟩)) (fun w s' hw => ?_) fun _ _ e => e))
  obtain ⟨b, rfl, H1, I1, q⟩ := hw
  exact wpAny_truthy_bool (wpAny_pure ⟨.bl (!b), H1, I1, rfl, q⟩)
end
end Gd

set_option maxRecDepth 100000
set_option maxHeartbeats 4000000
namespace Dl
open PySem PySem.Spec PyProof.Rows L2 Gd
variable {K : PySem.W.Frag} {E : XK}
/-! ### data that stand for themselves -/
mutual
def T.pl : T → Bool
  | .non => true
  | .bl _ => true
  | .int _ => true
  | .str _ => true
  | .lst l => pls l
  | .tup l => pls l
  | .obj _ fs => plf fs
  | _ => false
def pls : List T → Bool
  | [] => true
  | t :: r => t.pl && pls r
def plf : List (PySem.Str × T) → Bool
  | [] => true
  | (_, t) :: r => t.pl && plf r
end
mutual
theorem Dn.det {H : Hp} (c : Cons K H) : ∀ {v : V} {t u : T}, Dn K H v t → Dn K H v u → t.pl = true → u.pl = true → t = u
  | _, _, u, .non, d, _, h => by cases d; rfl
  | _, _, u, .bl b, d, _, h => by cases d; rfl
  | _, _, u, .int b, d, _, h => by cases d; rfl
  | _, _, u, .str b, d, _, h => by
    cases d with
    | str _ => rfl
    | wst _ => simp [T.pl] at h
  | _, _, u, .ty b, d, g, h => by simp [T.pl] at g
  | _, _, u, .cls b, d, g, h => by simp [T.pl] at g
  | _, _, u, .pin b, d, g, h => by simp [T.pl] at g
  | _, _, u, .far b, d, g, h => by simp [T.pl] at g
  | _, _, u, .wst b, d, g, h => by simp [T.pl] at g
  | _, _, u, .dct e b, d, g, h => by simp [T.pl] at g
  | _, .lst ts, u, .lst e da, d, g, h => by
    cases d with
    | lst e2 db =>
      rw [e] at e2
      cases e2
      rw [DnAll.det c da db (by simpa [T.pl] using g) (by simpa [T.pl] using h)]
    | tup e2 db => exact (c.2.2 _ _ _ e e2).elim
    | obj e2 _ _ => rw [e] at e2; cases e2
    | cls _ => simp [T.pl] at h
    | pin _ => simp [T.pl] at h
    | far _ => simp [T.pl] at h
    | dct _ _ => simp [T.pl] at h
  | _, .tup ts, u, .tup e da, d, g, h => by
    cases d with
    | lst e2 db => exact (c.2.2 _ _ _ e2 e).elim
    | tup e2 db =>
      have z := c.1 _ _ _ e e2
      subst z
      rw [DnAll.det c da db (by simpa [T.pl] using g) (by simpa [T.pl] using h)]
    | obj e2 _ _ => exact (c.2.1 _ _ _ _ _ e2 (.inl (.tup e))).elim
    | cls _ => simp [T.pl] at h
    | pin _ => simp [T.pl] at h
    | far _ => simp [T.pl] at h
    | dct _ _ => simp [T.pl] at h
  | _, .obj C fs, u, .obj e _ da, d, g, h => by
    cases d with
    | lst e2 db => rw [e] at e2; cases e2
    | tup e2 db => exact (c.2.1 _ _ _ _ _ e (.inl (.tup e2))).elim
    | obj e2 _ db =>
      rw [e] at e2
      cases e2
      rw [DnF.det c da db (by simpa [T.pl] using g) (by simpa [T.pl] using h)]
    | cls _ => simp [T.pl] at h
    | pin _ => simp [T.pl] at h
    | far _ => simp [T.pl] at h
    | dct _ _ => simp [T.pl] at h
theorem DnAll.det {H : Hp} (c : Cons K H) : ∀ {vs : List V} {ts us : List T}, DnAll K H vs ts → DnAll K H vs us → pls ts = true → pls us = true → ts = us
  | _, _, _, .nil, d, _, _ => by cases d; rfl
  | _, _, _, .cons a b, d, g, h => by
    cases d with
    | cons a2 b2 =>
      simp only [pls, Bool.and_eq_true] at g h
      rw [Dn.det c a a2 g.1 h.1, DnAll.det c b b2 g.2 h.2]
theorem DnF.det {H : Hp} (c : Cons K H) : ∀ {vs : List (PySem.Str × V)} {ts us : List (PySem.Str × T)}, DnF K H vs ts → DnF K H vs us → plf ts = true → plf us = true → ts = us
  | _, _, _, .nil, d, _, _ => by cases d; rfl
  | _, _, _, .cons a b, d, g, h => by
    cases d with
    | cons a2 b2 =>
      simp only [plf, Bool.and_eq_true] at g h
      rw [Dn.det c a a2 g.1 h.1, DnF.det c b b2 g.2 h.2]
end
/-- not one and the same thing -/
def Apart (μ : Mu) (t u : T) : Prop := ∃ C fs D gs, view μ t = .obj C fs ∧ view μ u = .obj D gs ∧ (C ≠ D ∨ ∃ f p q, fs.lookup f = some p ∧ gs.lookup f = some q ∧ p.pl = true ∧ q.pl = true ∧ p ≠ q)
theorem tyD_of {W : Wd} {H : Hp} {μ : Mu} {v : V} {t : T} {n : String} (x : Ok K W H μ) (d : Dv K W v t) (e : (view μ t).tyx = some n) : TyD K H v n ∧ SevenT n := by
  by_cases hd : ∃ a, view μ t = .dct a
  · obtain ⟨a, hd⟩ := hd
    rw [hd] at e
    cases e
    have dn := view_dn x d hd (fun k z => by cases z)
    cases dn with
    | dct e2 k => exact ⟨.inr ⟨rfl, a, _, rfl, e2, k⟩, by simp [SevenT]⟩
  · have e2 : (view μ t).tyn = some n := by
      revert e
      cases hv : view μ t with
      | dct a => exact absurd ⟨a, hv⟩ hd
      | _ => exact fun h => h
    have dn := view_dn x d rfl (tyn_rs e2)
    refine ⟨.inl (dn.tyB e2), ?_⟩
    cases hv : view μ t with
    | far a m =>
      rw [hv] at e2 dn
      cases e2
      cases dn with
      | far o => cases o <;> simp [SevenT]
    | _ => rw [hv] at e2; cases e2 <;> simp [SevenT]
theorem apart_no {W : Wd} {H : Hp} {μ : Mu} {v w : V} {t u : T} {a : Addr} (x : Ok K W H μ) (d : Dv K W v t) (d2 : Dv K W w u) (h : Apart μ t u) (ev : v = .ref a) (ew : w = .ref a) (c : Cons K H) : False := by
  obtain ⟨C, fs, D, gs, e1, e2, h⟩ := h
  obtain ⟨p, dx, vs, rfl, e3, d3, _⟩ := view_obj x d e1
  obtain ⟨p2, dx2, vs2, rfl, e4, d4, _⟩ := view_obj x d2 e2
  cases ev; cases ew
  rw [e3] at e4
  cases e4
  rcases h with h | ⟨f, p, q, h1, h2, h3, h4, h5⟩
  · exact h rfl
  · obtain ⟨v1, l1, g1⟩ := d3.look h1
    obtain ⟨v2, l2, g2⟩ := d4.look h2
    rw [l1] at l2
    cases l2
    exact h5 (Dn.det c (g1.mono x.sb) (g2.mono x.sb) h3 h4)
/-! ### own == of data -/
def eqOwn (K : PySem.W.Frag) (L : EqLs) (a b : T) (μ : Mu) (Ψ : Bool → Mu → Prop) : Prop := ∃ C fs d, view μ a = .obj C fs ∧ (C, d) ∈ L ∧ ((∃ n, (view μ b).tyx = some n) ∨ ∃ D gs, view μ b = .obj D gs ∧ (D = C ∨ PySem.W.subIn K (.ref D) (.ref C) = some false)) ∧
  CallD d [a, b] μ (fun τ μ' => ∃ r, τ = .bl r ∧ Ψ r μ') (fun _ _ _ => False)
def eqOdd (L : EqLs) (a b : T) (μ : Mu) (Ψ : Bool → Mu → Prop) : Prop := ∃ n C fs d, (view μ a).tyx = some n ∧ view μ b = .obj C fs ∧ (C, d) ∈ L ∧ CallD d [b, a] μ (fun τ μ' => ∃ r, τ = .bl r ∧ Ψ r μ') (fun _ _ _ => False)
def eqOD (K : PySem.W.Frag) (L : EqLs) (a b : T) (μ : Mu) (Ψ : Bool → Mu → Prop) : Prop := eqOwn K L a b μ Ψ ∨ eqOdd L a b μ Ψ
section
variable {L : EqLs} {W : Wd} {H : Hp} {μ : Mu} {v w : V} {t u : T} {Ψ : Bool → Mu → Prop} {Q : Bool → Hp → Prop}
theorem own_core (x : Ok K W H μ) (d : Dv K W v t) (d2 : Dv K W w u) (h : eqOwn K L t u μ Ψ) (q : ∀ {r W' H' μ'}, W.Le W' → Ok K W' H' μ' → Ψ r μ' → Q r H') : pOwn K L v w H Q := by
  obtain ⟨C, fs, dd, e, hm, ty, c⟩ := h
  obtain ⟨p, dx, vs, rfl, e3, d3, _⟩ := view_obj x d e
  refine ⟨p, C, dx, vs, dd, rfl, e3, hm, ?_, call_sim x (.cons d (.cons d2 .nil)) rfl (@xl_none K _ _) c fun {v2 τ W' H' μ'} l2 x2 dv h2 => ?_⟩
  · rcases ty with ⟨n, ty⟩ | ⟨D, gs, e4, hD⟩
    · obtain ⟨a, b⟩ := tyD_of x d2 ty
      exact .inl ⟨n, a, b⟩
    · obtain ⟨p2, dx2, vs2, rfl, e5, _, _⟩ := view_obj x d2 e4
      exact .inr ⟨p2, D, dx2, vs2, rfl, e5, hD⟩
  · obtain ⟨r, rfl, h2⟩ := h2
    exact ⟨r, dv.bl, q l2 x2 h2⟩
theorem eq_core (x : Ok K W H μ) (d : Dv K W v t) (d2 : Dv K W w u) (h : eqOD K L t u μ Ψ) (q : ∀ {r W' H' μ'}, W.Le W' → Ok K W' H' μ' → Ψ r μ' → Q r H') : pEq K L v w H Q := by
  rcases h with h | ⟨n, C, fs, dd, ty, e, hm, c⟩
  · exact .inl (own_core x d d2 h q)
  · obtain ⟨p, dx, vs, rfl, e3, d3, _⟩ := view_obj x d2 e
    obtain ⟨a, b⟩ := tyD_of x d ty
    refine .inr ⟨n, p, C, dx, vs, dd, a, b, rfl, e3, hm, call_sim x (.cons d2 (.cons d .nil)) rfl (@xl_none K _ _) c fun {v2 τ W' H' μ'} l2 x2 dv h2 => ?_⟩
    obtain ⟨r, rfl, h2⟩ := h2
    exact ⟨r, dv.bl, q l2 x2 h2⟩
end
def rEqO (K : PySem.W.Frag) (L : EqLs) : R2 := fun x y H Q => pEq K L x y H fun r H1 => Q (.bl r) H1
def rNeO (K : PySem.W.Frag) (L : EqLs) : R2 := fun x y H Q => pOwn K L x y H fun r H1 => Q (.bl (!r)) H1
def rEqOD (K : PySem.W.Frag) (L : EqLs) (ra rb : DE) : DE := fun ρ xw μ Φ => ra ρ xw μ fun a μ1 => rb ρ xw μ1 fun b μ2 => eqOD K L a b μ2 fun r μ3 => Φ (.bl r) μ3
def rNeOD (K : PySem.W.Frag) (L : EqLs) (ra rb : DE) : DE := fun ρ xw μ Φ => ra ρ xw μ fun a μ1 => rb ρ xw μ1 fun b μ2 => eqOwn K L a b μ2 fun r μ3 => Φ (.bl (!r)) μ3
instance sim_eqO {L : EqLs} {ta tb : TE} {ra rb} [a : SimE K E ta ra] [b : SimE K E tb rb] : SimE K E (tOp (rEqO K L) ta tb) (rEqOD K L ra rb) := ⟨fun {W H σ ρ μ xw Φ Q} x s n h q =>
  a.run x s n h fun {v τ W1 H1 μ1} l1 x1 d1 h1 => b.run x1 (s.mono l1) (n.mono l1) h1 fun {v2 τ2 W2 H2 μ2} l2 x2 d2 h2 => eq_core x2 (d1.mono l2) d2 h2 fun {r W3 H3 μ3} l3 x3 h3 => q ((l1.trans l2).trans l3) x3 (.of (.bl r)) h3⟩
instance sim_neO {L : EqLs} {ta tb : TE} {ra rb} [a : SimE K E ta ra] [b : SimE K E tb rb] : SimE K E (tOp (rNeO K L) ta tb) (rNeOD K L ra rb) := ⟨fun {W H σ ρ μ xw Φ Q} x s n h q =>
  a.run x s n h fun {v τ W1 H1 μ1} l1 x1 d1 h1 => b.run x1 (s.mono l1) (n.mono l1) h1 fun {v2 τ2 W2 H2 μ2} l2 x2 d2 h2 => own_core x2 (d1.mono l2) d2 h2 fun {r W3 H3 μ3} l3 x3 h3 => q ((l1.trans l2).trans l3) x3 (.of (.bl _)) h3⟩
theorem eqOK {X : Cx} {k : Nat} {L : EqLs} (e : X.K = K) (hL : EqL X k L) (hr : Room k X.A) : OpR X (compareOp .Eq) (rEqO K L) := by
  subst e
  exact op_eqO hL hr
theorem neOK {X : Cx} {k : Nat} {L : EqLs} (e : X.K = K) (hL : EqL X k L) (hr : Room (k + 1) X.A) : OpR X (compareOp .NotEq) (rNeO K L) := by
  subst e
  exact op_neO hL hr
theorem inOK {X : Cx} {k : Nat} {L : EqLs} (e : X.K = K) (hL : EqL X k L) (hr : Room (k + 1) X.A) : OpR X (compareOp .In) (rInO K L false) := by
  subst e
  exact op_inO hL hr
theorem notInOK {X : Cx} {k : Nat} {L : EqLs} (e : X.K = K) (hL : EqL X k L) (hr : Room (k + 1) X.A) : OpR X (compareOp .NotIn) (rInO K L true) := by
  subst e
  exact op_notInO hL hr
/-! ### in a list, by own == -/
def inOD (K : PySem.W.Frag) (L : EqLs) (x : T) : List T → Mu → (Bool → Mu → Prop) → Prop
  | [], μ, Ψ => Ψ false μ
  | z :: zs, μ, Ψ => eqOD K L z x μ (fun r μ1 => if r = true then Ψ true μ1 else inOD K L x zs μ1 Ψ) ∧ (Apart μ z x ∨ Ψ true μ)
theorem in_core {L : EqLs} {t : T} {l : Addr} {xs : List V} {Ψ : Bool → Mu → Prop} {Q : Bool → Hp → Prop} : ∀ {zs : List V} {ts : List T} {W : Wd} {H : Hp} {μ : Mu} {v : V}, Ok K W H μ → W.B l = some (.lst xs) → DnAll K W.B zs ts → Dv K W v t → inOD K L t ts μ Ψ → (∀ {r W' H' μ'}, W.Le W' → Ok K W' H' μ' → Ψ r μ' → Q r H') → goIn K L v l xs zs H Q
  | _, _, W, H, μ, v, x, _, .nil, d, h, q => q Wd.Le.refl x h
  | _, _, W, H, μ, v, x, eb, @DnAll.cons _ _ z τ zs ts dz da, d, h, q => by
    obtain ⟨h1, h2⟩ := h
    refine ⟨eq_core x (.of dz) d h1 fun {r W' H' μ'} l' x' h' => ⟨fun hr => ?_, fun hr => ⟨?_, ?_⟩⟩, fun a e1 e2 c => ?_⟩
    · subst hr
      exact q l' x' h'
    · exact .inl (.inl (x'.sb _ _ (l'.b _ _ eb)))
    · subst hr
      exact in_core x' (l'.b _ _ eb) (da.mono l'.b) (d.mono l') h' fun l2 x2 h2 => q (l'.trans l2) x2 h2
    · rcases h2 with h2 | h2
      · exact (apart_no x (.of dz) d h2 e1 e2 c).elim
      · exact ⟨fun _ => q Wd.Le.refl x h2, fun z => by cases z⟩
def rInOD (K : PySem.W.Frag) (L : EqLs) (neg : Bool) (ra rb : DE) : DE := fun ρ xw μ Φ => ra ρ xw μ fun a μ1 => rb ρ xw μ1 fun b μ2 => ∃ ts, unp b = .lst ts ∧ inOD K L a ts μ2 fun r μ3 => Φ (.bl (nb neg r)) μ3
instance sim_inO {L : EqLs} {neg : Bool} {ta tb : TE} {ra rb} [a : SimE K E ta ra] [b : SimE K E tb rb] : SimE K E (tOp (rInO K L neg) ta tb) (rInOD K L neg ra rb) := ⟨fun {W H σ ρ μ xw Φ Q} x s n h q =>
  a.run x s n h fun {v τ W1 H1 μ1} l1 x1 d1 h1 => b.run x1 (s.mono l1) (n.mono l1) h1 fun {v2 τ2 W2 H2 μ2} l2 x2 d2 h2 => by
    obtain ⟨ts, e, h2⟩ := h2
    have dn : Dn K W2.B v2 (.lst ts) := by
      rcases d2.dn with ⟨k, p, rfl, _⟩ | dn
      · cases e
      · rw [← e]; exact unp_dn dn
    cases dn with
    | @lst l xs _ eb da =>
      exact ⟨l, xs, rfl, .inl (.inl (x2.sb _ _ eb)), in_core x2 eb da (d1.mono l2) h2 fun {r W3 H3 μ3} l3 x3 h3 => q ((l1.trans l2).trans l3) x3 (.of (.bl _)) h3⟩⟩
end Dl

set_option maxRecDepth 100000
set_option maxHeartbeats 4000000
namespace Dl
open PySem PySem.Spec PyProof.Rows L2 Gd
variable {K : PySem.W.Frag} {E : XK}
/-! ### what is seen of data -/
@[simp] theorem unp_non : unp .non = .non := rfl
@[simp] theorem unp_bl {b : Bool} : unp (.bl b) = .bl b := rfl
@[simp] theorem unp_int {b : Int} : unp (.int b) = .int b := rfl
@[simp] theorem unp_str {b : PySem.Str} : unp (.str b) = .str b := rfl
@[simp] theorem unp_wst {b : PySem.Str} : unp (.wst b) = .wst b := rfl
@[simp] theorem unp_ty {b : String} : unp (.ty b) = .ty b := rfl
@[simp] theorem unp_lst {b : List T} : unp (.lst b) = .lst b := rfl
@[simp] theorem unp_tup {b : List T} : unp (.tup b) = .tup b := rfl
@[simp] theorem unp_cls {b : Addr} : unp (.cls b) = .cls b := rfl
@[simp] theorem unp_obj {b : Addr} {fs : List (PySem.Str × T)} : unp (.obj b fs) = .obj b fs := rfl
@[simp] theorem unp_far {b : Addr} {n : String} : unp (.far b n) = .far b n := rfl
@[simp] theorem unp_dct {b : Addr} : unp (.dct b) = .dct b := rfl
@[simp] theorem unp_pin {b : Addr} {t : T} : unp (.pin b t) = unp t := rfl
/-! ### a call as it is, or with a list lent -/
def tBorX (t : TE) : TE := t
theorem pe_borX {X : Cx} {e : Expr} {t : TE} (h : PE X e t) : PE X e (tBorX t) := h
def rBorX (n : Nat) (d : DSpec) (τs : List T) (ra : DA) : DE := fun ρ xw μ Φ => rCall0 n d τs ra ρ xw μ Φ ∨ rBor n d τs ra ρ xw μ Φ
instance sim_borX {n : Nat} {d : DSpec} {dvs : List V} {t : TA} {ra τs} [a : SimA K E t ra] [z : SimD K dvs τs] : SimE K E (tBorX (tCall (liftSp K n d) dvs (fun _ _ _ => False) t)) (rBorX n d τs ra) :=
  ⟨fun x s k h q => h.elim (fun h => (sim_call0 (K := K) (E := E) (n := n) (d := d) (dvs := dvs) (t := t) (ra := ra) (τs := τs)).run x s k h q) fun h => (sim_bor (E' := fun _ _ _ => False)).run x s k h q⟩
/-! ### a list that is changed later stands in a thing for a while -/
def tLend (_ : Nat) (t : TS) : TS := t
theorem pss_lend {X : Cx} {ss : List Stmt} {a b u : TS} (i : Nat) (h : PSs X ss (tSeq a (tSeq b u))) : PSs X ss (tSeq (tLend i (tSeq a b)) u) := h
def Res.gd : Res → Bool
  | .gone => true
  | .drw _ _ => true
  | _ => false
/-- things that are not asked for any more -/
inductive Fg : Mu → Mu → Prop
  | nil : Fg [] []
  | keep {r : Res} {μ μ' : Mu} (h : Fg μ μ') : Fg (r :: μ) (r :: μ')
  | drop {r : Res} {μ μ' : Mu} (h : Fg μ μ') : Fg (r :: μ) (.gone :: μ')
theorem Fg.len : ∀ {μ μ' : Mu}, Fg μ μ' → μ'.length = μ.length
  | _, _, .nil => rfl
  | _, _, .keep h => congrArg (· + 1) h.len
  | _, _, .drop h => congrArg (· + 1) h.len
theorem Fg.at_ : ∀ {μ μ' : Mu}, Fg μ μ' → ∀ {k : Nat} {r : Res}, μ'[k]? = some r → μ[k]? = some r ∨ (r = .gone ∧ ∃ r', μ[k]? = some r')
  | _, _, .keep h, 0, _, e => .inl e
  | _, _, .keep h, k + 1, _, e => h.at_ (k := k) e
  | _, _, .drop (r := r0) h, 0, _, e => .inr ⟨(Option.some.inj e).symm, r0, rfl⟩
  | _, _, .drop h, k + 1, _, e => h.at_ (k := k) e
theorem Fg.refl : ∀ μ : Mu, Fg μ μ
  | [] => .nil
  | _ :: r => .keep (Fg.refl r)
theorem Fg.gone : ∀ μ : Mu, Fg μ (List.replicate μ.length .gone)
  | [] => .nil
  | _ :: r => .drop (Fg.gone r)
theorem Fg.app : ∀ {μ μ' ν ν' : Mu}, Fg μ μ' → Fg ν ν' → Fg (μ ++ ν) (μ' ++ ν')
  | _, _, _, _, .nil, h => h
  | _, _, _, _, .keep g, h => .keep (g.app h)
  | _, _, _, _, .drop g, h => .drop (g.app h)
theorem Ok.fg {W : Wd} {H : Hp} {μ μ0 : Mu} (o : Ok K W H μ) (f : Fg μ μ0) : Ok K W H μ0 := by
  refine ⟨o.sg, o.sb, fun a k e => ?_, o.len.trans f.len.symm, fun k r e => ?_, o.tb⟩
  · rw [f.len]
    exact o.lab a k e
  · rcases f.at_ e with e1 | ⟨rfl, r2, e1⟩
    · exact o.res k r e1
    · obtain ⟨p, e2, _⟩ := o.res k r2 e1
      exact ⟨p, e2, trivial⟩
def rLend (i jj : Nat) (re : DE) (rc : DB) : DS := fun D xw ρ μ => match ρ[i]? with
  | some (some (.rs k)) => ∃ l μ0, Fg μ μ0 ∧ μ0[k]? = some (.lst l) ∧ re (ρ.set i (some (.lst l))) (fun _ _ _ => False) (μ0.set k .gone) fun τ μ1 => rc ((ρ.set i (some (.lst l))).set jj (some τ)) (fun _ _ _ => False) μ1 fun b μ2 => b = false ∧ μ2.all Res.gd = true ∧ D.nx (ρ.set jj none) (μ2.set k (.lst l))
  | _ => False
theorem Sl.none {W : Wd} {σ : L2.St} {ρ : Rho} {j : Nat} {o : Option V} (h : Sl K W σ ρ) : Sl K W (σ.set j o) (ρ.set j none) := by
  refine ⟨by rw [List.length_set, List.length_set]; exact h.1, fun i t e => ?_⟩
  by_cases z : j = i
  · subst z
    rw [List.getElem?_set] at e
    split at e
    · split at e <;> cases e
    · rename_i z2
      exact absurd rfl z2
  · rw [List.getElem?_set_ne z] at e ⊢
    exact h.2 i t e
theorem lend_back {W W3 : Wd} {H H3 : Hp} {μ μ3 : Mu} {k : Nat} {p : Addr} {l : List T} (o : Ok K W H μ) (el : μ[k]? = some (.lst l)) (ep : W.ad[k]? = some p) (le : W.Le W3) (o3 : Ok K W3 H3 μ3) (d3 : Dn K W3.B (.ref p) (.lst l)) (xs : List V) (ex : W3.B p = some (.lst xs)) (eh : H p = some (.lst xs)) (gd : μ3.all Res.gd = true) :
    ∃ W4, W.Le W4 ∧ Ok K W4 H3 (μ3.set k (.lst l)) := by
  obtain ⟨p1, ep1, own1, xs1, eh1, da⟩ := o.res k _ el
  rw [ep] at ep1
  cases ep1
  rw [eh] at eh1
  cases eh1
  obtain ⟨b1, g1, h1, lt1⟩ := o.lab p k own1
  have h3 : H3 p = some (.lst xs) := o3.sb _ _ ex
  have ad3 := le.ad _ _ ep
  have lt3 : k < μ3.length := by
    rw [← o3.len]
    exact (List.getElem?_eq_some_iff.mp ad3).1
  have noown : ∀ a j, W3.own a = some j → a ≠ p := fun a j e z => by
    subst z
    have := (o3.lab a j e).1
    rw [ex] at this
    cases this
  have le4 : W.Le { W3 with B := wo W3.B p, own := fun a => if a = p then some k else W3.own a } := by
    refine ⟨le.g, fun a u e => ?_, fun a u e => ?_, le.ad, le.t⟩
    · have ne : a ≠ p := fun z => by subst z; rw [b1] at e; cases e
      show wo W3.B p a = some u
      rw [wo_ne ne]
      exact le.b _ _ e
    · have e : wo W3.B p a = some u := e
      by_cases z : a = p
      · subst z
        unfold wo at e
        rw [if_pos rfl] at e
        cases e
      · rw [wo_ne z] at e
        exact le.nb _ _ e
  refine ⟨_, le4, o3.sg, fun a u e => ?_, fun a j e => ?_, by rw [List.length_set]; exact o3.len, fun j r e => ?_, o3.tb.wd rfl (fun a e => ?_) fun a e => ?_⟩
  · have e : wo W3.B p a = some u := e
    by_cases z : a = p
    · subst z
      unfold wo at e
      rw [if_pos rfl] at e
      cases e
    · rw [wo_ne z] at e
      exact o3.sb _ _ e
  · have e : (if a = p then some k else W3.own a) = some j := e
    by_cases z : a = p
    · subst z
      rw [if_pos rfl] at e
      cases e
      refine ⟨?_, ?_, by rw [h3]; simp, by rw [List.length_set]; exact lt3⟩
      · show wo W3.B a a = none
        unfold wo
        rw [if_pos rfl]
      · show W3.G a = none
        rw [le.g]
        exact g1
    · rw [if_neg z] at e
      obtain ⟨a1, a2, a3, a4⟩ := o3.lab a j e
      refine ⟨?_, a2, a3, by rw [List.length_set]; exact a4⟩
      show wo W3.B p a = none
      rw [wo_ne z]
      exact a1
  · by_cases z : k = j
    · subst z
      rw [List.getElem?_set_self lt3] at e
      cases e
      refine ⟨p, ad3, ?_, xs, h3, da.mono le4.b⟩
      show (if p = p then some k else W3.own p) = some k
      rw [if_pos rfl]
    · rw [List.getElem?_set_ne z] at e
      obtain ⟨q, eq, ro⟩ := o3.res j r e
      refine ⟨q, eq, ?_⟩
      have own4 : ∀ a i, W3.own a = some i → (if a = p then some k else W3.own a) = some i := fun a i h => by
        rw [if_neg (noown a i h)]
        exact h
      have g := List.all_eq_true.mp gd r (List.mem_of_getElem? e)
      cases r with
      | gone => trivial
      | drw s n =>
        obtain ⟨a1, lc, ll, cs, ls, i, a2, a3, rest⟩ := ro
        exact ⟨own4 _ _ a1, lc, ll, cs, ls, i, own4 _ _ a2, own4 _ _ a3, rest⟩
      | lst _ => cases g
      | obj _ _ => cases g
      | tab _ => cases g
  · by_cases z : a = p
    · subst z
      exact .inr ⟨_, h3, nt_lst⟩
    · refine .inl ?_
      rcases e with e | e | e
      · exact .inl e
      · refine .inr (.inl ?_)
        have e : wo W3.B p a ≠ none := e
        rw [wo_ne z] at e
        exact e
      · refine .inr (.inr ?_)
        have e : (if a = p then some k else W3.own a) ≠ none := e
        rw [if_neg z] at e
        exact e
  · by_cases z : a = p
    · subst z
      exact .inr ⟨_, h3, pl_lst⟩
    · have e : (if a = p then some k else W3.own a) ≠ none := e
      rw [if_neg z] at e
      exact .inl e
instance sim_lend {i jj : Nat} {te : TE} {c : TT} {ta : TE} {re rc} [a : SimE K E te re] [b : SimB K E c rc] : SimS K E (tLend i (tSeq (tAsg te (gName jj)) (tIfS c (tRet ta) tNext))) (rLend i jj re rc) := ⟨fun {W H σ ρ μ xw D De} o s n k h => by
  unfold rLend at h
  split at h
  · rename_i j e
    obtain ⟨l, μ0, fg, el, h⟩ := h
    have o := o.fg fg
    obtain ⟨v, ev, dv⟩ := s.2 i _ e
    obtain ⟨p, xs, W1, ea, l1, o1, fr⟩ := o.drop el
    obtain ⟨W2, l2, o2, d⟩ := fr.froz o1
    obtain ⟨p2, ep, rfl⟩ := (show ∃ p, _ from dv)
    rw [ea] at ep
    cases ep
    have l3 := l1.trans l2
    have s2 := (s.mono l3).set (i := i) (.of d)
    have es : σ.set i (some (.ref p)) = σ := by
      obtain ⟨lt, e3⟩ := List.getElem?_eq_some_iff.mp ev
      rw [← e3]
      exact List.set_getElem_self lt
    rw [es] at s2
    cases d with
    | @lst _ ys _ ey dy =>
      have hp : H p = some (.lst ys) := o2.sb _ _ ey
      refine a.run (Φ := fun τ μ1 => rc ((ρ.set i (some (.lst l))).set jj (some τ)) (fun _ _ _ => False) μ1 fun b μ2 => b = false ∧ μ2.all Res.gd = true ∧ D.nx (ρ.set jj none) (μ2.set j (.lst l))) o2 s2 (@xl_none K _ _) h fun {v τ W3 H3 μ3} l4 o3 d3 h3 => ?_
      refine b.run (Φ := fun b μ2 => b = false ∧ μ2.all Res.gd = true ∧ D.nx (ρ.set jj none) (μ2.set j (.lst l))) o3 ((s2.mono l4).set d3) (@xl_none K _ _) h3 fun {b W4 H4 μ4} l5 o4 h4 => ?_
      obtain ⟨rfl, gd, hn⟩ := h4
      have l6 := l3.trans (l4.trans l5)
      have ey4 := (l4.trans l5).b _ _ ey
      obtain ⟨W5, l7, o5⟩ := lend_back o el ea l6 o4 (.lst ey4 (dy.mono (l4.trans l5).b)) ys ey4 hp gd
      exact k.nx l7 o5 ((s.mono l7).none) hn
  · exact h.elim⟩
end Dl

/-! ### rounds: when calls begin -/
namespace Rm
/-- a call: when it comes, its name, its hours -/
abbrev Cal := Int × PySem.Str × Int
/-- when the calls of round k begin, the press being free from f on -/
def beg (L k : Int) : Int → List Cal → List Int
  | _, [] => []
  | f, c :: r => max f (k * L + c.1) :: beg L k (max f (k * L + c.1) + c.2.2) r
/-- .. from when on it is free behind them -/
def fin (L k : Int) : Int → List Cal → Int
  | f, [] => f
  | f, c :: r => fin L k (max f (k * L + c.1) + c.2.2) r
def tot : List Cal → Int
  | [] => 0
  | c :: r => c.2.2 + tot r
/-- from when on the press is free behind round k -/
def fre (L : Int) (l : List Cal) : Nat → Int
  | 0 => fin L 0 0 l
  | k + 1 => fin L (k + 1 : Nat) (fre L l k) l
/-- when the calls of round k begin -/
def bgs (L : Int) (l : List Cal) : Nat → List Int
  | 0 => beg L 0 0 l
  | k + 1 => beg L (k + 1 : Nat) (fre L l k) l
theorem beg_len (L k : Int) : ∀ (l : List Cal) (f : Int), (beg L k f l).length = l.length
  | [], _ => rfl
  | c :: r, f => congrArg (· + 1) (beg_len L k r _)
theorem bgs_len (L : Int) (l : List Cal) (k : Nat) : (bgs L l k).length = l.length := by
  cases k <;> exact beg_len ..
theorem tot_pos {l : List Cal} (h : ∀ c ∈ l, 0 ≤ c.2.2) : 0 ≤ tot l := by
  induction l with
  | nil => exact Int.le_refl _
  | cons c r ih =>
    have := h c List.mem_cons_self
    have := ih fun d hd => h d (List.mem_cons_of_mem _ hd)
    show 0 ≤ c.2.2 + tot r
    omega
theorem fin_ge (L k : Int) : ∀ (l : List Cal) (f : Int), f + tot l ≤ fin L k f l
  | [], f => by show f + 0 ≤ f; omega
  | c :: r, f => by
    have := fin_ge L k r (max f (k * L + c.1) + c.2.2)
    show f + (c.2.2 + tot r) ≤ fin L k _ r
    omega
theorem fin_mono (L k : Int) : ∀ (l : List Cal) {f g : Int}, f ≤ g → fin L k f l ≤ fin L k g l
  | [], _, _, h => h
  | c :: r, f, g, h => fin_mono L k r (by omega)
/-- later by a round: all is later by as much -/
theorem fin_shift (L k d : Int) : ∀ (l : List Cal) (f : Int), fin L (k + 1) (f + L) l = fin L k f l + L
  | [], f => rfl
  | c :: r, f => by
    show fin L (k + 1) (max (f + L) ((k + 1) * L + c.1) + c.2.2) r = fin L k (max f (k * L + c.1) + c.2.2) r + L
    rw [← fin_shift L k d r]
    congr 1
    rw [Int.add_mul]
    omega
theorem beg_shift (L k : Int) : ∀ (l : List Cal) (f : Int), beg L (k + 1) (f + L) l = (beg L k f l).map (· + L)
  | [], f => rfl
  | c :: r, f => by
    show max (f + L) ((k + 1) * L + c.1) :: beg L (k + 1) (max (f + L) ((k + 1) * L + c.1) + c.2.2) r = (max f (k * L + c.1) + L) :: (beg L k (max f (k * L + c.1) + c.2.2) r).map (· + L)
    have e : max (f + L) ((k + 1) * L + c.1) = max f (k * L + c.1) + L := by
      rw [Int.add_mul]
      omega
    rw [e, ← beg_shift L k r]
    congr 2
    omega
/-- the press is never free between: it begins each at once -/
def busy (L k : Int) : Int → List Cal → Prop
  | _, [] => True
  | f, c :: r => k * L + c.1 ≤ f ∧ busy L k (f + c.2.2) r
theorem busy_fin {L k : Int} : ∀ {l : List Cal} {f : Int}, busy L k f l → fin L k f l = f + tot l
  | [], f, _ => by show f = f + 0; omega
  | c :: r, f, h => by
    show fin L k (max f (k * L + c.1) + c.2.2) r = f + (c.2.2 + tot r)
    rw [Int.max_eq_left h.1, busy_fin h.2]
    omega
theorem busy_beg {L k : Int} {j d : Int} : ∀ {l : List Cal} {f : Int}, busy L k f l → busy L j (f + d) l → beg L j (f + d) l = (beg L k f l).map (· + d)
  | [], f, _, _ => rfl
  | c :: r, f, h, h2 => by
    show max (f + d) (j * L + c.1) :: beg L j (max (f + d) (j * L + c.1) + c.2.2) r = (max f (k * L + c.1) + d) :: (beg L k (max f (k * L + c.1) + c.2.2) r).map (· + d)
    rw [Int.max_eq_left h.1, Int.max_eq_left h2.1]
    have e : f + d + c.2.2 = f + c.2.2 + d := by omega
    rw [e, busy_beg h.2 (e ▸ h2.2)]
/-- what is ahead of a call in the round: the end of the round is behind it by all work behind -/
theorem fin_at (L k : Int) : ∀ (l : List Cal) (f : Int) (i : Nat) (c : Cal), l[i]? = some c → k * L + c.1 + tot (l.drop i) ≤ fin L k f l
  | c :: r, f, 0, d, e => by
    cases e
    have := fin_ge L k r (max f (k * L + c.1) + c.2.2)
    show k * L + c.1 + (c.2.2 + tot r) ≤ fin L k (max f (k * L + c.1) + c.2.2) r
    omega
  | c :: r, f, i + 1, d, e => fin_at L k r _ i d e
theorem tot_app (a b : List Cal) : tot (a ++ b) = tot a + tot b := by
  induction a with
  | nil => show tot b = 0 + tot b; omega
  | cons c r ih =>
    show c.2.2 + tot (r ++ b) = c.2.2 + tot r + tot b
    rw [ih]
    omega
theorem tot_split (l : List Cal) (i : Nat) : tot (l.take i) + tot (l.drop i) = tot l := by
  rw [← tot_app, List.take_append_drop]
theorem busy_of {L k : Int} : ∀ {l : List Cal} {f : Int}, (∀ (i : Nat) (c : Cal), l[i]? = some c → k * L + c.1 ≤ f + tot (l.take i)) → busy L k f l
  | [], _, _ => trivial
  | c :: r, f, h => by
    refine ⟨?_, busy_of fun i d e => ?_⟩
    · have := h 0 c rfl
      show k * L + c.1 ≤ f
      have z : tot ((c :: r).take 0) = 0 := rfl
      omega
    · have := h (i + 1) d e
      have z : tot ((c :: r).take (i + 1)) = c.2.2 + tot (r.take i) := rfl
      omega
/-- behind round k with more work than hours: round k + 1 has no pause -/
theorem busy_next {L k : Int} {l : List Cal} {f : Int} (h : L ≤ tot l) : busy L (k + 1) (fin L k f l) l := busy_of fun i c e => by
  have a := fin_at L k l f i c e
  have b := tot_split l i
  rw [Int.add_mul]
  omega
/-- from round 1 on all comes later by as much each round -/
theorem fre_step {L : Int} {l : List Cal} (k : Nat) : L ≤ tot l → fre L l (k + 1) = fre L l k + tot l := fun h => by
  cases k with
  | zero => exact busy_fin (busy_next (k := 0) h)
  | succ k => exact busy_fin (busy_next (k := (k + 1 : Nat)) h)
/-- from when on all is as if the press had been free: what it is free from does not matter where it is early enough -/
theorem fin_two (L k : Int) : ∀ (l : List Cal) (f g : Int), f ≤ g → fin L k g l ≤ max (fin L k f l) (g + tot l)
  | [], f, g, h => by show g ≤ max f (g + 0); omega
  | c :: r, f, g, h => by
    have := fin_two L k r (max f (k * L + c.1) + c.2.2) (max g (k * L + c.1) + c.2.2) (by omega)
    have m := fin_mono L k r (f := max f (k * L + c.1) + c.2.2) (g := max f (k * L + c.1) + c.2.2) (Int.le_refl _)
    have ge := fin_ge L k r (max f (k * L + c.1) + c.2.2)
    show fin L k (max g (k * L + c.1) + c.2.2) r ≤ max (fin L k (max f (k * L + c.1) + c.2.2) r) (g + (c.2.2 + tot r))
    by_cases z : g ≤ k * L + c.1
    · have e : max g (k * L + c.1) = max f (k * L + c.1) := by omega
      rw [e]
      omega
    · omega
/-- free no later than at the round's begin: free at its begin -/
theorem fin_early {L k : Int} {l : List Cal} {f g : Int} (ne : l ≠ []) (pos : ∀ c ∈ l, 0 ≤ c.1) (h : f ≤ k * L) (h2 : g ≤ k * L) : fin L k f l = fin L k g l := by
  cases l with
  | nil => exact absurd rfl ne
  | cons c r =>
    have := pos c List.mem_cons_self
    show fin L k (max f (k * L + c.1) + c.2.2) r = fin L k (max g (k * L + c.1) + c.2.2) r
    congr 1
    omega
theorem fre_slow {L : Int} {l : List Cal} (l0 : 0 ≤ L) (ne : l ≠ []) (h : tot l ≤ L) (pos : ∀ c ∈ l, 0 ≤ c.1) : ∀ k : Nat, fre L l (k + 1) = fre L l k + L
  | 0 => by
    have sh : fin L 1 L l = fin L 0 0 l + L := by
      have := fin_shift L 0 0 l 0
      simpa using this
    show fin L ((0 + 1 : Nat) : Int) (fin L 0 0 l) l = fin L 0 0 l + L
    rw [show ((0 + 1 : Nat) : Int) = 1 from rfl]
    by_cases z : fin L 0 0 l ≤ L
    · rw [fin_early (g := L) ne pos (by omega) (by omega)]
      exact sh
    · have a := fin_mono L 1 l (f := L) (g := fin L 0 0 l) (by omega)
      have b := fin_two L 1 l L (fin L 0 0 l) (by omega)
      omega
  | k + 1 => by
    show fin L ((k + 1 + 1 : Nat) : Int) (fre L l (k + 1)) l = fre L l (k + 1) + L
    rw [fre_slow l0 ne h pos k]
    have := fin_shift L ((k + 1 : Nat) : Int) 0 l (fre L l k)
    rw [show ((k + 1 + 1 : Nat) : Int) = ((k + 1 : Nat) : Int) + 1 from by omega, this]
    show fre L l (k + 1) + L = _
    rw [fre_slow l0 ne h pos k]
/-- by how much all is later each round, from round 1 on -/
def stp (L : Int) (l : List Cal) : Int := max L (tot l)
theorem bgs_step {L : Int} {l : List Cal} (l0 : 0 ≤ L) (pos : ∀ c ∈ l, 0 ≤ c.1) (k : Nat) : bgs L l (k + 1 + 1) = (bgs L l (k + 1)).map (· + stp L l) := by
  by_cases ne : l = []
  · subst ne
    rfl
  show beg L ((k + 1 + 1 : Nat) : Int) (fre L l (k + 1)) l = (beg L ((k + 1 : Nat) : Int) (fre L l k) l).map _
  rw [show ((k + 1 + 1 : Nat) : Int) = ((k + 1 : Nat) : Int) + 1 from by omega]
  by_cases h : tot l ≤ L
  · rw [fre_slow l0 ne h pos k, beg_shift]
    congr 1
    funext x
    unfold stp
    omega
  · have b1 : busy L ((k + 1 : Nat) : Int) (fre L l k) l := by
      cases k with
      | zero => exact busy_next (k := 0) (by omega)
      | succ k => exact busy_next (k := (k + 1 : Nat)) (by omega)
    have b2 : busy L (((k + 1 : Nat) : Int) + 1) (fre L l k + tot l) l := by
      have := busy_next (k := ((k + 1 : Nat) : Int)) (l := l) (f := fre L l k) (L := L) (by omega)
      rw [busy_fin b1] at this
      exact this
    rw [fre_step k (by omega), busy_beg b1 b2]
    congr 1
    funext x
    unfold stp
    omega
theorem bgs_on {L : Int} {l : List Cal} (l0 : 0 ≤ L) (pos : ∀ c ∈ l, 0 ≤ c.1) : ∀ k : Nat, bgs L l (k + 1) = (bgs L l 1).map (· + (k : Int) * stp L l)
  | 0 => by simp
  | k + 1 => by
    rw [bgs_step l0 pos k, bgs_on l0 pos k, List.map_map]
    congr 1
    funext x
    show x + (k : Int) * stp L l + stp L l = x + ((k + 1 : Nat) : Int) * stp L l
    rw [show ((k + 1 : Nat) : Int) = (k : Int) + 1 from by omega, Int.add_mul]
    omega

theorem beg_first {L k f : Int} {c : Cal} {r : List Cal} : (beg L k f (c :: r))[0]? = some (max f (k * L + c.1)) := rfl
theorem beg_next {L k : Int} : ∀ {l : List Cal} {f : Int} {i : Nat} {c d : Cal} {b : Int}, l[i]? = some c → l[i + 1]? = some d → (beg L k f l)[i]? = some b → (beg L k f l)[i + 1]? = some (max (b + c.2.2) (k * L + d.1))
  | c :: d :: r, f, 0, _, _, b, e1, e2, e3 => by
    cases e1
    cases e2
    cases e3
    rfl
  | c :: r, f, i + 1, _, _, b, e1, e2, e3 => beg_next (l := r) (i := i) e1 e2 e3
theorem fin_last {L k : Int} : ∀ {l : List Cal} {f : Int} {i : Nat} {c : Cal} {b : Int}, i + 1 = l.length → l[i]? = some c → (beg L k f l)[i]? = some b → fin L k f l = b + c.2.2
  | [c], f, 0, _, b, _, e1, e2 => by
    cases e1
    cases e2
    rfl
  | c :: d :: r, f, i + 1, _, b, e, e1, e2 => fin_last (l := d :: r) (i := i) (by simpa using e) e1 e2
/-- when call j of round k begins -/
def bAt (L : Int) (l : List Cal) (k : Nat) (j : Nat) : Int := ((bgs L l k)[j]?).getD 0
theorem bAt_some {L : Int} {l : List Cal} {k j : Nat} (h : j < l.length) : (bgs L l k)[j]? = some (bAt L l k j) := by
  have lt : j < (bgs L l k).length := by rw [bgs_len]; exact h
  unfold bAt
  rw [List.getElem?_eq_getElem lt]
  rfl
theorem bAt_on {L : Int} {l : List Cal} (l0 : 0 ≤ L) (pos : ∀ c ∈ l, 0 ≤ c.1) {k j : Nat} (h : j < l.length) : bAt L l (k + 1) j = bAt L l 1 j + (k : Int) * stp L l := by
  have e := bAt_some (L := L) (k := k + 1) h
  rw [bgs_on l0 pos k, List.getElem?_map, bAt_some (k := 1) h] at e
  exact (Option.some.inj e).symm
theorem bAt_next {L : Int} {l : List Cal} {k j : Nat} {c d : Cal} (e1 : l[j]? = some c) (e2 : l[j + 1]? = some d) : bAt L l k (j + 1) = max (bAt L l k j + c.2.2) (k * L + d.1) := by
  have lt := (List.getElem?_eq_some_iff.mp e2).1
  have a := bAt_some (L := L) (k := k) (j := j) (l := l) (by omega)
  have b := bAt_some (L := L) (k := k) lt
  have key : (bgs L l k)[j + 1]? = some (max (bAt L l k j + c.2.2) (k * L + d.1)) := by
    cases k with
    | zero => exact beg_next e1 e2 a
    | succ k => exact beg_next e1 e2 a
  rw [key] at b
  exact (Option.some.inj b).symm
theorem bAt_zero {L : Int} {l : List Cal} {c : Cal} (e : l[0]? = some c) : bAt L l 0 0 = max 0 (0 * L + c.1) := by
  cases l with
  | nil => cases e
  | cons d r =>
    cases e
    rfl
/-- the first call of a later round begins when the last one ahead has ended -/
theorem bAt_first {L : Int} {l : List Cal} {k n : Nat} {c d : Cal} (e : l[0]? = some c) (en : n + 1 = l.length) (ed : l[n]? = some d) : bAt L l (k + 1) 0 = max (bAt L l k n + d.2.2) ((k + 1 : Nat) * L + c.1) := by
  have lt : n < l.length := by omega
  have a := bAt_some (L := L) (k := k) lt
  have f : fre L l k = bAt L l k n + d.2.2 := by
    cases k with
    | zero => exact fin_last en ed a
    | succ k => exact fin_last en ed a
  cases l with
  | nil => cases e
  | cons c' r =>
    cases e
    show (some (max (fre L (c :: r) k) (((k + 1 : Nat) : Int) * L + c.1))).getD 0 = _
    rw [f]
    rfl
theorem tot_sum (l : List Cal) : (l.map fun c => c.2.2).sum = tot l := by
  induction l with
  | nil => rfl
  | cons c r ih =>
    rw [List.map_cons, List.sum_cons, ih]
    rfl
theorem stp_eq (L : Int) (l : List Cal) : (if tot l > L then tot l else L) = stp L l := by
  unfold stp
  split <;> omega
theorem fin_take {L k : Int} : ∀ {l : List Cal} {f : Int} {i : Nat} {c : Cal}, l[i]? = some c → fin L k f (l.take (i + 1)) = max (fin L k f (l.take i)) (k * L + c.1) + c.2.2
  | c :: r, f, 0, _, e => by
    cases e
    rfl
  | c :: r, f, i + 1, d, e => by
    show fin L k _ (r.take (i + 1)) = max (fin L k _ (r.take i)) _ + _
    exact fin_take e
theorem beg_take {L k : Int} : ∀ {l : List Cal} {f : Int} {i : Nat} {c : Cal}, l[i]? = some c → (beg L k f l)[i]? = some (max (fin L k f (l.take i)) (k * L + c.1))
  | c :: r, f, 0, _, e => by
    cases e
    rfl
  | c :: r, f, i + 1, d, e => by
    show (beg L k _ r)[i]? = some (max (fin L k _ (r.take i)) _)
    exact beg_take e
/-- what is free, what began, behind so many rounds -/
def freK (L : Int) (l : List Cal) : Nat → Int
  | 0 => 0
  | k + 1 => fre L l k
theorem freK_fin (L : Int) (l : List Cal) (k : Nat) : fin L k (freK L l k) l = freK L l (k + 1) := by
  cases k <;> rfl
theorem freK_beg (L : Int) (l : List Cal) (k : Nat) : beg L k (freK L l k) l = bgs L l k := by
  cases k <;> rfl
def accK (L : Int) (l : List Cal) : Nat → List Int
  | 0 => []
  | k + 1 => accK L l k ++ bgs L l k
theorem mx_eq (i j : Int) : (if j > i then j else i) = max i j := by
  split <;> omega
theorem take_snoc {α : Type} {l : List α} {i : Nat} {c : α} (h : l[i]? = some c) : l.take (i + 1) = l.take i ++ [c] := by
  rw [List.take_add_one, h]
  rfl
theorem beg_bd {L k : Int} : ∀ {l : List Cal} {f b : Int}, (∀ c ∈ l, 0 ≤ c.2.2 ∧ k * L + c.1 ≤ b) → f ≤ b → (∀ x ∈ beg L k f l, f ≤ x ∧ x ≤ b + tot l) ∧ f ≤ fin L k f l ∧ fin L k f l ≤ b + tot l
  | [], f, b, _, h => ⟨fun x hx => absurd hx List.not_mem_nil, Int.le_refl _, by show f ≤ b + 0; omega⟩
  | c :: r, f, b, hc, h => by
    have a := hc c List.mem_cons_self
    have tr := tot_pos (l := r) fun d hd => (hc d (List.mem_cons_of_mem _ hd)).1
    have ih := beg_bd (L := L) (k := k) (l := r) (f := max f (k * L + c.1) + c.2.2) (b := b + c.2.2) (fun d hd => by
      have := hc d (List.mem_cons_of_mem _ hd)
      omega) (by omega)
    have et : tot (c :: r) = c.2.2 + tot r := rfl
    refine ⟨fun x hx => ?_, ?_, ?_⟩
    · rcases List.mem_cons.mp (show x ∈ max f (k * L + c.1) :: beg L k (max f (k * L + c.1) + c.2.2) r from hx) with rfl | hx
      · omega
      · have := ih.1 x hx
        omega
    · show f ≤ fin L k (max f (k * L + c.1) + c.2.2) r
      have := ih.2.1
      omega
    · show fin L k (max f (k * L + c.1) + c.2.2) r ≤ _
      have := ih.2.2
      omega
end Rm

/-! ### rounds: what is on the press -/
namespace Rm
def cl (l : List Cal) (j : Nat) : Cal := (l[j]?).getD (0, "", 0)
theorem cl_eq {l : List Cal} {j : Nat} {c : Cal} (e : l[j]? = some c) : cl l j = c := by
  unfold cl
  rw [e]
  rfl
theorem cl_at {l : List Cal} {j : Nat} (h : j < l.length) : l[j]? = some (cl l j) := by
  unfold cl
  rw [List.getElem?_eq_getElem h]
  rfl
/-- rounds whose calls may be made -/
structure Okr (L : Int) (l : List Cal) : Prop where
  L1 : 1 ≤ L
  all : ∀ j, j < l.length → 0 ≤ (cl l j).1 ∧ (cl l j).1 < L ∧ 1 ≤ (cl l j).2.2
  up : ∀ i, i + 1 < l.length → (cl l i).1 ≤ (cl l (i + 1)).1
namespace Okr
variable {L : Int} {l : List Cal}
theorem pos (o : Okr L l) : ∀ c ∈ l, 0 ≤ c.1 := fun c hc => by
  obtain ⟨j, hj, e⟩ := List.getElem_of_mem hc
  have := (o.all j hj).1
  rw [cl_eq (List.getElem?_eq_getElem hj), e] at this
  exact this
theorem next (o : Okr L l) {k j : Nat} (h : j + 1 < l.length) : bAt L l k (j + 1) = max (bAt L l k j + (cl l j).2.2) (k * L + (cl l (j + 1)).1) := bAt_next (cl_at (by omega)) (cl_at h)
theorem same (o : Okr L l) {k i : Nat} : ∀ d, i + d + 1 < l.length → bAt L l k i + (cl l i).2.2 ≤ bAt L l k (i + d + 1)
  | 0, h => by
    rw [Nat.add_zero, o.next (by omega)]
    omega
  | d + 1, h => by
    have ih := o.same (k := k) (i := i) d (by omega)
    have a := (o.all (i + d + 1) (by omega)).2.2
    rw [show i + (d + 1) + 1 = (i + d + 1) + 1 from by omega, o.next (by omega)]
    omega
theorem last (o : Okr L l) {k j : Nat} (h : j < l.length) : bAt L l k j + (cl l j).2.2 ≤ bAt L l (k + 1) 0 := by
  obtain ⟨n, en⟩ : ∃ n, n + 1 = l.length := ⟨l.length - 1, by omega⟩
  rw [bAt_first (cl_at (by omega)) en (cl_at (by omega))]
  by_cases z : j = n
  · subst z
    omega
  · have s := o.same (k := k) (i := j) (n - j - 1) (by omega)
    rw [show j + (n - j - 1) + 1 = n from by omega] at s
    have a := (o.all n (by omega)).2.2
    omega
theorem zero (o : Okr L l) {k j : Nat} (h : j < l.length) : bAt L l k 0 ≤ bAt L l k j := by
  cases j with
  | zero => exact Int.le_refl _
  | succ j =>
    have s := o.same (k := k) (i := 0) j (by omega)
    rw [show 0 + j + 1 = j + 1 from by omega] at s
    have a := (o.all 0 (by omega)).2.2
    omega
theorem later (o : Okr L l) {k j i : Nat} (h : j < l.length) (h2 : i < l.length) : ∀ d, bAt L l k j + (cl l j).2.2 ≤ bAt L l (k + d + 1) i
  | 0 => Int.le_trans (o.last h) (o.zero h2)
  | d + 1 => by
    have a := o.later h h2 (k := k) d
    have b := o.last (k := k + d + 1) h2
    have c := o.zero (k := k + (d + 1) + 1) h2
    have p := (o.all i h2).2.2
    rw [show k + (d + 1) + 1 = k + d + 1 + 1 from by omega] at *
    omega
/-- one behind the other -/
theorem lt (o : Okr L l) {k j k2 j2 : Nat} (h : j < l.length) (h2 : j2 < l.length) (c : k < k2 ∨ (k = k2 ∧ j < j2)) : bAt L l k j + (cl l j).2.2 ≤ bAt L l k2 j2 := by
  rcases c with c | ⟨rfl, c⟩
  · have a := o.later h h2 (k := k) (k2 - k - 1)
    rwa [show k + (k2 - k - 1) + 1 = k2 from by omega] at a
  · have a := o.same (k := k) (i := j) (j2 - j - 1) (by omega)
    rwa [show j + (j2 - j - 1) + 1 = j2 from by omega] at a
theorem stp1 (o : Okr L l) : 1 ≤ stp L l := by
  have := o.L1
  unfold stp
  omega
/-- a call comes no later than it begins -/
theorem come (o : Okr L l) {k j : Nat} (h : j < l.length) : k * L + (cl l j).1 ≤ bAt L l k j := by
  have b : ∀ {l : List Cal} {f : Int} {j : Nat} {c : Cal} {x : Int}, l[j]? = some c → (beg L k f l)[j]? = some x → k * L + c.1 ≤ x := by
    intro l
    induction l with
    | nil => intro f j c x e; simp at e
    | cons d r ih =>
      intro f j c x e e2
      cases j with
      | zero =>
        cases e
        cases e2
        omega
      | succ j => exact ih (f := max f (k * L + d.1) + d.2.2) (by simpa using e) (by simpa [beg] using e2)
  have e := bAt_some (L := L) (k := k) h
  cases k with
  | zero => exact b (cl_at h) e
  | succ k => exact b (cl_at h) e
end Okr
/-- how many times a call has begun at an hour -/
def bgn (L : Int) (l : List Cal) (j : Nat) (h : Int) : Int := if h < bAt L l 0 j then 0 else if h < bAt L l 1 j then 1 else 2 + (h - bAt L l 1 j) / stp L l
theorem bgn_is {L : Int} {l : List Cal} (o : Okr L l) {j : Nat} (hj : j < l.length) (h : Int) : ∃ n : Nat, bgn L l j h = n ∧ (∀ k, k < n → bAt L l k j ≤ h) ∧ ∀ k, n ≤ k → h < bAt L l k j := by
  have mono : ∀ k k2, k < k2 → bAt L l k j < bAt L l k2 j := fun k k2 c => by
    have := o.lt (k := k) (k2 := k2) hj hj (.inl c)
    have := (o.all j hj).2.2
    omega
  have mono2 : ∀ k k2, k ≤ k2 → bAt L l k j ≤ bAt L l k2 j := fun k k2 c => by
    by_cases z : k = k2
    · rw [z]; exact Int.le_refl _
    · exact Int.le_of_lt (mono k k2 (by omega))
  unfold bgn
  by_cases a : h < bAt L l 0 j
  · rw [if_pos a]
    exact ⟨0, rfl, fun k hk => absurd hk (Nat.not_lt_zero k), fun k _ => Int.lt_of_lt_of_le a (mono2 0 k (Nat.zero_le _))⟩
  · rw [if_neg a]
    by_cases b : h < bAt L l 1 j
    · rw [if_pos b]
      refine ⟨1, rfl, fun k hk => ?_, fun k hk => Int.lt_of_lt_of_le b (mono2 1 k hk)⟩
      obtain rfl : k = 0 := by omega
      omega
    · rw [if_neg b]
      have st := o.stp1
      have d0 : 0 ≤ (h - bAt L l 1 j) / stp L l := Int.ediv_nonneg (by omega) (by omega)
      obtain ⟨m, em⟩ : ∃ m : Nat, (h - bAt L l 1 j) / stp L l = m := ⟨_, (Int.toNat_of_nonneg d0).symm⟩
      rw [em]
      have e1 : stp L l * m ≤ h - bAt L l 1 j := by
        rw [← em]
        exact Int.mul_ediv_self_le (by omega)
      have e2 : h - bAt L l 1 j < stp L l * (m + 1) := by
        rw [← em]
        have := Int.lt_mul_ediv_self_add (x := h - bAt L l 1 j) (k := stp L l) (by omega)
        rw [Int.mul_add, Int.mul_one]
        exact this
      refine ⟨m + 2, by omega, fun k hk => ?_, fun k hk => ?_⟩
      · refine Int.le_trans (mono2 k (m + 1) (by omega)) ?_
        rw [bAt_on (by have := o.L1; omega) o.pos hj, Int.mul_comm]
        omega
      · refine Int.lt_of_lt_of_le ?_ (mono2 (m + 2) k hk)
        rw [show m + 2 = (m + 1) + 1 from rfl, bAt_on (by have := o.L1; omega) o.pos hj, Int.mul_comm, show (((m + 1 : Nat) : Int)) = (m : Int) + 1 from rfl]
        omega
/-- call j of round k is on the press at h -/
def onp (L : Int) (l : List Cal) (k j : Nat) (h : Int) : Prop := bAt L l k j ≤ h ∧ h < bAt L l k j + (cl l j).2.2
theorem onp_one {L : Int} {l : List Cal} (o : Okr L l) {k j k2 j2 : Nat} {h : Int} (hj : j < l.length) (hj2 : j2 < l.length) (a : onp L l k j h) (b : onp L l k2 j2 h) : k = k2 ∧ j = j2 := by
  obtain ⟨a1, a2⟩ := a
  obtain ⟨b1, b2⟩ := b
  by_cases c : k < k2 ∨ (k = k2 ∧ j < j2)
  · have := o.lt hj hj2 c
    omega
  · by_cases d : k2 < k ∨ (k2 = k ∧ j2 < j)
    · have := o.lt hj2 hj d
      omega
    · omega
/-- what is on the press -/
def atF (L : Int) (l : List Cal) (h : Int) : Option (Nat × Nat) := ((List.range l.length).find? fun j => decide (bgn L l j (h - (cl l j).2.2) < bgn L l j h)).map fun j => ((bgn L l j (h - (cl l j).2.2)).toNat, j)
theorem bgn_onp {L : Int} {l : List Cal} (o : Okr L l) {j : Nat} (hj : j < l.length) {h : Int} (c : bgn L l j (h - (cl l j).2.2) < bgn L l j h) : onp L l (bgn L l j (h - (cl l j).2.2)).toNat j h ∧ bgn L l j (h - (cl l j).2.2) = ((bgn L l j (h - (cl l j).2.2)).toNat : Nat) := by
  obtain ⟨n, en, n1, n2⟩ := bgn_is o hj h
  obtain ⟨m, em, m1, m2⟩ := bgn_is o hj (h - (cl l j).2.2)
  rw [en, em] at c
  rw [em, Int.toNat_natCast]
  refine ⟨⟨n1 m (by omega), ?_⟩, rfl⟩
  have := m2 m (Nat.le_refl _)
  omega
theorem onp_bgn {L : Int} {l : List Cal} (o : Okr L l) {k j : Nat} (hj : j < l.length) {h : Int} (c : onp L l k j h) : bgn L l j (h - (cl l j).2.2) = k ∧ (k : Int) < bgn L l j h := by
  obtain ⟨n, en, n1, n2⟩ := bgn_is o hj h
  obtain ⟨m, em, m1, m2⟩ := bgn_is o hj (h - (cl l j).2.2)
  rw [en, em]
  have a : m ≤ k := by
    by_cases z : m ≤ k
    · exact z
    · have := m1 k (by omega)
      have := c.2
      omega
  have b : k ≤ m := by
    by_cases z : k ≤ m
    · exact z
    · have := m2 m (Nat.le_refl _)
      have := o.lt (k := m) (k2 := k) hj hj (.inl (by omega))
      have := c.1
      omega
  have d : k < n := by
    by_cases z : k < n
    · exact z
    · have := n2 k (by omega)
      have := c.1
      omega
  omega
theorem atF_some {L : Int} {l : List Cal} (o : Okr L l) {k j : Nat} {h : Int} (e : atF L l h = some (k, j)) : j < l.length ∧ onp L l k j h := by
  unfold atF at e
  rw [Option.map_eq_some_iff] at e
  obtain ⟨i, ei, e⟩ := e
  simp only [Prod.mk.injEq] at e
  obtain ⟨rfl, rfl⟩ := e
  have hi : i < l.length := List.mem_range.mp (List.mem_of_find?_eq_some ei)
  have c := List.find?_some ei
  exact ⟨hi, (bgn_onp o hi (by simpa using c)).1⟩
theorem atF_none {L : Int} {l : List Cal} (o : Okr L l) {h : Int} (e : atF L l h = none) {k j : Nat} (hj : j < l.length) : ¬ onp L l k j h := fun c => by
  unfold atF at e
  rw [Option.map_eq_none_iff, List.find?_eq_none] at e
  have := e j (List.mem_range.mpr hj)
  obtain ⟨a, b⟩ := onp_bgn o hj c
  simp only [decide_eq_true_eq] at this
  omega
theorem atF_is {L : Int} {l : List Cal} (o : Okr L l) {h : Int} {k j : Nat} (hj : j < l.length) (c : onp L l k j h) : atF L l h = some (k, j) := by
  cases e : atF L l h with
  | none => exact absurd c (atF_none o e hj)
  | some x =>
    obtain ⟨k2, j2⟩ := x
    obtain ⟨h2, c2⟩ := atF_some o e
    obtain ⟨rfl, rfl⟩ := onp_one o hj h2 c c2
    rfl
/-- where nothing is on the press, all that has come is done -/
theorem idle_end {L : Int} {l : List Cal} (o : Okr L l) {h : Int} (h0 : 0 ≤ h) (no : ∀ (k j : Nat), j < l.length → ¬ onp L l k j h) : ∀ (k j : Nat), j < l.length → (k : Int) * L + (cl l j).1 ≤ h → bAt L l k j + (cl l j).2.2 ≤ h := by
  have fin : ∀ k j : Nat, j < l.length → bAt L l k j ≤ h → bAt L l k j + (cl l j).2.2 ≤ h := fun k j hj a => by
    have := no k j hj
    unfold onp at this
    omega
  have row : ∀ k : Nat, (∀ j, 0 < l.length → j = 0 → (k : Int) * L + (cl l 0).1 ≤ h → bAt L l k 0 ≤ h) → ∀ j, j < l.length → (k : Int) * L + (cl l j).1 ≤ h → bAt L l k j ≤ h := by
    intro k z j
    induction j with
    | zero => exact fun hj c => z 0 hj rfl c
    | succ j ih =>
      intro hj c
      have u := o.up j hj
      have a := fin k j (by omega) (ih (by omega) (by omega))
      rw [o.next hj]
      omega
  intro k
  induction k with
  | zero =>
    intro j hj c
    refine fin 0 j hj (row 0 (fun _ hl _ c => ?_) j hj c)
    rw [bAt_zero (cl_at hl)]
    simp only [Int.natCast_zero, Int.zero_mul] at c ⊢
    omega
  | succ k ih =>
    intro j hj c
    refine fin (k + 1) j hj (row (k + 1) (fun _ hl _ c => ?_) j hj c)
    obtain ⟨n, en⟩ : ∃ n, n + 1 = l.length := ⟨l.length - 1, by omega⟩
    rw [bAt_first (cl_at hl) en (cl_at (by omega))]
    have a := o.all n (by omega)
    have b := o.all 0 hl
    have e : ((k + 1 : Nat) : Int) * L = k * L + L := by
      rw [show ((k + 1 : Nat) : Int) = (k : Int) + 1 from rfl, Int.add_mul, Int.one_mul]
    have := ih n (by omega) (by omega)
    omega
end Rm

/-! ### rounds: what has come, is done, waits -/
namespace Rm
/-- a sum over the first n numbers -/
def sm (f : Nat → Int) : Nat → Int
  | 0 => 0
  | n + 1 => sm f n + f n
theorem sm_eq {f g : Nat → Int} : ∀ {n : Nat}, (∀ k, k < n → f k = g k) → sm f n = sm g n
  | 0, _ => rfl
  | n + 1, h => by
    show sm f n + f n = sm g n + g n
    rw [sm_eq fun k hk => h k (by omega), h n (by omega)]
theorem sm_zero {f : Nat → Int} : ∀ {n : Nat}, (∀ k, k < n → f k = 0) → sm f n = 0
  | 0, _ => rfl
  | n + 1, h => by
    show sm f n + f n = 0
    rw [sm_zero fun k hk => h k (by omega), h n (by omega)]
    rfl
theorem sm_add {f g : Nat → Int} : ∀ n : Nat, sm (fun k => f k + g k) n = sm f n + sm g n
  | 0 => rfl
  | n + 1 => by
    show sm (fun k => f k + g k) n + (f n + g n) = (sm f n + f n) + (sm g n + g n)
    rw [sm_add n]
    omega
theorem sm_sub {f g : Nat → Int} : ∀ n : Nat, sm (fun k => f k - g k) n = sm f n - sm g n
  | 0 => rfl
  | n + 1 => by
    show sm (fun k => f k - g k) n + (f n - g n) = (sm f n + f n) - (sm g n + g n)
    rw [sm_sub n]
    omega
theorem sm_mul {f : Nat → Int} {c : Int} : ∀ n : Nat, sm (fun k => f k * c) n = sm f n * c
  | 0 => by
    show (0 : Int) = 0 * c
    rw [Int.zero_mul]
  | n + 1 => by
    show sm (fun k => f k * c) n + f n * c = (sm f n + f n) * c
    rw [sm_mul n, Int.add_mul]
theorem sm_const {c : Int} : ∀ n : Nat, sm (fun _ => c) n = n * c
  | 0 => by
    show (0 : Int) = ((0 : Nat) : Int) * c
    simp
  | n + 1 => by
    show sm (fun _ => c) n + c = ((n + 1 : Nat) : Int) * c
    rw [sm_const n, show ((n + 1 : Nat) : Int) = (n : Int) + 1 from rfl, Int.add_mul, Int.one_mul]
theorem sm_swap {f : Nat → Nat → Int} {m : Nat} : ∀ n : Nat, sm (fun k => sm (fun j => f k j) m) n = sm (fun j => sm (fun k => f k j) n) m
  | 0 => by
    show (0 : Int) = sm (fun j => 0) m
    rw [sm_zero fun _ _ => rfl]
  | n + 1 => by
    show sm (fun k => sm (fun j => f k j) m) n + sm (fun j => f n j) m = sm (fun j => sm (fun k => f k j) n + f n j) m
    rw [sm_swap n, ← sm_add]
theorem sm_app {f : Nat → Int} {n : Nat} : ∀ m : Nat, sm f (n + m) = sm f n + sm (fun k => f (n + k)) m
  | 0 => by
    show sm f n = sm f n + 0
    omega
  | m + 1 => by
    show sm f (n + m) + f (n + m) = sm f n + (sm (fun k => f (n + k)) m + f (n + m))
    rw [sm_app m]
    omega
theorem sm_nonneg {f : Nat → Int} : ∀ {n : Nat}, (∀ k, k < n → 0 ≤ f k) → 0 ≤ sm f n
  | 0, _ => Int.le_refl _
  | n + 1, h => by
    show 0 ≤ sm f n + f n
    have := sm_nonneg (f := f) (n := n) fun k hk => h k (by omega)
    have := h n (by omega)
    omega
theorem sm_le {f g : Nat → Int} : ∀ {n : Nat}, (∀ k, k < n → f k ≤ g k) → sm f n ≤ sm g n
  | 0, _ => Int.le_refl _
  | n + 1, h => by
    show sm f n + f n ≤ sm g n + g n
    have := sm_le (f := f) (g := g) (n := n) fun k hk => h k (by omega)
    have := h n (by omega)
    omega
theorem sm_first {f : Nat → Int} (n : Nat) : sm f (n + 1) = f 0 + sm (fun k => f (k + 1)) n := by
  rw [Nat.add_comm, sm_app]
  show (0 + f 0) + _ = _
  rw [Int.zero_add]
  congr 1
  exact sm_eq fun k _ => by rw [Nat.add_comm]
theorem sm_list {α : Type} {f : α → Int} : ∀ (xs : List α) (d : α), (xs.map f).sum = sm (fun j => f ((xs[j]?).getD d)) xs.length
  | [], _ => rfl
  | x :: xs, d => by
    rw [List.map_cons, List.sum_cons, sm_list xs d, List.length_cons, sm_first]
    rfl
theorem sum_filter {α : Type} {p : α → Bool} {v : α → Int} : ∀ xs : List α, ((xs.filter p).map v).sum = (xs.map fun x => if p x then v x else 0).sum
  | [] => rfl
  | x :: xs => by
    rw [List.map_cons, List.sum_cons, ← sum_filter xs]
    by_cases h : p x = true
    · rw [List.filter_cons_of_pos h, List.map_cons, List.sum_cons, if_pos h]
    · rw [List.filter_cons_of_neg h, if_neg h, Int.zero_add]
theorem len_filter {α : Type} {p : α → Bool} : ∀ xs : List α, ((xs.filter p).length : Int) = (xs.map fun x => if p x then (1 : Int) else 0).sum
  | [] => rfl
  | x :: xs => by
    rw [List.map_cons, List.sum_cons, ← len_filter xs]
    by_cases h : p x = true
    · rw [List.filter_cons_of_pos h, if_pos h, List.length_cons]
      omega
    · rw [List.filter_cons_of_neg h, if_neg h, Int.zero_add]
theorem tot_sm (l : List Cal) : tot l = sm (fun j => (cl l j).2.2) l.length := by
  rw [← tot_sum, sm_list l (0, "", 0)]
  rfl
/-- between nought and w -/
def clp (w x : Int) : Int := max 0 (min w x)
/-- how many times a call has come -/
def cme (L : Int) (l : List Cal) (j : Nat) (h : Int) : Int := (h - (cl l j).1) / L + 1
/-- how many times it has ended -/
def nde (L : Int) (l : List Cal) (j : Nat) (h : Int) : Int := bgn L l j (h - (cl l j).2.2)
/-- the hours done for it -/
def dn1 (L : Int) (l : List Cal) (j : Nat) (h : Int) : Int :=
  if bgn L l j h = nde L l j h then nde L l j h * (cl l j).2.2 else nde L l j h * (cl l j).2.2 + h - bAt L l (nde L l j h).toNat j
/-- the hours done -/
def dnA (L : Int) (l : List Cal) (h : Int) : Int := sm (fun j => dn1 L l j h) l.length
/-- the hours come -/
def cmA (L : Int) (l : List Cal) (h : Int) : Int := sm (fun j => cme L l j h * (cl l j).2.2) l.length
/-- the hours that wait -/
def wtn (L : Int) (l : List Cal) (h : Int) : Int := cmA L l h - dnA L l h
/-- the calls that wait, or are at the press -/
def hmn (L : Int) (l : List Cal) (h : Int) : Int := sm (fun j => cme L l j h - nde L l j h) l.length
/-- the idle hours -/
def idl (L : Int) (l : List Cal) (h : Int) : Int := h - dnA L l h

theorem sm_ind {a n : Nat} {p : Nat → Prop} [DecidablePred p] (an : a ≤ n) (h : ∀ k, k < n → (p k ↔ k < a)) : sm (fun k => if p k then 1 else 0) n = a := by
  obtain ⟨m, rfl⟩ : ∃ m, n = a + m := ⟨n - a, by omega⟩
  rw [sm_app, sm_eq (g := fun _ => 1) fun k hk => if_pos ((h k (by omega)).mpr hk), sm_const,
    sm_zero fun k hk => if_neg fun z => by have := (h (a + k) (by omega)).mp z; omega]
  omega
section
variable {L : Int} {l : List Cal}
theorem cme_is (o : Okr L l) {j : Nat} (hj : j < l.length) {h : Int} (h0 : 0 ≤ h) : ∃ n : Nat, cme L l j h = n ∧ ∀ k : Nat, (k : Int) * L + (cl l j).1 ≤ h ↔ k < n := by
  have l1 := o.1
  obtain ⟨c0, c1, _⟩ := o.all j hj
  have dm := Int.emod_add_mul_ediv (h - (cl l j).1) L
  have m0 := Int.emod_nonneg (h - (cl l j).1) (show L ≠ 0 by omega)
  have m1 := Int.emod_lt_of_pos (h - (cl l j).1) (show 0 < L by omega)
  obtain ⟨q, eq⟩ : ∃ q, (h - (cl l j).1) / L = q := ⟨_, rfl⟩
  rw [eq] at dm
  have q1 : -1 ≤ q := by
    by_cases z : -1 ≤ q
    · exact z
    · have : L * q ≤ L * (-2) := Int.mul_le_mul_of_nonneg_left (by omega) (by omega)
      omega
  refine ⟨(q + 1).toNat, by unfold cme; rw [eq]; omega, fun k => ?_⟩
  constructor
  · intro a
    by_cases z : (k : Int) ≤ q
    · omega
    · have : L * (q + 1) ≤ L * (k : Int) := Int.mul_le_mul_of_nonneg_left (by omega) (by omega)
      rw [Int.mul_add, Int.mul_one, Int.mul_comm L k] at this
      omega
  · intro a
    have : L * (k : Int) ≤ L * q := Int.mul_le_mul_of_nonneg_left (by omega) (by omega)
    rw [Int.mul_comm L k] at this
    omega
theorem cme_sm (o : Okr L l) {j : Nat} (hj : j < l.length) {h : Int} (h0 : 0 ≤ h) {n : Nat} (hn : h < n * L) : cme L l j h = sm (fun k => if (k : Int) * L + (cl l j).1 ≤ h then 1 else 0) n := by
  obtain ⟨m, e, hm⟩ := cme_is o hj h0
  obtain ⟨c0, c1, _⟩ := o.all j hj
  rw [e, sm_ind (a := m) (p := fun k => (k : Int) * L + (cl l j).1 ≤ h) ?_ fun k _ => hm k]
  by_cases z : m ≤ n
  · exact z
  · have := (hm n).mpr (by omega)
    omega
theorem nde_sm (o : Okr L l) {j : Nat} (hj : j < l.length) {h : Int} {n : Nat} (hn : h < n * L) : nde L l j h = sm (fun k => if bAt L l k j + (cl l j).2.2 ≤ h then 1 else 0) n := by
  obtain ⟨m, e, a, b⟩ := bgn_is o hj (h - (cl l j).2.2)
  obtain ⟨c0, c1, c2⟩ := o.all j hj
  unfold nde
  rw [e, sm_ind (a := m) (p := fun k => bAt L l k j + (cl l j).2.2 ≤ h) ?_ fun k _ => ⟨fun z => ?_, fun z => ?_⟩]
  · by_cases z : m ≤ n
    · exact z
    · have := a n (by omega)
      have := o.come (k := n) hj
      omega
  · by_cases q : k < m
    · exact q
    · have := b k (by omega)
      omega
  · have := a k z
    omega
theorem dn1_sm (o : Okr L l) {j : Nat} (hj : j < l.length) {h : Int} {n : Nat} (hn : h ≤ n * L) : dn1 L l j h = sm (fun k => clp (cl l j).2.2 (h - bAt L l k j)) n := by
  obtain ⟨m, e, a, b⟩ := bgn_is o hj (h - (cl l j).2.2)
  obtain ⟨m2, e2, a2, b2⟩ := bgn_is o hj h
  obtain ⟨c0, c1, c2⟩ := o.all j hj
  have mn : m ≤ n := by
    by_cases z : m ≤ n
    · exact z
    · have := a n (by omega)
      have := o.come (k := n) hj
      omega
  obtain ⟨d, rfl⟩ : ∃ d, n = m + d := ⟨n - m, by omega⟩
  unfold dn1 nde
  rw [e, e2, sm_app, sm_eq (g := fun _ => (cl l j).2.2) (n := m) fun k hk => by have := a k hk; unfold clp; omega, sm_const]
  have lat : ∀ k, m < k → h < bAt L l k j := fun k hk => by
    have := b m (Nat.le_refl _)
    have := o.lt (k := m) (k2 := k) hj hj (.inl hk)
    omega
  have m2m : m ≤ m2 := by
    by_cases z : m ≤ m2
    · exact z
    · have := a m2 (by omega)
      have := b2 m2 (Nat.le_refl _)
      omega
  by_cases q : m2 = m
  · subst q
    rw [if_pos rfl, sm_zero fun k _ => by have := b2 (m2 + k) (by omega); unfold clp; omega]
    omega
  · rw [if_neg (by omega), Int.toNat_natCast]
    have am := a2 m (by omega)
    have bm := b m (Nat.le_refl _)
    by_cases z : d = 0
    · subst z
      have := o.come (k := m) hj
      rw [Nat.add_zero] at hn
      show _ = _ + (0 : Int)
      omega
    obtain ⟨d, rfl⟩ : ∃ d', d = d' + 1 := ⟨d - 1, by omega⟩
    rw [sm_first, sm_zero fun k _ => by have := lat (m + (k + 1)) (by omega); unfold clp; omega]
    show _ = (m : Int) * _ + (clp _ (h - bAt L l (m + 0) j) + 0)
    rw [Nat.add_zero]
    unfold clp
    omega
end
end Rm

namespace Rm
section
variable {L : Int} {l : List Cal}
theorem cme_rest (o : Okr L l) {j : Nat} (hj : j < l.length) (h : Int) : cme L l j h = h / L + if (cl l j).1 ≤ h % L then 1 else 0 := by
  have l1 := o.1
  obtain ⟨c0, c1, _⟩ := o.all j hj
  have m0 := Int.emod_nonneg h (show L ≠ 0 by omega)
  have m1 := Int.emod_lt_of_pos h (show 0 < L by omega)
  have dm := Int.emod_add_mul_ediv h L
  unfold cme
  have e : h - (cl l j).1 = (h % L - (cl l j).1) + (h / L) * L := by
    rw [Int.mul_comm]
    omega
  rw [e, Int.add_mul_ediv_right _ _ (by omega)]
  split
  · rw [Int.ediv_eq_zero_of_lt (by omega) (by omega)]
    omega
  · have : (h % L - (cl l j).1) / L = -1 := by
      have e2 : h % L - (cl l j).1 = (h % L - (cl l j).1 + L) + (-1) * L := by omega
      rw [e2, Int.add_mul_ediv_right _ _ (by omega), Int.ediv_eq_zero_of_lt (by omega) (by omega)]
      omega
    omega
theorem cmA_rest (o : Okr L l) (h : Int) : cmA L l h = (h / L) * tot l + sm (fun j => if (cl l j).1 ≤ h % L then (cl l j).2.2 else 0) l.length := by
  unfold cmA
  rw [tot_sm, Int.mul_comm, ← sm_mul, ← sm_add]
  refine sm_eq fun j hj => ?_
  show cme L l j h * _ = _
  rw [cme_rest o hj, Int.add_mul, Int.mul_comm]
  split <;> simp
/-- where a call is at the press -/
theorem nde_on (o : Okr L l) {t j : Nat} (hj : j < l.length) {h : Int} (c : onp L l t j h) {i : Nat} (hi : i < l.length) : nde L l i h = t + if i < j then 1 else 0 := by
  obtain ⟨m, e, a, b⟩ := bgn_is o hi (h - (cl l i).2.2)
  obtain ⟨c1, c2⟩ := c
  unfold nde
  rw [e]
  have w := (o.all i hi).2.2
  split
  · rename_i ij
    have x := o.lt (k := t) (k2 := t) hi hj (.inr ⟨rfl, ij⟩)
    have y := o.lt (k := t) (k2 := t + 1) hj hi (.inl (by omega))
    have : m = t + 1 := by
      by_cases z : m < t + 1
      · have := b t (by omega)
        omega
      · by_cases z2 : t + 1 < m
        · have := a (t + 1) z2
          omega
        · omega
    omega
  · rename_i ij
    have x : h < bAt L l t i + (cl l i).2.2 := by
      by_cases z : i = j
      · rw [z]; exact c2
      · have := o.lt (k := t) (k2 := t) hj hi (.inr ⟨rfl, by omega⟩)
        omega
    have : m = t := by
      by_cases z : m < t
      · have := b m (Nat.le_refl _)
        have := o.lt (k := m) (k2 := t) hi hj (.inl z)
        omega
      · by_cases z2 : t < m
        · have := a t z2
          omega
        · omega
    omega
theorem bgn_on (o : Okr L l) {t j : Nat} (hj : j < l.length) {h : Int} (c : onp L l t j h) {i : Nat} (hi : i < l.length) : bgn L l i h = t + if i ≤ j then 1 else 0 := by
  obtain ⟨m, e, a, b⟩ := bgn_is o hi h
  obtain ⟨c1, c2⟩ := c
  rw [e]
  have w := (o.all i hi).2.2
  split
  · rename_i ij
    have x : bAt L l t i ≤ h := by
      by_cases z : i = j
      · rw [z]; exact c1
      · have := o.lt (k := t) (k2 := t) hi hj (.inr ⟨rfl, by omega⟩)
        omega
    have y := o.lt (k := t) (k2 := t + 1) hj hi (.inl (by omega))
    have : m = t + 1 := by
      by_cases z : m < t + 1
      · have := b t (by omega)
        omega
      · by_cases z2 : t + 1 < m
        · have := a (t + 1) z2
          omega
        · omega
    omega
  · rename_i ij
    have x := o.lt (k := t) (k2 := t) hj hi (.inr ⟨rfl, by omega⟩)
    have : m = t := by
      by_cases z : m < t
      · have := b m (Nat.le_refl _)
        have := o.lt (k := m) (k2 := t) hi hj (.inl z)
        omega
      · by_cases z2 : t < m
        · have := a t z2
          omega
        · omega
    omega
theorem sm_pre {f : Nat → Int} {j : Nat} : ∀ {n : Nat}, j ≤ n → sm (fun i => if i < j then f i else 0) n = sm f j := fun {n} h => by
  obtain ⟨d, rfl⟩ : ∃ d, n = j + d := ⟨n - j, by omega⟩
  rw [sm_app, sm_eq (g := f) fun i hi => if_pos hi, sm_zero (n := d) fun i _ => if_neg (by omega)]
  omega
theorem tot_take {j : Nat} (h : j ≤ l.length) : tot (l.take j) = sm (fun i => (cl l i).2.2) j := by
  rw [tot_sm, List.length_take, Nat.min_eq_left h]
  refine sm_eq fun i hi => ?_
  unfold cl
  rw [List.getElem?_take, if_pos hi]
theorem dnA_on (o : Okr L l) {t j : Nat} (hj : j < l.length) {h : Int} (c : onp L l t j h) : dnA L l h = t * tot l + tot (l.take j) + (h - bAt L l t j) := by
  have e : ∀ i, i < l.length → dn1 L l i h = (t * (cl l i).2.2 + if i < j then (cl l i).2.2 else 0) + if i = j then h - bAt L l t j else 0 := by
    intro i hi
    unfold dn1
    rw [nde_on o hj c hi, bgn_on o hj c hi]
    by_cases a : i < j
    · rw [if_pos a, if_pos (show i ≤ j by omega), if_pos rfl, if_pos a, if_neg (by omega), Int.add_mul, Int.one_mul]
      omega
    · by_cases b : i = j
      · subst b
        rw [if_neg a, if_pos (Nat.le_refl _), if_neg (by omega), if_neg a, if_pos rfl, show ((t : Int) + 0) = t from by omega, Int.toNat_natCast]
        omega
      · rw [if_neg a, if_neg (show ¬ i ≤ j by omega), if_pos rfl, if_neg a, if_neg b, show ((t : Int) + 0) = t from by omega]
        omega
  unfold dnA
  rw [sm_eq e, sm_add, sm_add, sm_pre (by omega), tot_take (by omega), tot_sm, Int.mul_comm (t : Int), ← sm_mul]
  congr 1
  · congr 1
    exact sm_eq fun i _ => Int.mul_comm _ _
  · have : ∀ n, j < n → sm (fun i => if i = j then h - bAt L l t j else 0) n = h - bAt L l t j := by
      intro n hn
      obtain ⟨d, rfl⟩ : ∃ d, n = j + (d + 1) := ⟨n - j - 1, by omega⟩
      rw [sm_app, sm_zero (n := j) fun i hi => if_neg (by omega), sm_first, sm_zero (n := d) fun i _ => if_neg (by omega)]
      show 0 + ((if j + 0 = j then _ else _) + 0) = _
      rw [if_pos (by omega)]
      omega
    exact this _ hj
theorem nde_sum_on (o : Okr L l) {t j : Nat} (hj : j < l.length) {h : Int} (c : onp L l t j h) : sm (fun i => nde L l i h) l.length = t * (l.length : Nat) + j := by
  rw [sm_eq (g := fun i => (t : Int) + if i < j then 1 else 0) fun i hi => nde_on o hj c hi, sm_add, sm_const, sm_pre (f := fun _ => 1) (by omega), sm_const]
  rw [Int.mul_comm]
  omega
/-- where nothing is -/
theorem nde_off (o : Okr L l) {h : Int} (h0 : 0 ≤ h) (no : ∀ (k j : Nat), j < l.length → ¬ onp L l k j h) {i : Nat} (hi : i < l.length) : nde L l i h = cme L l i h ∧ bgn L l i h = cme L l i h := by
  obtain ⟨n, e, hn⟩ := cme_is o hi h0
  obtain ⟨m, e1, a, b⟩ := bgn_is o hi (h - (cl l i).2.2)
  obtain ⟨m2, e2, a2, b2⟩ := bgn_is o hi h
  have w := (o.all i hi).2.2
  have ie := idle_end o h0 no
  have x : m = n := by
    by_cases z : m < n
    · have := ie m i hi ((hn m).mpr z)
      have := b m (Nat.le_refl _)
      omega
    · by_cases z2 : n < m
      · have := a n z2
        have := o.come (k := n) hi
        have := (hn n).mp (by omega)
        omega
      · omega
  have y : m2 = n := by
    by_cases z : m2 < n
    · have := ie m2 i hi ((hn m2).mpr z)
      have := b2 m2 (Nat.le_refl _)
      omega
    · by_cases z2 : n < m2
      · have := a2 n z2
        have := o.come (k := n) hi
        have := (hn n).mp (by omega)
        omega
      · omega
  unfold nde
  rw [e1, e2, e, x, y]
  exact ⟨rfl, rfl⟩
theorem wtn_off (o : Okr L l) {h : Int} (h0 : 0 ≤ h) (no : ∀ (k j : Nat), j < l.length → ¬ onp L l k j h) : dnA L l h = cmA L l h ∧ hmn L l h = 0 := by
  constructor
  · refine sm_eq fun j hj => ?_
    obtain ⟨a, b⟩ := nde_off o h0 no hj
    show dn1 L l j h = _
    unfold dn1
    rw [a, b, if_pos rfl]
  · refine sm_zero fun j hj => ?_
    obtain ⟨a, b⟩ := nde_off o h0 no hj
    show cme L l j h - nde L l j h = 0
    omega
/-- by the rows of so many rounds -/
theorem wtn_rows (o : Okr L l) {h : Int} (h0 : 0 ≤ h) {n : Nat} (hn : h < n * L) :
    wtn L l h = sm (fun k => sm (fun j => if (k : Int) * L + (cl l j).1 ≤ h ∧ h < bAt L l k j + (cl l j).2.2 then bAt L l k j + (cl l j).2.2 - max (bAt L l k j) h else 0) l.length) n := by
  unfold wtn cmA dnA
  rw [← sm_sub, sm_swap]
  refine sm_eq fun j hj => ?_
  show cme L l j h * _ - dn1 L l j h = _
  rw [dn1_sm o hj (n := n) (by omega), cme_sm o hj h0 hn, ← sm_mul, ← sm_sub]
  refine sm_eq fun k _ => ?_
  have w := (o.all j hj).2.2
  have co := o.come (k := k) hj
  unfold clp
  by_cases a : (k : Int) * L + (cl l j).1 ≤ h
  · by_cases b : h < bAt L l k j + (cl l j).2.2
    · rw [if_pos a, if_pos ⟨a, b⟩]
      omega
    · rw [if_pos a, if_neg (fun z => b z.2)]
      omega
  · rw [if_neg a, if_neg (fun z => a z.1)]
    omega
theorem hmn_rows (o : Okr L l) {h : Int} (h0 : 0 ≤ h) {n : Nat} (hn : h < n * L) :
    hmn L l h = sm (fun k => sm (fun j => if (k : Int) * L + (cl l j).1 ≤ h ∧ h < bAt L l k j + (cl l j).2.2 then 1 else 0) l.length) n := by
  unfold hmn
  rw [sm_swap]
  refine sm_eq fun j hj => ?_
  show cme L l j h - nde L l j h = _
  rw [nde_sm o hj hn, cme_sm o hj h0 hn, ← sm_sub]
  refine sm_eq fun k _ => ?_
  have w := (o.all j hj).2.2
  have co := o.come (k := k) hj
  by_cases a : (k : Int) * L + (cl l j).1 ≤ h
  · by_cases b : h < bAt L l k j + (cl l j).2.2
    · rw [if_pos a, if_neg (show ¬ bAt L l k j + (cl l j).2.2 ≤ h by omega), if_pos ⟨a, b⟩]
      rfl
    · rw [if_pos a, if_pos (show bAt L l k j + (cl l j).2.2 ≤ h by omega), if_neg (fun z => b z.2)]
      rfl
  · rw [if_neg a, if_neg (show ¬ bAt L l k j + (cl l j).2.2 ≤ h by omega), if_neg (fun z => a z.1)]
    rfl
theorem dnA_rows (o : Okr L l) {h : Int} {n : Nat} (hn : h ≤ n * L) :
    dnA L l h = sm (fun k => sm (fun j => if bAt L l k j < h then min (bAt L l k j + (cl l j).2.2) h - bAt L l k j else 0) l.length) n := by
  unfold dnA
  rw [sm_swap]
  refine sm_eq fun j hj => ?_
  show dn1 L l j h = _
  rw [dn1_sm o hj hn]
  refine sm_eq fun k _ => ?_
  have w := (o.all j hj).2.2
  unfold clp
  split <;> omega
end
end Rm

/-! ### rounds: from the first round's end on all comes round -/
namespace Rm
theorem fin_app (L k : Int) : ∀ (a b : List Cal) (f : Int), fin L k f (a ++ b) = fin L k (fin L k f a) b
  | [], b, f => rfl
  | c :: r, b, f => fin_app L k r b _
theorem fin_max {L k : Int} {l : List Cal} {f g : Int} (h : f ≤ g) : fin L k g l = max (fin L k f l) (g + tot l) := by
  have a := fin_two L k l f g h
  have b := fin_mono L k l h
  have c := fin_ge L k l g
  omega
theorem busy_at {L k : Int} : ∀ {l : List Cal} {f : Int}, busy L k f l → ∀ {i : Nat}, i < l.length → (beg L k f l)[i]? = some (f + tot (l.take i))
  | c :: r, f, h, 0, _ => by
    show some (max f (k * L + c.1)) = some (f + 0)
    rw [Int.max_eq_left h.1, Int.add_zero]
  | c :: r, f, h, i + 1, hi => by
    show (beg L k (max f (k * L + c.1) + c.2.2) r)[i]? = some (f + (c.2.2 + tot (r.take i)))
    rw [Int.max_eq_left h.1, busy_at h.2 (by simpa using hi), Int.add_assoc]
section
variable {L : Int} {l : List Cal}
theorem take1 {j : Nat} (hj : j < l.length) : tot (l.take (j + 1)) = tot (l.take j) + (cl l j).2.2 := by
  rw [take_snoc (cl_at hj), tot_app]
  show _ + (_ + 0) = _
  omega
theorem b0_is {j : Nat} (hj : j < l.length) : bAt L l 0 j = max (fin L 0 0 (l.take j)) ((cl l j).1) := by
  have e := bAt_some (L := L) (k := 0) hj
  have e2 : (bgs L l 0)[j]? = _ := beg_take (L := L) (k := 0) (f := 0) (cl_at hj)
  rw [e2] at e
  have := Option.some.inj e
  omega
theorem e0_is {j : Nat} (hj : j < l.length) : bAt L l 0 j + (cl l j).2.2 = fin L 0 0 (l.take (j + 1)) := by
  rw [b0_is hj, fin_take (cl_at hj)]
  omega
theorem b1_is {j : Nat} (hj : j < l.length) : bAt L l 1 j = max (fin L 1 (fre L l 0) (l.take j)) (L + (cl l j).1) := by
  have e := bAt_some (L := L) (k := 1) hj
  have e2 : (bgs L l 1)[j]? = _ := beg_take (L := L) (k := (1 : Nat)) (f := fre L l 0) (cl_at hj)
  rw [e2] at e
  have := Option.some.inj e
  have h1 : ((1 : Nat) : Int) * L = L := by omega
  rw [h1] at this
  exact this.symm
theorem sh1 : fin L 1 L l = fin L 0 0 l + L := by
  have := fin_shift L 0 0 l 0
  rw [Int.zero_add, Int.zero_add] at this
  exact this
/-- round 1 behind a round 0 that ends late -/
theorem b1_late {j : Nat} (hj : j < l.length) (h : L ≤ fre L l 0) : bAt L l 1 j = max (bAt L l 0 j + L) (fre L l 0 + tot (l.take j)) := by
  rw [b1_is hj, b0_is hj, fin_max h, sh1]
  omega
/-- .. in time -/
theorem b1_early (o : Okr L l) {j : Nat} (hj : j < l.length) (h : fre L l 0 ≤ L) : bAt L l 1 j = bAt L l 0 j + L := by
  have l1 := o.1
  rw [b1_is hj, b0_is hj]
  cases j with
  | zero =>
    have c0 := (o.all 0 hj).1
    rw [List.take_zero]
    show max (fre L l 0) (L + _) = max 0 _ + L
    omega
  | succ j =>
    have ne : l.take (j + 1) ≠ [] := by
      intro z
      have : 0 < (l.take (j + 1)).length := by
        rw [List.length_take]
        omega
      rw [z] at this
      exact absurd this (Nat.lt_irrefl 0)
    rw [fin_early (g := L) ne (fun c hc => o.pos c (List.mem_of_mem_take hc)) (by omega) (by omega), sh1]
    omega
theorem tot_drop {j : Nat} (hj : j < l.length) : tot (l.drop j) = (cl l j).2.2 + tot (l.drop (j + 1)) := by
  have a := tot_split l j
  have b := tot_split l (j + 1)
  have c := take1 hj
  omega
theorem fre0_split (j : Nat) : fre L l 0 = fin L 0 (fin L 0 0 (l.take (j + 1))) (l.drop (j + 1)) := by
  rw [← fin_app, List.take_append_drop]
  rfl
/-- behind a call that ends behind the round's end the press has no pause -/
theorem fre0_late (o : Okr L l) {j : Nat} (hj : j < l.length) (h : L < bAt L l 0 j + (cl l j).2.2) : fre L l 0 = bAt L l 0 j + tot (l.drop j) := by
  have l1 := o.1
  rw [fre0_split j, ← e0_is hj]
  rw [busy_fin (busy_of fun i c e => ?_)]
  · rw [tot_drop hj]
    omega
  · rw [List.getElem?_drop] at e
    have ho := o.all (j + 1 + i) (List.getElem?_eq_some_iff.mp e).1
    rw [cl_eq e] at ho
    have t0 : 0 ≤ tot ((l.drop (j + 1)).take i) := tot_pos fun d hd => by
      obtain ⟨p, hp, e2⟩ := List.getElem_of_mem (List.mem_of_mem_drop (List.mem_of_mem_take hd))
      have ho2 := o.all p hp
      rw [cl_eq (by rw [List.getElem?_eq_getElem hp, e2])] at ho2
      omega
    omega
theorem sh0 (o : Okr L l) {j : Nat} (hj : j < l.length) (h : L < bAt L l 0 j + (cl l j).2.2) : bAt L l 1 j = bAt L l 0 j + stp L l := by
  have f := fre0_late o hj h
  have w := (o.all j hj).2.2
  have t0 : 0 ≤ tot (l.drop (j + 1)) := tot_pos fun d hd => by
    obtain ⟨p, hp, e2⟩ := List.getElem_of_mem (List.mem_of_mem_drop hd)
    have ho2 := o.all p hp
    rw [cl_eq (by rw [List.getElem?_eq_getElem hp, e2])] at ho2
    omega
  have s := tot_split l j
  have d := tot_drop hj
  rw [b1_late hj (by omega)]
  unfold stp
  omega
theorem bd0 (o : Okr L l) {a : List Cal} (h : ∀ c ∈ a, c ∈ l) {f : Int} (hf : f ≤ L) : fin L 0 f a ≤ L + tot a := by
  refine (beg_bd (L := L) (k := 0) (l := a) (f := f) (b := L) (fun c hc => ?_) hf).2.2
  obtain ⟨p, hp, e2⟩ := List.getElem_of_mem (h c hc)
  have ho2 := o.all p hp
  rw [cl_eq (by rw [List.getElem?_eq_getElem hp, e2])] at ho2
  omega
theorem e0_le (o : Okr L l) {j : Nat} (hj : j < l.length) : bAt L l 0 j + (cl l j).2.2 ≤ L + stp L l := by
  have l1 := o.1
  have a := bd0 o (a := l.take (j + 1)) (fun c hc => List.mem_of_mem_take hc) (f := 0) (by omega)
  rw [← e0_is hj] at a
  have s := tot_split l (j + 1)
  have t0 : 0 ≤ tot (l.drop (j + 1)) := tot_pos fun d hd => by
    obtain ⟨p, hp, e2⟩ := List.getElem_of_mem (List.mem_of_mem_drop hd)
    have ho2 := o.all p hp
    rw [cl_eq (by rw [List.getElem?_eq_getElem hp, e2])] at ho2
    omega
  unfold stp
  omega
theorem e1_le (o : Okr L l) {j : Nat} (hj : j < l.length) (h : bAt L l 0 j + (cl l j).2.2 ≤ L) : bAt L l 1 j + (cl l j).2.2 ≤ L + stp L l := by
  have st : L ≤ stp L l := by unfold stp; omega
  by_cases z : fre L l 0 ≤ L
  · rw [b1_early o hj z]
    omega
  · rw [b1_late hj (by omega)]
    have a := bd0 o (a := l.drop (j + 1)) (fun c hc => List.mem_of_mem_drop hc) (f := fin L 0 0 (l.take (j + 1))) (by rw [← e0_is hj]; exact h)
    rw [← fre0_split j] at a
    have s := tot_split l (j + 1)
    have t := take1 hj
    unfold stp
    omega
/-- later rounds -/
theorem b_on (o : Okr L l) {j : Nat} (hj : j < l.length) (k : Nat) : bAt L l (k + 2) j = bAt L l (k + 1) j + stp L l := by
  have l1 := o.1
  rw [bAt_on (k := k + 1) (by omega) o.pos hj, bAt_on (k := k) (by omega) o.pos hj]
  rw [show ((k + 1 : Nat) : Int) = (k : Int) + 1 from rfl, Int.add_mul, Int.one_mul]
  omega
/-- where it ends behind L, the next one is later by a step -/
theorem b_sh (o : Okr L l) {j : Nat} (hj : j < l.length) (k : Nat) (h : L < bAt L l k j + (cl l j).2.2) : bAt L l (k + 1) j = bAt L l k j + stp L l := by
  cases k with
  | zero => exact sh0 o hj h
  | succ k => exact b_on o hj k
theorem e1_ge (o : Okr L l) {j : Nat} (hj : j < l.length) (k : Nat) : L < bAt L l (k + 1) j + (cl l j).2.2 := by
  have := o.come (k := k + 1) hj
  have ho := o.all j hj
  have l1 := o.1
  have : (1 : Int) * L ≤ ((k + 1 : Nat) : Int) * L := Int.mul_le_mul_of_nonneg_right (by omega) (by omega)
  omega
theorem end_sh (o : Okr L l) {j : Nat} (hj : j < l.length) {h : Int} (hl : L ≤ h) (k : Nat) : bAt L l (k + 1) j + (cl l j).2.2 ≤ h + stp L l ↔ bAt L l k j + (cl l j).2.2 ≤ h := by
  by_cases z : L < bAt L l k j + (cl l j).2.2
  · rw [b_sh o hj k z]
    omega
  · cases k with
    | zero =>
      have := e1_le o hj (by omega)
      show bAt L l 1 j + _ ≤ _ ↔ _
      omega
    | succ k => exact absurd (e1_ge o hj k) z
theorem nde_sh (o : Okr L l) {j : Nat} (hj : j < l.length) {h : Int} (hl : L ≤ h) : nde L l j (h + stp L l) = nde L l j h + 1 := by
  obtain ⟨n, e, a, b⟩ := bgn_is o hj (h - (cl l j).2.2)
  obtain ⟨m, e2, a2, b2⟩ := bgn_is o hj (h + stp L l - (cl l j).2.2)
  unfold nde
  rw [e, e2]
  have : m = n + 1 := by
    by_cases z : m < n + 1
    · cases m with
      | zero =>
        have := b2 0 (Nat.le_refl _)
        have := e0_le o hj
        omega
      | succ m =>
        have x := a m (by omega)
        have y := b2 (m + 1) (Nat.le_refl _)
        have := (end_sh o hj hl m).mpr (by omega)
        omega
    · by_cases z2 : n + 1 < m
      · have x := a2 (n + 1) z2
        have y := b n (Nat.le_refl _)
        have := (end_sh o hj hl n).mp (by omega)
        omega
      · omega
  omega
theorem clp_sh (o : Okr L l) {j : Nat} (hj : j < l.length) {h : Int} (hl : L ≤ h) (k : Nat) : clp (cl l j).2.2 (h + stp L l - bAt L l (k + 1) j) = clp (cl l j).2.2 (h - bAt L l k j) := by
  have w := (o.all j hj).2.2
  by_cases z : L < bAt L l k j + (cl l j).2.2
  · rw [b_sh o hj k z]
    congr 1
    omega
  · have := (end_sh o hj hl k).mpr (by omega)
    unfold clp
    omega
theorem dn1_sh (o : Okr L l) {j : Nat} (hj : j < l.length) {h : Int} (hl : L ≤ h) : dn1 L l j (h + stp L l) = dn1 L l j h + (cl l j).2.2 := by
  have l1 := o.1
  have st : L ≤ stp L l := by unfold stp; omega
  have w := (o.all j hj).2.2
  have hn : h + stp L l ≤ ((h + stp L l).toNat : Nat) * L := by
    have : ((h + stp L l).toNat : Int) * 1 ≤ ((h + stp L l).toNat : Int) * L := Int.mul_le_mul_of_nonneg_left l1 (by omega)
    omega
  have hn2 : h + stp L l ≤ ((h + stp L l).toNat + 1 : Nat) * L := by
    rw [show (((h + stp L l).toNat + 1 : Nat) : Int) = ((h + stp L l).toNat : Int) + 1 from rfl, Int.add_mul]
    omega
  rw [dn1_sm o hj hn2, dn1_sm o hj (n := (h + stp L l).toNat) (by omega), sm_first]
  have e0 := e0_le o hj
  rw [sm_eq fun k _ => clp_sh o hj hl k, Int.add_comm]
  congr 1
  show clp _ (h + stp L l - bAt L l 0 j) = _
  unfold clp
  omega
theorem dnA_sh (o : Okr L l) {h : Int} (hl : L ≤ h) : dnA L l (h + stp L l) = dnA L l h + tot l := by
  unfold dnA
  rw [tot_sm, ← sm_add]
  exact sm_eq fun j hj => dn1_sh o hj hl
theorem cme_sh (o : Okr L l) (j : Nat) (h : Int) (r : Int) : cme L l j (h + r * L) = cme L l j h + r := by
  have l1 := o.1
  unfold cme
  rw [show h + r * L - (cl l j).1 = (h - (cl l j).1) + r * L from by omega, Int.add_mul_ediv_right _ _ (by omega)]
  omega
theorem cmA_sh (o : Okr L l) (h r : Int) : cmA L l (h + r * L) = cmA L l h + r * tot l := by
  unfold cmA
  rw [tot_sm, Int.mul_comm r (sm _ _), ← sm_mul, ← sm_add]
  refine sm_eq fun j _ => ?_
  show cme L l j (h + r * L) * _ = _
  rw [cme_sh o, Int.add_mul, Int.mul_comm r]
/-- with more work than hours the press is never free from the first round's end on -/
theorem never_free (o : Okr L l) (ne : 0 < l.length) (ht : L ≤ tot l) {h : Int} (hl : L ≤ h) : ¬ ∀ (k j : Nat), j < l.length → ¬ onp L l k j h := by
  intro no
  have l1 := o.1
  have ie := idle_end o (h := h) (by omega) no
  have all : ∀ k j : Nat, j < l.length → bAt L l k j + (cl l j).2.2 ≤ h := by
    intro k
    induction k with
    | zero =>
      intro j hj
      have ho := o.all j hj
      exact ie 0 j hj (by omega)
    | succ k ih =>
      have z : (bgs L l (k + 1))[0]? = some (fre L l k) := by
        have b : busy L ((k + 1 : Nat) : Int) (fre L l k) l := by
          cases k with
          | zero => exact busy_next (k := 0) ht
          | succ k => exact busy_next (k := (k + 1 : Nat)) ht
        have := busy_at b ne
        rw [List.take_zero] at this
        show (beg L ((k + 1 : Nat) : Int) (fre L l k) l)[0]? = _
        rw [this]
        show some (fre L l k + 0) = _
        rw [Int.add_zero]
      have hz : bAt L l (k + 1) 0 = fre L l k := by
        have := bAt_some (L := L) (k := k + 1) ne
        rw [z] at this
        exact (Option.some.inj this).symm
      obtain ⟨q, eq⟩ : ∃ q, q + 1 = l.length := ⟨l.length - 1, by omega⟩
      have fl : fre L l k = bAt L l k q + (cl l q).2.2 := by
        have a := bAt_some (L := L) (k := k) (j := q) (l := l) (by omega)
        cases k with
        | zero => exact fin_last eq (cl_at (by omega)) a
        | succ k => exact fin_last eq (cl_at (by omega)) a
      have b0 : bAt L l (k + 1) 0 ≤ h := by
        have := ih q (by omega)
        omega
      intro j
      induction j with
      | zero =>
        intro hj
        have := o.come (k := k + 1) hj
        exact ie (k + 1) 0 hj (by omega)
      | succ j ih2 =>
        intro hj
        have e := ih2 (by omega)
        have n := o.next (k := k + 1) hj
        have b : busy L ((k + 1 : Nat) : Int) (fre L l k) l := by
          cases k with
          | zero => exact busy_next (k := 0) ht
          | succ k => exact busy_next (k := (k + 1 : Nat)) ht
        have e1 := busy_at b (i := j) (by omega)
        have e2 := busy_at b (i := j + 1) hj
        have f1 := bAt_some (L := L) (k := k + 1) (j := j) (l := l) (by omega)
        have f2 := bAt_some (L := L) (k := k + 1) hj
        have f1' : (beg L ((k + 1 : Nat) : Int) (fre L l k) l)[j]? = some (bAt L l (k + 1) j) := f1
        have f2' : (beg L ((k + 1 : Nat) : Int) (fre L l k) l)[j + 1]? = some (bAt L l (k + 1) (j + 1)) := f2
        rw [e1] at f1'
        rw [e2] at f2'
        have g1 := Option.some.inj f1'
        have g2 := Option.some.inj f2'
        have t := take1 (l := l) (j := j) (by omega)
        have c := o.come (k := k + 1) hj
        exact ie (k + 1) (j + 1) hj (by omega)
  have x := all h.toNat 0 ne
  have c := o.come (k := h.toNat) ne
  have ho := o.all 0 ne
  have : (h.toNat : Int) * 1 ≤ (h.toNat : Int) * L := Int.mul_le_mul_of_nonneg_left l1 (by omega)
  omega
theorem idl_on (o : Okr L l) (ne : 0 < l.length) (ht : L ≤ tot l) {h : Int} (hl : L ≤ h) : idl L l h = fre L l 0 - tot l := by
  have ex : ∃ (t j : Nat), j < l.length ∧ onp L l t j h := by
    cases e : atF L l h with
    | none => exact absurd (fun k j hj => atF_none o e hj) (never_free o ne ht hl)
    | some p =>
      obtain ⟨t, j⟩ := p
      obtain ⟨a, b⟩ := atF_some o e
      exact ⟨t, j, a, b⟩
  obtain ⟨t, j, hj, on⟩ := ex
  have d := dnA_on o hj on
  unfold idl
  rw [d]
  cases t with
  | zero =>
    obtain ⟨o1, o2⟩ := on
    have f := fre0_late o hj (by omega)
    have s := tot_split l j
    omega
  | succ t =>
    have b : busy L ((t + 1 : Nat) : Int) (fre L l t) l := by
      cases t with
      | zero => exact busy_next (k := 0) ht
      | succ k => exact busy_next (k := (k + 1 : Nat)) ht
    have e1 := busy_at b hj
    have f1 : (beg L ((t + 1 : Nat) : Int) (fre L l t) l)[j]? = some (bAt L l (t + 1) j) := bAt_some (L := L) (k := t + 1) hj
    rw [e1] at f1
    have g1 := Option.some.inj f1
    have fr : ∀ t : Nat, fre L l t = fre L l 0 + t * tot l := by
      intro t
      induction t with
      | zero => omega
      | succ t ih =>
        rw [fre_step t ht, ih, show ((t + 1 : Nat) : Int) = (t : Int) + 1 from rfl, Int.add_mul, Int.one_mul]
        omega
    have := fr t
    rw [show ((t + 1 : Nat) : Int) = (t : Int) + 1 from rfl, Int.add_mul, Int.one_mul]
    omega
theorem tot_nil_or (o : Okr L l) : (l.length = 0 ∧ tot l = 0) ∨ 0 < l.length := by
  by_cases z : l.length = 0
  · have : l = [] := List.eq_nil_of_length_eq_zero z
    subst this
    exact .inl ⟨rfl, rfl⟩
  · exact .inr (by omega)
/-- what waits grows by what comes more than a round has hours -/
theorem wtn_sh (o : Okr L l) {h : Int} (hl : L ≤ h) : wtn L l (h + L) = wtn L l h + max 0 (tot l - L) := by
  have l1 := o.1
  have c := cmA_sh o h 1
  rw [Int.one_mul, Int.one_mul] at c
  by_cases z : tot l ≤ L
  · have d := dnA_sh o hl
    have s : stp L l = L := by unfold stp; omega
    rw [s] at d
    unfold wtn
    omega
  · have ne : 0 < l.length := by
      rcases tot_nil_or o with ⟨_, a⟩ | a
      · omega
      · exact a
    have a := idl_on o ne (by omega) hl
    have b := idl_on o ne (by omega) (h := h + L) (by omega)
    unfold idl at a b
    unfold wtn
    omega
theorem wtn_far (o : Okr L l) {h : Int} (hl : L ≤ h) : ∀ r : Nat, wtn L l (h + r * L) = wtn L l h + r * max 0 (tot l - L)
  | 0 => by
    rw [show h + ((0 : Nat) : Int) * L = h from by omega]
    omega
  | r + 1 => by
    have l1 := o.1
    have m : (0 : Int) ≤ (r : Int) * L := Int.mul_nonneg (by omega) (by omega)
    rw [show h + ((r + 1 : Nat) : Int) * L = (h + r * L) + L from by rw [show ((r + 1 : Nat) : Int) = (r : Int) + 1 from rfl, Int.add_mul]; omega, wtn_sh o (by omega), wtn_far o hl r, show ((r + 1 : Nat) : Int) = (r : Int) + 1 from rfl, Int.add_mul, Int.one_mul]
    omega
/-- when a call comes it waits -/
theorem wtn_come (o : Okr L l) {j : Nat} (hj : j < l.length) (k : Nat) : 1 ≤ wtn L l (k * L + (cl l j).1) := by
  have l1 := o.1
  have ho := o.all j hj
  have m : (0 : Int) ≤ (k : Int) * L := Int.mul_nonneg (by omega) (by omega)
  have hn : (k : Int) * L + (cl l j).1 < (k + 1 : Nat) * L := by
    rw [show ((k + 1 : Nat) : Int) = (k : Int) + 1 from rfl, Int.add_mul]
    omega
  have co := o.come (k := k) hj
  rw [wtn_rows o (by omega) hn]
  have pos : ∀ q : Nat, q < k + 1 → ∀ i : Nat, i < l.length → 0 ≤ (if (q : Int) * L + (cl l i).1 ≤ (k : Int) * L + (cl l j).1 ∧ (k : Int) * L + (cl l j).1 < bAt L l q i + (cl l i).2.2 then bAt L l q i + (cl l i).2.2 - max (bAt L l q i) ((k : Int) * L + (cl l j).1) else 0) := by
    intro q _ i hi
    have hi2 := o.all i hi
    split <;> omega
  show 1 ≤ sm _ k + sm _ l.length
  have a : 0 ≤ sm (fun q : Nat => sm (fun i => if (q : Int) * L + (cl l i).1 ≤ (k : Int) * L + (cl l j).1 ∧ (k : Int) * L + (cl l j).1 < bAt L l q i + (cl l i).2.2 then bAt L l q i + (cl l i).2.2 - max (bAt L l q i) ((k : Int) * L + (cl l j).1) else 0) l.length) k :=
    sm_nonneg fun q hq => sm_nonneg fun i hi => pos q (by omega) i hi
  have b : 1 ≤ sm (fun i => if (k : Int) * L + (cl l i).1 ≤ (k : Int) * L + (cl l j).1 ∧ (k : Int) * L + (cl l j).1 < bAt L l k i + (cl l i).2.2 then bAt L l k i + (cl l i).2.2 - max (bAt L l k i) ((k : Int) * L + (cl l j).1) else 0) l.length := by
    obtain ⟨d, e⟩ : ∃ d, l.length = j + (d + 1) := ⟨l.length - j - 1, by omega⟩
    rw [e, sm_app, sm_first]
    have x := sm_nonneg (n := j) fun i hi => pos k (by omega) i (by omega)
    have y := sm_nonneg (n := d) fun i hi => pos k (by omega) (j + (i + 1)) (by omega)
    have z : (if (k : Int) * L + (cl l (j + 0)).1 ≤ (k : Int) * L + (cl l j).1 ∧ (k : Int) * L + (cl l j).1 < bAt L l k (j + 0) + (cl l (j + 0)).2.2 then bAt L l k (j + 0) + (cl l (j + 0)).2.2 - max (bAt L l k (j + 0)) ((k : Int) * L + (cl l j).1) else 0) = bAt L l k (j + 0) + (cl l (j + 0)).2.2 - max (bAt L l k (j + 0)) ((k : Int) * L + (cl l j).1) := if_pos ⟨by rw [Nat.add_zero]; omega, by rw [Nat.add_zero]; omega⟩
    rw [z]
    rw [Nat.add_zero] at *
    omega
  omega
end
end Rm

set_option maxRecDepth 100000
set_option maxHeartbeats 4000000
namespace K
open PySem PySem.Spec PyProof.Rows L2 Gd Dl
def topS (i : Nat) : Stmt := PySem.Challenge.pw_bindbench_k30_rounds_made.main.body.getD i (.Pass ⟨0, 0, 0, 0⟩)
abbrev s_is_whole : Stmt := topS 7
theorem sc_is_whole : FnScope ["thing", "least", "most"] ["thing", "least", "most"] (defScope s_is_whole) := ⟨rfl, rfl, rfl, by decide +kernel, rfl, by decide +kernel, by decide +kernel⟩
abbrev s_is_name : Stmt := topS 8
theorem sc_is_name : FnScope ["thing", "sign"] ["thing"] (defScope s_is_name) := ⟨rfl, rfl, rfl, by decide +kernel, rfl, by decide +kernel, by decide +kernel⟩
abbrev s_are_calls : Stmt := topS 14
theorem sc_are_calls : FnScope ["thing", "length", "least", "call", "at", "name", "hours"] ["thing", "length"] (defScope s_are_calls) := ⟨rfl, rfl, rfl, by decide +kernel, rfl, by decide +kernel, by decide +kernel⟩
abbrev s_Round_init : Stmt := (inCls (topS 16)).getD 0 (.Pass ⟨0, 0, 0, 0⟩)
theorem sc_Round_init : FnScope ["self", "length", "calls", "told", "_", "hours"] ["self", "length", "calls"] (defScope s_Round_init) := ⟨rfl, rfl, rfl, by decide +kernel, rfl, by decide +kernel, by decide +kernel⟩
abbrev s_Round__first_begins : Stmt := (inCls (topS 16)).getD 1 (.Pass ⟨0, 0, 0, 0⟩)
theorem sc_Round__first_begins : FnScope ["self", "begins", "free", "turn", "at", "_", "hours", "begin"] ["self"] (defScope s_Round__first_begins) := ⟨rfl, rfl, rfl, by decide +kernel, rfl, by decide +kernel, by decide +kernel⟩
abbrev s_Round_length : Stmt := (inCls (topS 16)).getD 9 (.Pass ⟨0, 0, 0, 0⟩)
theorem sc_Round_length : FnScope ["self"] ["self"] (defScope s_Round_length) := ⟨rfl, rfl, rfl, by decide +kernel, rfl, by decide +kernel, by decide +kernel⟩
abbrev s_Round_total : Stmt := (inCls (topS 16)).getD 10 (.Pass ⟨0, 0, 0, 0⟩)
theorem sc_Round_total : FnScope ["self"] ["self"] (defScope s_Round_total) := ⟨rfl, rfl, rfl, by decide +kernel, rfl, by decide +kernel, by decide +kernel⟩
abbrev s_Round_calls : Stmt := (inCls (topS 16)).getD 11 (.Pass ⟨0, 0, 0, 0⟩)
theorem sc_Round_calls : FnScope ["self"] ["self"] (defScope s_Round_calls) := ⟨rfl, rfl, rfl, by decide +kernel, rfl, by decide +kernel, by decide +kernel⟩
abbrev s_Round_keeps_up : Stmt := (inCls (topS 16)).getD 12 (.Pass ⟨0, 0, 0, 0⟩)
theorem sc_Round_keeps_up : FnScope ["self"] ["self"] (defScope s_Round_keeps_up) := ⟨rfl, rfl, rfl, by decide +kernel, rfl, by decide +kernel, by decide +kernel⟩
abbrev s_Round_eq : Stmt := (inCls (topS 16)).getD 23 (.Pass ⟨0, 0, 0, 0⟩)
theorem sc_Round_eq : FnScope ["self", "other"] ["self", "other"] (defScope s_Round_eq) := ⟨rfl, rfl, rfl, by decide +kernel, rfl, by decide +kernel, by decide +kernel⟩
abbrev s_Round_len : Stmt := (inCls (topS 16)).getD 24 (.Pass ⟨0, 0, 0, 0⟩)
theorem sc_Round_len : FnScope ["self"] ["self"] (defScope s_Round_len) := ⟨rfl, rfl, rfl, by decide +kernel, rfl, by decide +kernel, by decide +kernel⟩
abbrev s_Round_str : Stmt := (inCls (topS 16)).getD 25 (.Pass ⟨0, 0, 0, 0⟩)
theorem sc_Round_str : FnScope ["self", "rows", "at", "name", "hours"] ["self"] (defScope s_Round_str) := ⟨rfl, rfl, rfl, by decide +kernel, rfl, by decide +kernel, by decide +kernel⟩
abbrev s_law_mixed : Stmt := topS 18
theorem sc_law_mixed : FnScope ["cell", "j", "number"] ["cell", "j"] (defScope s_law_mixed) := ⟨rfl, rfl, rfl, by decide +kernel, rfl, by decide +kernel, by decide +kernel⟩
abbrev s_law_folded : Stmt := topS 19
theorem sc_law_folded : FnScope ["script", "found", "j", "cell"] ["script"] (defScope s_law_folded) := ⟨rfl, rfl, rfl, by decide +kernel, rfl, by decide +kernel, by decide +kernel⟩
abbrev s_law_draw : Stmt := topS 20
theorem sc_law_draw : FnScope ["m", "many", "j", "spot", "cell"] ["m", "many"] (defScope s_law_draw) := ⟨rfl, rfl, rfl, by decide +kernel, rfl, by decide +kernel, by decide +kernel⟩
abbrev s_law_begun : Stmt := topS 21
theorem sc_law_begun : FnScope ["script", "m", "cell"] ["script"] (defScope s_law_begun) := ⟨rfl, rfl, rfl, by decide +kernel, rfl, by decide +kernel, by decide +kernel⟩
abbrev s_law_called : Stmt := topS 22
theorem sc_law_called : FnScope ["m", "many", "letters", "found", "is_last", "shift", "stride", "j", "sign", "said", "more"] ["m", "many"] (defScope s_law_called) := ⟨rfl, rfl, rfl, by decide +kernel, rfl, by decide +kernel, by decide +kernel⟩
abbrev s_law_plain : Stmt := topS 23
theorem sc_law_plain : FnScope ["m", "w", "top", "span", "many", "high", "comes", "works", "rest", "j", "come", "work"] ["m", "w", "top"] (defScope s_law_plain) := ⟨rfl, rfl, rfl, by decide +kernel, rfl, by decide +kernel, by decide +kernel⟩
abbrev s_law_text : Stmt := topS 24
theorem sc_law_text : FnScope ["plain", "rows", "come", "said", "work"] ["plain"] (defScope s_law_text) := ⟨rfl, rfl, rfl, by decide +kernel, rfl, by decide +kernel, by decide +kernel⟩
abbrev s_law_otherwise : Stmt := topS 25
theorem sc_law_otherwise : FnScope ["m", "w", "plain", "span", "rows", "way", "j", "come", "said", "work", "some", "fresh", "low", "high"] ["m", "w", "plain"] (defScope s_law_otherwise) := ⟨rfl, rfl, rfl, by decide +kernel, rfl, by decide +kernel, by decide +kernel⟩
abbrev s_law_alike : Stmt := topS 26
theorem sc_law_alike : FnScope ["this", "that", "is_due", "found"] ["this", "that", "is_due"] (defScope s_law_alike) := ⟨rfl, rfl, rfl, by decide +kernel, rfl, by decide +kernel, by decide +kernel⟩
abbrev s_law_told_right : Stmt := topS 27
theorem sc_law_told_right : FnScope ["circle", "plain", "span", "rows", "work", "due", "turn", "found", "told", "row"] ["circle", "plain"] (defScope s_law_told_right) := ⟨rfl, rfl, rfl, by decide +kernel, rfl, by decide +kernel, by decide +kernel⟩
abbrev s_law_made_right : Stmt := topS 28
theorem sc_law_made_right : FnScope ["plain", "span", "rows", "handed", "some", "circle"] ["plain"] (defScope s_law_made_right) := ⟨rfl, rfl, rfl, by decide +kernel, rfl, by decide +kernel, by decide +kernel⟩
abbrev s_law_unlike_right : Stmt := topS 29
theorem sc_law_unlike_right : FnScope ["m", "w", "plain", "circle", "other", "odd"] ["m", "w", "plain"] (defScope s_law_unlike_right) := ⟨rfl, rfl, rfl, by decide +kernel, rfl, by decide +kernel, by decide +kernel⟩
abbrev s_law : Stmt := topS 30
theorem sc_law : FnScope ["script", "m", "turn", "w", "plain"] ["script"] (defScope s_law) := ⟨rfl, rfl, rfl, by decide +kernel, rfl, by decide +kernel, by decide +kernel⟩
structure Txt (mg : PySem.Str → Option Value) (K : PySem.W.Frag) (prm : Params) where
  n_all : mg "all" = none
  n_bool : mg "bool" = none
  n_enumerate : mg "enumerate" = none
  n_int : mg "int" = none
  n_len : mg "len" = none
  n_list : mg "list" = none
  n_max : mg "max" = none
  n_min : mg "min" = none
  n_range : mg "range" = none
  n_repr : mg "repr" = none
  n_sorted : mg "sorted" = none
  n_str : mg "str" = none
  n_sum : mg "sum" = none
  n_tuple : mg "tuple" = none
  n_type : mg "type" = none
  n_zip : mg "zip" = none
  t_MOST_LETTERS : Tok
  c_MOST_LETTERS : mg "MOST_LETTERS" = some (.int 8 t_MOST_LETTERS)
  a_NO_NAMES : Addr
  c_NO_NAMES : mg "NO_NAMES" = some (.ref a_NO_NAMES)
  q_NO_NAMES : ∀ H : Hp, SqT K H a_NO_NAMES [.str "style", .str "job", .str "round", .str "sew", .str "glue", .str "cover", .str "letter", .str "press", .str "hand", .str "haste"]
  t_MOST_LENGTH : Tok
  c_MOST_LENGTH : mg "MOST_LENGTH" = some (.int 1000 t_MOST_LENGTH)
  t_MOST_CALLS : Tok
  c_MOST_CALLS : mg "MOST_CALLS" = some (.int 12 t_MOST_CALLS)
  t_MOST_CALL_HOURS : Tok
  c_MOST_CALL_HOURS : mg "MOST_CALL_HOURS" = some (.int 1000 t_MOST_CALL_HOURS)
  f_is_whole : Addr
  fd_is_whole : FuncData
  F_is_whole : FunD K "is_whole" "is_whole" (defArgs s_is_whole) (defBody s_is_whole) (defScope s_is_whole) [.int 1000000] [] f_is_whole fd_is_whole
  g_is_whole : mg "is_whole" = some (.ref f_is_whole)
  f_is_name : Addr
  fd_is_name : FuncData
  F_is_name : FunD K "is_name" "is_name" (defArgs s_is_name) (defBody s_is_name) (defScope s_is_name) [] [] f_is_name fd_is_name
  g_is_name : mg "is_name" = some (.ref f_is_name)
  f_are_calls : Addr
  fd_are_calls : FuncData
  F_are_calls : FunD K "_are_calls" "_are_calls" (defArgs s_are_calls) (defBody s_are_calls) (defScope s_are_calls) [] [] f_are_calls fd_are_calls
  g_are_calls : mg "_are_calls" = some (.ref f_are_calls)
  f_Round_init : Addr
  fd_Round_init : FuncData
  F_Round_init : FunD K "__init__" "Round.__init__" (defArgs s_Round_init) (defBody s_Round_init) (defScope s_Round_init) [.non] [] f_Round_init fd_Round_init
  f_Round__first_begins : Addr
  fd_Round__first_begins : FuncData
  F_Round__first_begins : FunD K "_first_begins" "Round._first_begins" (defArgs s_Round__first_begins) (defBody s_Round__first_begins) (defScope s_Round__first_begins) [] [] f_Round__first_begins fd_Round__first_begins
  f_Round_length : Addr
  fd_Round_length : FuncData
  F_Round_length : FunD K "length" "Round.length" (defArgs s_Round_length) (defBody s_Round_length) (defScope s_Round_length) [] [] f_Round_length fd_Round_length
  f_Round_total : Addr
  fd_Round_total : FuncData
  F_Round_total : FunD K "total" "Round.total" (defArgs s_Round_total) (defBody s_Round_total) (defScope s_Round_total) [] [] f_Round_total fd_Round_total
  f_Round_calls : Addr
  fd_Round_calls : FuncData
  F_Round_calls : FunD K "calls" "Round.calls" (defArgs s_Round_calls) (defBody s_Round_calls) (defScope s_Round_calls) [] [] f_Round_calls fd_Round_calls
  f_Round_keeps_up : Addr
  fd_Round_keeps_up : FuncData
  F_Round_keeps_up : FunD K "keeps_up" "Round.keeps_up" (defArgs s_Round_keeps_up) (defBody s_Round_keeps_up) (defScope s_Round_keeps_up) [] [] f_Round_keeps_up fd_Round_keeps_up
  f_Round_eq : Addr
  fd_Round_eq : FuncData
  F_Round_eq : FunD K "__eq__" "Round.__eq__" (defArgs s_Round_eq) (defBody s_Round_eq) (defScope s_Round_eq) [] [] f_Round_eq fd_Round_eq
  f_Round_len : Addr
  fd_Round_len : FuncData
  F_Round_len : FunD K "__len__" "Round.__len__" (defArgs s_Round_len) (defBody s_Round_len) (defScope s_Round_len) [] [] f_Round_len fd_Round_len
  f_Round_str : Addr
  fd_Round_str : FuncData
  F_Round_str : FunD K "__str__" "Round.__str__" (defArgs s_Round_str) (defBody s_Round_str) (defScope s_Round_str) [] [] f_Round_str fd_Round_str
  f_law_mixed : Addr
  fd_law_mixed : FuncData
  F_law_mixed : FunD K "_law_mixed" "_law_mixed" (defArgs s_law_mixed) (defBody s_law_mixed) (defScope s_law_mixed) [] [] f_law_mixed fd_law_mixed
  g_law_mixed : mg "_law_mixed" = some (.ref f_law_mixed)
  f_law_folded : Addr
  fd_law_folded : FuncData
  F_law_folded : FunD K "_law_folded" "_law_folded" (defArgs s_law_folded) (defBody s_law_folded) (defScope s_law_folded) [] [] f_law_folded fd_law_folded
  g_law_folded : mg "_law_folded" = some (.ref f_law_folded)
  f_law_draw : Addr
  fd_law_draw : FuncData
  F_law_draw : FunD K "_law_draw" "_law_draw" (defArgs s_law_draw) (defBody s_law_draw) (defScope s_law_draw) [] [] f_law_draw fd_law_draw
  g_law_draw : mg "_law_draw" = some (.ref f_law_draw)
  f_law_begun : Addr
  fd_law_begun : FuncData
  F_law_begun : FunD K "_law_begun" "_law_begun" (defArgs s_law_begun) (defBody s_law_begun) (defScope s_law_begun) [] [] f_law_begun fd_law_begun
  g_law_begun : mg "_law_begun" = some (.ref f_law_begun)
  f_law_called : Addr
  fd_law_called : FuncData
  F_law_called : FunD K "_law_called" "_law_called" (defArgs s_law_called) (defBody s_law_called) (defScope s_law_called) [] [] f_law_called fd_law_called
  g_law_called : mg "_law_called" = some (.ref f_law_called)
  f_law_plain : Addr
  fd_law_plain : FuncData
  F_law_plain : FunD K "_law_plain" "_law_plain" (defArgs s_law_plain) (defBody s_law_plain) (defScope s_law_plain) [] [] f_law_plain fd_law_plain
  g_law_plain : mg "_law_plain" = some (.ref f_law_plain)
  f_law_text : Addr
  fd_law_text : FuncData
  F_law_text : FunD K "_law_text" "_law_text" (defArgs s_law_text) (defBody s_law_text) (defScope s_law_text) [] [] f_law_text fd_law_text
  g_law_text : mg "_law_text" = some (.ref f_law_text)
  f_law_otherwise : Addr
  fd_law_otherwise : FuncData
  F_law_otherwise : FunD K "_law_otherwise" "_law_otherwise" (defArgs s_law_otherwise) (defBody s_law_otherwise) (defScope s_law_otherwise) [] [] f_law_otherwise fd_law_otherwise
  g_law_otherwise : mg "_law_otherwise" = some (.ref f_law_otherwise)
  f_law_alike : Addr
  fd_law_alike : FuncData
  F_law_alike : FunD K "_law_alike" "_law_alike" (defArgs s_law_alike) (defBody s_law_alike) (defScope s_law_alike) [] [] f_law_alike fd_law_alike
  g_law_alike : mg "_law_alike" = some (.ref f_law_alike)
  f_law_told_right : Addr
  fd_law_told_right : FuncData
  F_law_told_right : FunD K "_law_told_right" "_law_told_right" (defArgs s_law_told_right) (defBody s_law_told_right) (defScope s_law_told_right) [] [] f_law_told_right fd_law_told_right
  g_law_told_right : mg "_law_told_right" = some (.ref f_law_told_right)
  f_law_made_right : Addr
  fd_law_made_right : FuncData
  F_law_made_right : FunD K "_law_made_right" "_law_made_right" (defArgs s_law_made_right) (defBody s_law_made_right) (defScope s_law_made_right) [] [] f_law_made_right fd_law_made_right
  g_law_made_right : mg "_law_made_right" = some (.ref f_law_made_right)
  f_law_unlike_right : Addr
  fd_law_unlike_right : FuncData
  F_law_unlike_right : FunD K "_law_unlike_right" "_law_unlike_right" (defArgs s_law_unlike_right) (defBody s_law_unlike_right) (defScope s_law_unlike_right) [] [] f_law_unlike_right fd_law_unlike_right
  g_law_unlike_right : mg "_law_unlike_right" = some (.ref f_law_unlike_right)
  f_law : Addr
  fd_law : FuncData
  F_law : FunD K "law" "law" (defArgs s_law) (defBody s_law) (defScope s_law) [] [] f_law fd_law
  g_law : mg "law" = some (.ref f_law)
  C_Round : Addr
  g_Round : mg "Round" = some (.ref C_Round)
  cl_Round : Cls K C_Round
  no_Round__length : NoAttr K C_Round "_length"
  no_Round__calls : NoAttr K C_Round "_calls"
  no_Round__total : NoAttr K C_Round "_total"
  no_Round__step : NoAttr K C_Round "_step"
  no_Round__begins : NoAttr K C_Round "_begins"
  mk_Round : Mk K C_Round f_Round_init
  m_Round__first_begins : Meth K C_Round "_first_begins" f_Round__first_begins
  m_Round_length : Meth K C_Round "length" f_Round_length
  m_Round_total : Meth K C_Round "total" f_Round_total
  m_Round_calls : Meth K C_Round "calls" f_Round_calls
  m_Round_keeps_up : Meth K C_Round "keeps_up" f_Round_keeps_up
  m_Round_eq : Meth K C_Round "__eq__" f_Round_eq
  ti_Round_eq : PySem.W.typeIn K (.ref f_Round_eq) = some (.type "function")
  m_Round_len : Meth K C_Round "__len__" f_Round_len
  ti_Round_len : PySem.W.typeIn K (.ref f_Round_len) = some (.type "function")
  m_Round_str : Meth K C_Round "__str__" f_Round_str
  ti_Round_str : PySem.W.typeIn K (.ref f_Round_str) = some (.type "function")
  nb_Round : PySem.W.findIn K (.ref C_Round) "__bool__" = some none
  eo_Round : EqO K C_Round f_Round_eq
local macro_rules | `(tactic| walk_at "mulok") => `(tactic| first | exact Or.inr ⟨by decide, by decide⟩ | exact Or.inl ⟨by decide, by decide⟩ | exact Or.inr ⟨by omega, by omega⟩ | exact Or.inl ⟨by omega, by omega⟩)
local macro_rules | `(tactic| walk_at "st") => `(tactic| first
  | refine ⟨_, rfl, ?_⟩
  | refine ⟨_, _, rfl, rfl, (by walk_at "mulok"), ?_⟩
  | refine ⟨_, _, rfl, rfl, (by show (0 : Int) < _; decide), ?_⟩
  | refine ⟨_, _, rfl, rfl, ⟨by decide, by decide⟩, ?_⟩
  | refine ⟨_, _, rfl, rfl, ?_⟩)
section
variable {P : Program} {w : World} {K : PySem.W.Frag} {mg : PySem.Str → Option Value} {base : Heap}
theorem b_Round_eq_2 {prm : Params} (T : Txt mg K prm) : ∃ ds, Vals [] ds ∧ Binds K T.fd_Round_eq ["self", "other"] ds := FunD.b0 T.F_Round_eq fun kV doc pm an cdv ct us hl => match us, hl with | [a0, a1], _ => rfl
theorem kb_Round_init_1_calls_length {prm : Params} (T : Txt mg K prm) : ∃ g, KBn K T.fd_Round_init ["self", "length", "calls"] 1 ["calls", "length"] g (fun vs zs => pick [0, 3, 2] (vs ++ ([.non] ++ zs))) := FunD.kb T.F_Round_init 1 ["calls", "length"] [0, 3, 2] (by simp) fun D kV doc pm an cdv ct us its ws h1 h2 h3 => match us, its, ws, h1, h2, h3 with | [a0], [d0], [w0, w1], _, _, _ => ⟨_, rfl, rfl⟩
theorem kb_Round_init_1_length_calls {prm : Params} (T : Txt mg K prm) : ∃ g, KBn K T.fd_Round_init ["self", "length", "calls"] 1 ["length", "calls"] g (fun vs zs => pick [0, 2, 3] (vs ++ ([.non] ++ zs))) := FunD.kb T.F_Round_init 1 ["length", "calls"] [0, 2, 3] (by simp) fun D kV doc pm an cdv ct us its ws h1 h2 h3 => match us, its, ws, h1, h2, h3 with | [a0], [d0], [w0, w1], _, _, _ => ⟨_, rfl, rfl⟩
theorem b_Round_init_2 {prm : Params} (T : Txt mg K prm) : ∃ ds, Vals ([.non] : List V) ds ∧ Binds K T.fd_Round_init ["self", "length", "calls"] ds := FunD.binds1 (ps := ["self", "length", "calls"]) T.F_Round_init 2 0 (by simp) rfl fun D kV doc pm an cdv ct us its h1 h2 => match us, its, h1, h2 with | [a0, a1], [d0], _, _ => ⟨_, rfl, rfl⟩
theorem kb_Round_init_2_calls {prm : Params} (T : Txt mg K prm) : ∃ g, KBn K T.fd_Round_init ["self", "length", "calls"] 2 ["calls"] g (fun vs zs => pick [0, 1, 3] (vs ++ ([.non] ++ zs))) := FunD.kb T.F_Round_init 2 ["calls"] [0, 1, 3] (by simp) fun D kV doc pm an cdv ct us its ws h1 h2 h3 => match us, its, ws, h1, h2, h3 with | [a0, a1], [d0], [w0], _, _, _ => ⟨_, rfl, rfl⟩
theorem b_Round_init_3 {prm : Params} (T : Txt mg K prm) : ∃ ds, Vals ([] : List V) ds ∧ Binds K T.fd_Round_init ["self", "length", "calls"] ds := FunD.binds1 (ps := ["self", "length", "calls"]) T.F_Round_init 3 1 (by simp) rfl fun D kV doc pm an cdv ct us its h1 h2 => match us, its, h1, h2 with | [a0, a1, a2], [d0], _, _ => ⟨_, rfl, rfl⟩
theorem b_Round_len_1 {prm : Params} (T : Txt mg K prm) : ∃ ds, Vals [] ds ∧ Binds K T.fd_Round_len ["self"] ds := FunD.b0 T.F_Round_len fun kV doc pm an cdv ct us hl => match us, hl with | [a0], _ => rfl
theorem b_Round_str_1 {prm : Params} (T : Txt mg K prm) : ∃ ds, Vals [] ds ∧ Binds K T.fd_Round_str ["self"] ds := FunD.b0 T.F_Round_str fun kV doc pm an cdv ct us hl => match us, hl with | [a0], _ => rfl
theorem b_Round__first_begins_1 {prm : Params} (T : Txt mg K prm) : ∃ ds, Vals [] ds ∧ Binds K T.fd_Round__first_begins ["self"] ds := FunD.b0 T.F_Round__first_begins fun kV doc pm an cdv ct us hl => match us, hl with | [a0], _ => rfl
theorem b_Round_calls_1 {prm : Params} (T : Txt mg K prm) : ∃ ds, Vals [] ds ∧ Binds K T.fd_Round_calls ["self"] ds := FunD.b0 T.F_Round_calls fun kV doc pm an cdv ct us hl => match us, hl with | [a0], _ => rfl
theorem b_Round_keeps_up_1 {prm : Params} (T : Txt mg K prm) : ∃ ds, Vals [] ds ∧ Binds K T.fd_Round_keeps_up ["self"] ds := FunD.b0 T.F_Round_keeps_up fun kV doc pm an cdv ct us hl => match us, hl with | [a0], _ => rfl
theorem b_Round_length_1 {prm : Params} (T : Txt mg K prm) : ∃ ds, Vals [] ds ∧ Binds K T.fd_Round_length ["self"] ds := FunD.b0 T.F_Round_length fun kV doc pm an cdv ct us hl => match us, hl with | [a0], _ => rfl
theorem b_Round_total_1 {prm : Params} (T : Txt mg K prm) : ∃ ds, Vals [] ds ∧ Binds K T.fd_Round_total ["self"] ds := FunD.b0 T.F_Round_total fun kV doc pm an cdv ct us hl => match us, hl with | [a0], _ => rfl
theorem b_are_calls_2 {prm : Params} (T : Txt mg K prm) : ∃ ds, Vals [] ds ∧ Binds K T.fd_are_calls ["thing", "length"] ds := FunD.b0 T.F_are_calls fun kV doc pm an cdv ct us hl => match us, hl with | [a0, a1], _ => rfl
theorem b_law_alike_3 {prm : Params} (T : Txt mg K prm) : ∃ ds, Vals [] ds ∧ Binds K T.fd_law_alike ["this", "that", "is_due"] ds := FunD.b0 T.F_law_alike fun kV doc pm an cdv ct us hl => match us, hl with | [a0, a1, a2], _ => rfl
theorem b_law_begun_1 {prm : Params} (T : Txt mg K prm) : ∃ ds, Vals [] ds ∧ Binds K T.fd_law_begun ["script"] ds := FunD.b0 T.F_law_begun fun kV doc pm an cdv ct us hl => match us, hl with | [a0], _ => rfl
theorem b_law_called_2 {prm : Params} (T : Txt mg K prm) : ∃ ds, Vals [] ds ∧ Binds K T.fd_law_called ["m", "many"] ds := FunD.b0 T.F_law_called fun kV doc pm an cdv ct us hl => match us, hl with | [a0, a1], _ => rfl
theorem b_law_draw_2 {prm : Params} (T : Txt mg K prm) : ∃ ds, Vals [] ds ∧ Binds K T.fd_law_draw ["m", "many"] ds := FunD.b0 T.F_law_draw fun kV doc pm an cdv ct us hl => match us, hl with | [a0, a1], _ => rfl
theorem b_law_folded_1 {prm : Params} (T : Txt mg K prm) : ∃ ds, Vals [] ds ∧ Binds K T.fd_law_folded ["script"] ds := FunD.b0 T.F_law_folded fun kV doc pm an cdv ct us hl => match us, hl with | [a0], _ => rfl
theorem b_law_made_right_1 {prm : Params} (T : Txt mg K prm) : ∃ ds, Vals [] ds ∧ Binds K T.fd_law_made_right ["plain"] ds := FunD.b0 T.F_law_made_right fun kV doc pm an cdv ct us hl => match us, hl with | [a0], _ => rfl
theorem b_law_mixed_2 {prm : Params} (T : Txt mg K prm) : ∃ ds, Vals [] ds ∧ Binds K T.fd_law_mixed ["cell", "j"] ds := FunD.b0 T.F_law_mixed fun kV doc pm an cdv ct us hl => match us, hl with | [a0, a1], _ => rfl
theorem b_law_otherwise_3 {prm : Params} (T : Txt mg K prm) : ∃ ds, Vals [] ds ∧ Binds K T.fd_law_otherwise ["m", "w", "plain"] ds := FunD.b0 T.F_law_otherwise fun kV doc pm an cdv ct us hl => match us, hl with | [a0, a1, a2], _ => rfl
theorem b_law_plain_3 {prm : Params} (T : Txt mg K prm) : ∃ ds, Vals [] ds ∧ Binds K T.fd_law_plain ["m", "w", "top"] ds := FunD.b0 T.F_law_plain fun kV doc pm an cdv ct us hl => match us, hl with | [a0, a1, a2], _ => rfl
theorem b_law_text_1 {prm : Params} (T : Txt mg K prm) : ∃ ds, Vals [] ds ∧ Binds K T.fd_law_text ["plain"] ds := FunD.b0 T.F_law_text fun kV doc pm an cdv ct us hl => match us, hl with | [a0], _ => rfl
theorem b_law_told_right_2 {prm : Params} (T : Txt mg K prm) : ∃ ds, Vals [] ds ∧ Binds K T.fd_law_told_right ["circle", "plain"] ds := FunD.b0 T.F_law_told_right fun kV doc pm an cdv ct us hl => match us, hl with | [a0, a1], _ => rfl
theorem b_law_unlike_right_3 {prm : Params} (T : Txt mg K prm) : ∃ ds, Vals [] ds ∧ Binds K T.fd_law_unlike_right ["m", "w", "plain"] ds := FunD.b0 T.F_law_unlike_right fun kV doc pm an cdv ct us hl => match us, hl with | [a0, a1, a2], _ => rfl
theorem b_is_name_1 {prm : Params} (T : Txt mg K prm) : ∃ ds, Vals [] ds ∧ Binds K T.fd_is_name ["thing"] ds := FunD.b0 T.F_is_name fun kV doc pm an cdv ct us hl => match us, hl with | [a0], _ => rfl
theorem b_is_whole_3 {prm : Params} (T : Txt mg K prm) : ∃ ds, Vals ([] : List V) ds ∧ Binds K T.fd_is_whole ["thing", "least", "most"] ds := FunD.binds1 (ps := ["thing", "least", "most"]) T.F_is_whole 3 1 (by simp) rfl fun D kV doc pm an cdv ct us its h1 h2 => match us, its, h1, h2 with | [a0, a1, a2], [d0], _, _ => ⟨_, rfl, rfl⟩
theorem cok_Round {prm : Params} (T : Txt mg K prm) : Dl.COk K T.C_Round [] := ⟨T.cl_Round, fun f h => absurd h List.not_mem_nil, T.mk_Round.makes⟩
theorem nmN : Nm "next" := ⟨by decide +kernel, by decide +kernel⟩
theorem ok_law_mixed (T : Txt mg K w.params) : FnOk P w K mg base CX0 1 T.f_law_mixed T.fd_law_mixed ["cell", "j"] spMixed := by
  refine FunD.ok0 T.F_law_mixed sc_law_mixed (fun vs H Q E h => ?_) (fun cdv A outer s H vs Q E hr h => ?_)
  · obtain ⟨_, _, rfl, _⟩ := h
    rfl
  · obtain ⟨cell, k, rfl, c0, c1, k0, k1, q⟩ := h
    refine ⟨_, pss_cons (ps_set (i := 2) sc_law_mixed.nd rfl (.inl rfl) (pe_op op_add (pe_op op_add (pe_op op_mod (pe_op op_mul (pe_op op_mul (pv 0) (pe_op op_add (pe_int) (pe_op op_mul (pe_int) (pv 1)))) (pe_int)) (pe_int)) (pe_op op_mul (pe_op op_mul (pe_int) (pv 1)) (pv 1))) (pe_op op_mul (pe_int) (pv 1))))
 (pss_one (ps_ret (pe_op op_fdiv (pe_op op_mod (pe_op op_mul (pv 2) (pe_int)) (pe_int)) (pe_int)))), ?_⟩
    have e1 : 0 ≤ cell * (1 + 2 * k) * 48271 % 2147483647 := Int.emod_nonneg _ (by decide)
    have e2 : 0 ≤ 7919 * k * k := Int.mul_nonneg (Int.mul_nonneg (by decide) k0) k0
    have e3 : 0 ≤ 104729 * k := Int.mul_nonneg (by decide) k0
    repeat walk_at "st"
    refine q _ ?_ ?_
    · exact Int.ediv_nonneg (Int.emod_nonneg _ (by decide)) (by decide)
    · show _ % 2147483629 / 7 < 2147483648
      omega
theorem ok_law_folded (T : Txt mg K w.params) : FnOk P w K mg base CX0 1 T.f_law_folded T.fd_law_folded ["script"] (spFolded K) := by
  refine FunD.ok0 T.F_law_folded sc_law_folded (fun vs H Q E h => ?_) (fun cdv A outer s H vs Q E hr h => ?_)
  · obtain ⟨_, _, rfl, _⟩ := h
    rfl
  · obtain ⟨a, ns, rfl, hS, hlen, q⟩ := h
    refine ⟨_, pss_cons (ps_setLc (i := 1) (own := [("j", 2)]) (g := gName 2) (tt := tYes) (by rfl) sc_law_folded.nd rfl rfl (sw_true rfl rfl rfl (by decide +kernel)) (pi_range1 (by rfl) T.n_range (pa_cons (pe_int) pa_nil)) (blkOk_by (own := [("j", 2)]) (N := ["script", "found", "j", "cell"]) (sc := defScope s_law_folded) (by decide +kernel)) (fun _ _ _ _ _ => pg_name (i := 2) sc_law_folded.nd rfl (Or.inl rfl)) (fun _ _ _ _ _ => pts_nil) (fun _ _ _ _ _ => pe_op op_add (pe_int) (pv 2)))
 (pss_cons (ps_for PassesOwn.never rfl (pi_enum (by rfl) T.n_enumerate (pa_cons (pv 0) pa_nil)) (pg_tup (n := 2) (by rfl) (pgs_cons (pg_name (i := 2) sc_law_folded.nd rfl (.inl rfl)) (pgs_cons (pg_name (i := 3) sc_law_folded.nd rfl (.inl rfl)) (pgs_nil)))) (pss_one (ps_asg (pe_op op_mod (pe_op op_add (pe_op op_mul (pe_ix ix_list (pv 1) (pe_op op_mod (pv 2) (pe_int)) (fun _ _ => rfl)) (pe_int)) (pv 3)) (pe_int)) (pg_sub (pv 1) (pe_op op_mod (pv 2) (pe_int)) set_list))))
 (pss_cons (ps_for PassesOwn.never rfl (pi_range2 (by rfl) T.n_range (pa_cons (pe_int) (pa_cons (pe_int) pa_nil))) (pg_name (i := 2) sc_law_folded.nd rfl (.inl rfl)) (pss_one (ps_asg (pe_op op_mod (pe_op op_add (pe_ix ix_list (pv 1) (pv 2) (fun _ _ => rfl)) (pe_op op_mul (pe_ix ix_list (pv 1) (pe_op op_sub (pv 2) (pe_int)) (fun _ _ => rfl)) (pe_int))) (pe_int)) (pg_sub (pv 1) (pv 2) set_list))))
 (pss_one (ps_ret (pv 1))))), ?_⟩
    refine ⟨64, rfl, by decide, by decide, fun p fresh => lc_range (lo := 0) (n := 64) (fun i H1 => Same H H1 ∧ H1 p = some (.lst (((List.range i).map fun j : Nat => (17 : Int) + (0 + (j : Int))).map V.int))) ⟨same_new fresh, upd_same⟩ ?_ ?_⟩
    · rintro i H1 lt ⟨sm, e⟩
      refine ⟨rfl, ?_⟩
      repeat walk_at "st"
      refine ⟨_, e, ?_, same_put sm fresh, ?_⟩
      · simp only [List.length_map, List.length_range]
        exact small1000 (by omega)
      · rw [upd_same, List.range_succ]
        simp only [List.map_append, List.map_cons, List.map_nil]
    · rintro H1 ⟨sm, e⟩
      refine ⟨_, rfl, a, _, rfl, sm.seq hS, for_enum (K := K) (a := a) (xs := ns.map V.int) (fun i σ H2 => ∃ (v2 v3 : Option V) (cs : List Int), σ = [some (.ref a), some (.ref p), v2, v3] ∧ Same H H2 ∧ H2 p = some (.lst (cs.map V.int)) ∧ cs.length = 64 ∧ ∀ c ∈ cs, 0 ≤ c ∧ c < 2147483647)
        ⟨none, none, _, rfl, sm, e, by simp, ?_⟩ (fun i σ H2 ⟨_, _, _, _, sm2, _⟩ => sm2.seq hS) ?_ ?_⟩
      · intro c hc
        obtain ⟨j, hj, rfl⟩ := List.mem_map.mp hc
        have := List.mem_range.mp hj
        omega
      · rintro i x σ H2 T2 lt hx ⟨v2, v3, cs, rfl, sm2, e2, l2, b2⟩ fr
        obtain ⟨z, rfl⟩ := int_of hx
        have ep : (upd H2 T2 (.tup [.int (i : Nat), .int z])) p = some (.lst (cs.map V.int)) := by
          rw [upd_ne (ne_of_none e2 fr)]
          exact e2
        refine ⟨T2, _, rfl, .inl (.inl upd_same), rfl, _, _, rfl, _, _, rfl, rfl, ?_⟩
        have i0 : (0 : Int) ≤ (i : Int) % 64 := Int.emod_nonneg _ (by decide)
        have i1 : (i : Int) % 64 < cs.length := by
          rw [l2]
          exact Int.emod_lt_of_pos _ (by decide)
        obtain ⟨c, hc, ac, ax⟩ := at_int i0 i1
        repeat walk_at "st"
        refine ⟨p, _, _, _, rfl, rfl, .inl (.inl ep), ac, ?_⟩
        repeat walk_at "st"
        refine ⟨p, _, _, _, rfl, rfl, ep, ax, ?_⟩
        rw [set_int]
        refine ⟨_, _, _, rfl, ?_, upd_same, by rw [List.length_set]; exact l2, all_set b2 ⟨Int.emod_nonneg _ (by decide), Int.emod_lt_of_pos _ (by decide)⟩⟩
        exact same_put (sm2.trans (same_new fr)) fresh
      · rintro σ H2 ⟨v2, v3, cs, rfl, sm2, e2, l2, b2⟩
        refine ⟨1, 64, rfl, by decide, for_range (lo := 1) (n := 63) (fun i σ H3 => ∃ (v2 v3 : Option V) (cs : List Int), σ = [some (.ref a), some (.ref p), v2, v3] ∧ Same H H3 ∧ H3 p = some (.lst (cs.map V.int)) ∧ cs.length = 64 ∧ ∀ c ∈ cs, 0 ≤ c ∧ c < 2147483647)
          ⟨v2, v3, cs, rfl, sm2, e2, l2, b2⟩ ?_ ?_⟩
        · rintro i σ H3 lt ⟨v2, v3, cs, rfl, sm3, e3, l3, b3⟩
          obtain ⟨c, hc, ac, ax⟩ := at_int (cs := cs) (i := 1 + (i : Int)) (by omega) (by omega)
          obtain ⟨c', hc', ac', _⟩ := at_int (cs := cs) (i := 1 + (i : Int) - 1) (by omega) (by omega)
          have := b3 c' hc'
          repeat walk_at "st"
          refine ⟨p, _, _, _, rfl, rfl, .inl (.inl e3), ac, ?_⟩
          repeat walk_at "st"
          refine ⟨p, _, _, _, rfl, rfl, .inl (.inl e3), ac', ?_⟩
          repeat walk_at "st"
          refine ⟨p, _, _, _, rfl, rfl, e3, ax, ?_⟩
          rw [set_int]
          exact ⟨_, _, _, rfl, same_put sm3 fresh, upd_same, by rw [List.length_set]; exact l3, all_set b3 ⟨Int.emod_nonneg _ (by decide), Int.emod_lt_of_pos _ (by decide)⟩⟩
        · rintro σ H3 ⟨v2, v3, cs, rfl, sm3, e3, l3, b3⟩
          exact ⟨_, rfl, q p cs H3 fresh l3 b3 sm3 e3⟩
theorem ok0_law_draw (T : Txt mg K w.params) : FnOk P w K mg base CX0 2 T.f_law_draw T.fd_law_draw ["m", "many"] (spDrawS "next") := by
  refine FunD.ok0 T.F_law_draw sc_law_draw (fun vs H Q E h => ?_) (fun cdv A outer s H vs Q E hr h => ?_)
  · obtain ⟨_, _, _, _, rfl, _⟩ := h
    rfl
  · obtain ⟨d, many, H0, n, rfl, m0, m1, ⟨⟨lc, ll, cs, ls, k, hd, hc, hl, ne, c64, cb, l63, k0, kn, f1, f2⟩, sm, fr⟩, q⟩ := h
    have ndc : d ≠ lc := ne_of hd hc (by intro z; cases z)
    have ndl : d ≠ ll := ne_of hd hl (by intro z; cases z)
    refine ⟨_, pss_cons (ps_set (i := 2) sc_law_draw.nd rfl (.inl rfl) (pe_dget (hu_of hr) (pv 0) (pe_str) (fun _ _ => rfl)))
 (pss_cons (ps_dput (hu_of hr) (pv 0) (pe_str) (pe_op op_add (pv 2) (pe_int)) rfl)
 (pss_cons (ps_if (pt_cmpR (op_neD hr.units) (pe_dget (hu_of hr) (pv 0) (pe_str) (fun _ _ => rfl)) (pe_lst (pa_nil)) (by first | rfl | exact nomark _)) (pss_cons (ps_set (i := 3) sc_law_draw.nd rfl (.inl rfl) (pe_op op_mod (pv 2) (pe_callB call_len_seq (by rfl) T.n_len (by decide +kernel) (pa_cons (pe_dget (hu_of hr) (pv 0) (pe_str) (fun _ _ => rfl)) pa_nil))))
 (pss_cons (ps_set (i := 4) sc_law_draw.nd rfl (.inl rfl) (pe_ix ix_list (pe_dget (hu_of hr) (pv 0) (pe_str) (fun _ _ => rfl)) (pv 3) (fun _ _ => rfl)))
 (pss_one (ps_if (pt_cmpR op_gt (pv 4) (pe_int) (by first | rfl | exact nomark _)) (pss_cons (ps_asg (pe_op op_fdivN (pv 4) (pv 1)) (pg_sub (pe_dget (hu_of hr) (pv 0) (pe_str) (fun _ _ => rfl)) (pv 3) set_list))
 (pss_one (ps_ret (pe_op op_mod (pv 4) (pv 1))))) (pss_nil))))) (pss_nil))
 (pss_one (ps_ret (pe_op op_mod (pe_callX (ok_law_mixed T) (hr.mono (by decide)) (by rfl) T.g_law_mixed T.F_law_mixed.kp (b_law_mixed_2 T) pass0 (pa_cons (pe_callX (ok_law_mixed T) (hr.mono (by decide)) (by rfl) T.g_law_mixed T.F_law_mixed.kp (b_law_mixed_2 T) pass0 (pa_cons (pe_op op_add (pe_ix ix_list (pe_dget (hu_of hr) (pv 0) (pe_str) (fun _ _ => rfl)) (pe_op op_mod (pv 2) (pe_int)) (fun _ _ => rfl)) (pe_op op_mul (pe_int) (pe_op op_fdiv (pv 2) (pe_int)))) (pa_cons (pv 2) pa_nil))) (pa_cons (pe_op op_add (pv 2) (pe_int)) pa_nil))) (pv 1)))))), ?_⟩
    -- k = m["spot"]; m["spot"] = k + 1
    refine ⟨_, rfl, d, _, rfl, ms_S nmN ▸ DGet.k (k := Sum.inr "next") hd, ?_⟩
    refine ⟨_, rfl, _, _, rfl, rfl, _, rfl, d, _, rfl, DPut.k (k := Sum.inr "next") hd (small1000 (by show 3 ≤ 1000; decide)), ?_⟩
    rw [ms_put nmN]
    have hd1 : (upd H d (.dK (mKs "next" lc ll (k + 1)))) d = some (.dK (mKs "next" lc ll (k + 1))) := upd_same
    have hc1 : (upd H d (.dK (mKs "next" lc ll (k + 1)))) lc = some (.lst (cs.map V.int)) := by rw [upd_ne ndc.symm]; exact hc
    have hl1 : (upd H d (.dK (mKs "next" lc ll (k + 1)))) ll = some (.lst (ls.map V.int)) := by rw [upd_ne ndl.symm]; exact hl
    have sm1 : Same H0 (upd H d (.dK (mKs "next" lc ll (k + 1)))) := same_put sm fr
    -- if m["left"] != []
    refine ⟨_, rfl, d, _, rfl, ms_L ▸ DGet.k (k := kL) hd1, Nat.zero_le _, fun e fe => ?_⟩
    obtain ⟨H1, eH1⟩ : ∃ H1, H1 = upd H d (.dK (mKs "next" lc ll (k + 1))) := ⟨_, rfl⟩
    rw [← eH1] at hd1 hc1 hl1 sm1 fe ⊢
    have nde : d ≠ e := ne_of_none hd1 fe
    have nce : lc ≠ e := ne_of_none hc1 fe
    have nle : ll ≠ e := ne_of_none hl1 fe
    obtain ⟨H2, eH2⟩ : ∃ H2, H2 = upd H1 e (.lst []) := ⟨_, rfl⟩
    rw [← eH2]
    have he2 : H2 e = some (.lst []) := by rw [eH2, upd_same]
    have hd2 : H2 d = some (.dK (mKs "next" lc ll (k + 1))) := by rw [eH2, upd_ne nde]; exact hd1
    have hc2 : H2 lc = some (.lst (cs.map V.int)) := by rw [eH2, upd_ne nce]; exact hc1
    have hl2 : H2 ll = some (.lst (ls.map V.int)) := by rw [eH2, upd_ne nle]; exact hl1
    have sm2 : Same H0 H2 := by rw [eH2]; exact fun b u z => by rw [upd_ne (ne_of_none (sm1 b u z) fe)]; exact sm1 b u z
    refine ⟨_, _, .lst (.inl (.inl hl2)) (dp_ints ls), .lst (.inl (.inl he2)) .nil, shaped_ints ls, shaped_nil, _, rfl, ?_⟩
    have dr2 : DrS "next" H0 H2 d n := ⟨⟨lc, ll, cs, ls, k + 1, hd2, hc2, hl2, ne, c64, cb, l63, by omega, by omega, f1, f2⟩, sm2, fr⟩
    have i0 : (0 : Int) ≤ k % 64 := Int.emod_nonneg _ (by decide)
    obtain ⟨c, hcc, ac, _⟩ := at_int (cs := cs) i0 (by rw [c64]; exact Int.emod_lt_of_pos _ (by decide))
    have cbb := cb c hcc
    rw [eqv_nil]
    cases ls with
    | nil =>
      refine ⟨_, rfl, d, _, rfl, ms_C ▸ DGet.k (k := kC) hd2, ?_⟩
      repeat walk_at "st"
      refine ⟨lc, _, _, _, rfl, rfl, .inl (.inl hc2), ac, ?_⟩
      repeat walk_at "st"
      refine ⟨_, k, rfl, by omega, by omega, k0, by omega, fun v v0 v1 => ?_⟩
      repeat walk_at "st"
      refine ⟨v, k + 7, rfl, v0, by omega, by omega, by omega, fun u u0 u1 => ?_⟩
      refine ⟨_, rfl, _, _, rfl, rfl, m0, ?_⟩
      exact q _ _ (Int.emod_nonneg _ (by omega)) (Int.emod_lt_of_pos _ m0) dr2
    | cons x r =>
      refine ⟨_, rfl, _, rfl, d, _, rfl, ms_L ▸ DGet.k (k := kL) hd2, ll, _, rfl, .inl (.inl (.inl hl2)), ?_⟩
      have n0 : (0 : Int) < ((((x :: r).map V.int).length : Nat) : Int) := by
        rw [List.length_map, List.length_cons]
        omega
      refine ⟨_, _, rfl, rfl, n0, ?_⟩
      obtain ⟨y, hy, ay, ix⟩ := at_int (cs := x :: r) (i := k % ((((x :: r).map V.int).length : Nat) : Int)) (Int.emod_nonneg _ (by omega)) (by
        have z := Int.emod_lt_of_pos k n0
        rw [List.length_map] at z
        rw [List.length_map]
        exact z)
      refine ⟨_, rfl, d, _, rfl, ms_L ▸ DGet.k (k := kL) hd2, ?_⟩
      repeat walk_at "st"
      refine ⟨ll, _, _, _, rfl, rfl, .inl (.inl hl2), ay, ?_⟩
      repeat walk_at "st"
      refine ite2 (fun _ => ?_) (fun _ => ?_)
      · refine ⟨_, rfl, _, rfl, _, _, rfl, rfl, ⟨by omega, by omega⟩, ?_⟩
        refine ⟨_, rfl, d, _, rfl, ms_L ▸ DGet.k (k := kL) hd2, _, rfl, ll, _, _, _, rfl, rfl, hl2, ix, ?_⟩
        rw [set_int]
        refine ⟨_, rfl, _, rfl, _, _, rfl, rfl, m0, ?_⟩
        refine q _ _ (Int.emod_nonneg _ (by omega)) (Int.emod_lt_of_pos _ m0) ⟨⟨lc, ll, cs, _, k + 1, by rw [upd_ne ndl]; exact hd2, by rw [upd_ne ne]; exact hc2, upd_same, ne, c64, cb, by rw [List.length_set]; exact l63, by omega, by omega, f1, f2⟩, same_put sm2 f2, fr⟩
      · refine ⟨_, rfl, d, _, rfl, ms_C ▸ DGet.k (k := kC) hd2, ?_⟩
        repeat walk_at "st"
        refine ⟨lc, _, _, _, rfl, rfl, .inl (.inl hc2), ac, ?_⟩
        repeat walk_at "st"
        refine ⟨_, k, rfl, by omega, by omega, k0, by omega, fun v v0 v1 => ?_⟩
        repeat walk_at "st"
        refine ⟨v, k + 7, rfl, v0, by omega, by omega, by omega, fun u u0 u1 => ?_⟩
        refine ⟨_, rfl, _, _, rfl, rfl, m0, ?_⟩
        exact q _ _ (Int.emod_nonneg _ (by omega)) (Int.emod_lt_of_pos _ m0) dr2
theorem ok_law_draw (T : Txt mg K w.params) : FnOk P w K mg base CX0 2 T.f_law_draw T.fd_law_draw ["m", "many"] (liftSp K 2 (dDraw "next")) := draw_imp (ok0_law_draw T)
theorem ok_law_begun (T : Txt mg K w.params) : FnOk P w K mg base CX0 2 T.f_law_begun T.fd_law_begun ["script"] (spBegunS K "next") := by
  refine FunD.ok0 T.F_law_begun sc_law_begun (fun vs H Q E h => ?_) (fun cdv A outer s H vs Q E hr h => ?_)
  · obtain ⟨_, _, rfl, _⟩ := h
    rfl
  · obtain ⟨a, ns, rfl, hS, l63, q⟩ := h
    refine ⟨_, pss_cons (ps_set (i := 1) sc_law_begun.nd rfl (.inl rfl) (pe_disp (pps_cons (pe_str) (pe_callX (ok_law_folded T) (hr.mono (by decide)) (by rfl) T.g_law_folded T.F_law_folded.kp (b_law_folded_1 T) pass0 (pa_cons (pv 0) pa_nil)) (pps_cons (pe_str) (pe_lst (pa_nil)) (pps_cons (pe_str) (pe_int) (pps_nil)))) (by rfl) (by rfl) (fun z => by cases z) (by decide)))
 (pss_cons (ps_dput (hu_of hr) (pv 1) (pe_str) (pe_lc (own := [("cell", 2)]) (g := gName 2) (tt := tYes) (by rfl) sc_law_begun.nd (pi_list (pv 0)) (blkOk_by (own := [("cell", 2)]) (N := ["script", "m", "cell"]) (sc := defScope s_law_begun) (by decide +kernel)) (fun _ _ _ _ _ => pg_name (i := 2) sc_law_begun.nd rfl (Or.inl rfl)) (fun _ _ _ _ _ => pts_nil) (fun _ _ _ _ _ => pe_ifExp (pt_cmpR op_ge (pv 2) (pe_op op_pow (pe_int) (pe_int)) (by first | rfl | exact nomark _)) (pv 2) (pe_int))) rfl)
 (pss_one (ps_ret (pv 1)))), ?_⟩
    -- the dict
    intro d fd
    have s0 : Same H (upd H d (.dK [])) := same_new fd
    refine ⟨_, rfl, a, ns, rfl, s0.seq hS, l63, fun p cs H1 fp c64 cb s1 e1 => ?_⟩
    have hd1 : H1 d = some (.dK []) := s1 _ _ upd_same
    refine ⟨Nat.zero_le _, fun l fl => ?_⟩
    have ndl : d ≠ l := ne_of_none hd1 fl
    have npl : p ≠ l := ne_of_none e1 fl
    have npd : p ≠ d := ne_of e1 hd1 (by intro z; cases z)
    refine ⟨by rw [upd_ne ndl]; exact hd1, [(kC, V.ref p), (kL, V.ref l), (Sum.inr "next", V.int 0)], rfl, by show 3 ≤ 15; decide, ?_⟩
    have em : mergeK [] [(kC, V.ref p), (kL, V.ref l), (Sum.inr "next", V.int 0)] = mKs "next" p l 0 := by
      show putK (putK (putK [] kC (V.ref p)) kL (V.ref l)) (Sum.inr "next") (V.int 0) = _
      rw [putK_new (kvs := []) _ valV_nil]
      rw [putK_new (kvs := [] ++ [(kC, V.ref p)]) _ ((valV_neg nCL).trans valV_nil)]
      rw [putK_new (kvs := [] ++ [(kC, V.ref p)] ++ [(kL, V.ref l)]) _ ((valV_neg nmN.c).trans ((valV_neg nmN.l).trans valV_nil))]
      rfl
    rw [em]
    obtain ⟨H2, eH2⟩ : ∃ H2, H2 = upd (upd H1 l (.lst [])) d (.dK (mKs "next" p l 0)) := ⟨_, rfl⟩
    rw [← eH2]
    have hd2 : H2 d = some (.dK (mKs "next" p l 0)) := by rw [eH2, upd_same]
    have hp2 : H2 p = some (.lst (cs.map V.int)) := by rw [eH2, upd_ne npd, upd_ne npl]; exact e1
    have s2 : Same H H2 := by
      intro b u z
      rw [eH2, upd_ne (ne_of_none z fd), upd_ne (ne_of_none (s1 b u (s0 b u z)) fl)]
      exact s1 b u (s0 b u z)
    -- m["left"] = [.. for cell in script]
    refine ⟨_, rfl, a, rfl, ⟨_, s2.seq hS⟩, fun D fD => lc_list (K := K) (a := a) (xs := ns.map V.int) (fun i H3 => Same H2 H3 ∧ ∃ ls : List Int, H3 D = some (.lst (ls.map V.int)) ∧ ls.length = i) ⟨same_new fD, [], upd_same, rfl⟩ (fun i H3 _ hw => hw.1.seq (s2.seq hS)) ?_ ?_⟩
    · rintro i x H3 hx ⟨s3, ls, e3, l3⟩
      obtain ⟨z, rfl⟩ := int_of hx
      have il : i < ns.length := by
        have := (List.getElem?_eq_some_iff.mp hx).1
        rw [List.length_map] at this
        exact this
      refine ⟨rfl, ?_⟩
      have fin : ∀ y : Int, ∃ acc, H3 D = some (.lst acc) ∧ acc.length < sizeLine ∧ (Same H2 (upd H3 D (.lst (acc ++ [V.int y]))) ∧ ∃ ls : List Int, (upd H3 D (.lst (acc ++ [V.int y]))) D = some (.lst (ls.map V.int)) ∧ ls.length = i + 1) := fun y =>
        ⟨_, e3, small1000 (by rw [List.length_map]; omega), same_put s3 fD, ls ++ [y], by rw [upd_same, List.map_append]; rfl, by rw [List.length_append, l3]; rfl⟩
      refine ⟨_, rfl, _, _, rfl, rfl, ⟨by decide, by decide, by decide⟩, _, _, rfl, rfl, _, rfl, ite2 (fun _ => ?_) (fun _ => ?_)⟩
      · exact ⟨_, rfl, fin z⟩
      · exact fin 0
    · rintro H3 ⟨s3, ls, e3, l3⟩
      have hd3 := s3 _ _ hd2
      have hp3 := s3 _ _ hp2
      rw [List.length_map] at l3
      refine ⟨_, rfl, d, _, rfl, DPut.k (k := kL) hd3 (small1000 (by show 3 ≤ 1000; decide)), ?_⟩
      rw [ms_putL nmN]
      refine ⟨_, rfl, q d _ ⟨⟨p, D, cs, ls, 0, upd_same, ?_, ?_, ?_, c64, cb, by omega, by decide, by decide, ?_, ?_⟩, ?_, fd⟩⟩
      · rw [upd_ne npd]; exact hp3
      · rw [upd_ne (fun z => by rw [z] at e3; rw [e3] at hd3; cases hd3)]; exact e3
      · intro z; subst z; rw [hp2] at fD; cases fD
      · exact s0.free fp
      · exact s2.free fD
      · exact same_put (s2.trans s3) fd
end
end K

set_option maxRecDepth 100000
set_option maxHeartbeats 4000000
set_option synthInstance.maxSize 100000
set_option synthInstance.maxHeartbeats 4000000
namespace K
open PySem PySem.Spec PyProof.Rows L2 Gd
local macro_rules | `(tactic| walk_at "mulok") => `(tactic| first | exact Or.inr ⟨by decide, by decide⟩ | exact Or.inl ⟨by decide, by decide⟩ | exact Or.inr ⟨by omega, by omega⟩ | exact Or.inl ⟨by omega, by omega⟩)
local macro_rules | `(tactic| walk_at "st") => `(tactic| first
  | refine ⟨_, rfl, ?_⟩
  | refine ⟨_, _, rfl, rfl, (by walk_at "mulok"), ?_⟩
  | refine ⟨_, _, rfl, rfl, (by show (0 : Int) < _; decide), ?_⟩
  | refine ⟨_, _, rfl, rfl, ⟨by decide, by decide⟩, ?_⟩
  | refine ⟨_, _, rfl, rfl, ?_⟩)
local macro_rules | `(tactic| walk_at "st0") => `(tactic| simp only [List.map_cons, List.map_nil, List.append_nil, List.cons_append, List.nil_append, List.length_cons, List.length_nil, Nat.reduceSub, Nat.reduceAdd, Nat.sub_self, List.replicate])
local macro_rules | `(tactic| walk_at "rd") => `(tactic| dsimp only [Dl.rRaise, Dl.rEqOD, Dl.rNeOD, Dl.rInOD, Dl.inOD, Dl.rLend, Dl.rBorX, Dl.rLnO, Dl.rBoO, Dl.rStO, Dl.rFmt, Dl.rJn, Dl.rJc, Dl.rJs, Dl.dJoin, Dl.dRepL, Dl.rDispT, Dl.rBor, Dl.rMakeN, Dl.rMakeN0, Dl.rTold, Dl.rTypX, Dl.dTX, Dl.dEqTT, Dl.rDict, Dl.rPin, Dl.pinT, Dl.rWGet, Dl.rMethN, Dl.dRepS, Dl.unp_non, Dl.unp_bl, Dl.unp_int, Dl.unp_str, Dl.unp_wst, Dl.unp_ty, Dl.unp_lst, Dl.unp_tup, Dl.unp_cls, Dl.unp_obj, Dl.unp_far, Dl.unp_dct, Dl.unp_pin, Dl.rRet, Dl.rRetN, Dl.rIfS, Dl.rSeq, Dl.rNext, Dl.rDrop, Dl.rAsg, Dl.rName, Dl.rPar, Dl.rPar3, Dl.rAndV, Dl.rOrV, Dl.rNotV, Dl.dIsi, Dl.dDivmod, Dl.mput, Dl.rUn, Dl.rGset, Dl.rFrz, Dl.rAnd, Dl.rOr, Dl.rNot, Dl.rTest, Dl.rTru, Dl.rIf, Dl.rOp, Dl.rOpL, Dl.rCB, Dl.rCBL, Dl.rCons, Dl.rNil, Dl.rVar, Dl.rC, Dl.rStr, Dl.d1, Dl.fTyp, Dl.fLenS, Dl.fLenQ, Dl.fAll, Dl.fSum, Dl.fRepr, Dl.fTupOf, Dl.dTy, Dl.nb, Dl.dInT, Dl.dIn, Dl.dN, Dl.dEq, Dl.dEqD, Dl.dI0, Dl.dIC, Dl.dCat, Dl.dCatL, Dl.dCatS, Dl.dCatT, Dl.dIxL, Dl.dIxT, Dl.dIxS, Dl.rChain, Dl.rChain3, Dl.rTup, Dl.rLst, Dl.rFroz, Dl.rKeep, Dl.rFld, Dl.rBM, Dl.dAppend, Dl.dReverse, Dl.dClear, Dl.dExtend, Dl.rCK, Dl.fMinD, Dl.rCall, Dl.rCall0, Dl.rMeth, Dl.rMeth0, Dl.rMethN0, Dl.rMake, Dl.rMake0, Dl.rSetF, Dl.rGtup, Dl.rGlst, Dl.dIsB, Dl.rGcons, Dl.rGnil, Dl.rIlst, Dl.rItup, Dl.rIenum, Dl.rIenumT, Dl.rIzip, Dl.rIzip3, Dl.rSlcL, Dl.rSlcT, Dl.rSlcS, Dl.rNoPart, Dl.rPart, Dl.dSS, Dl.dII, Dl.dListOf, Dl.dSortI, Dl.rtD, Dl.rtL, List.map_cons, List.map_nil, List.length_cons, List.length_nil, List.cons_append, List.nil_append, List.append_nil, List.replicate, Nat.reduceSub, Nat.reduceAdd, Nat.sub_self, Nat.sub_zero, List.getElem?_cons_zero, List.getElem?_cons_succ, List.set_cons_zero, List.set_cons_succ, List.take_succ_cons, List.take_zero, List.take_nil, Dl.view, Dl.T.tyn, Dl.T.tyx, Dl.T.isN, Dl.T.sc, Dl.T.flat, Dl.flats])
local macro_rules | `(tactic| walk_at "rs") => `(tactic| dsimp only [Dl.rRaise, Dl.rEqOD, Dl.rNeOD, Dl.rInOD, Dl.inOD, Dl.rLend, Dl.rBorX, Dl.rLnO, Dl.rBoO, Dl.rStO, Dl.rFmt, Dl.rJn, Dl.rJc, Dl.rJs, Dl.dJoin, Dl.dRepL, Dl.rDispT, Dl.rBor, Dl.rMakeN, Dl.rMakeN0, Dl.rTold, Dl.rTypX, Dl.dTX, Dl.dEqTT, Dl.rDict, Dl.rPin, Dl.pinT, Dl.rWGet, Dl.rMethN, Dl.dRepS, Dl.unp_non, Dl.unp_bl, Dl.unp_int, Dl.unp_str, Dl.unp_wst, Dl.unp_ty, Dl.unp_lst, Dl.unp_tup, Dl.unp_cls, Dl.unp_obj, Dl.unp_far, Dl.unp_dct, Dl.unp_pin, Dl.rRet, Dl.rRetN, Dl.rIfS, Dl.rNext, Dl.rDrop, Dl.rAsg, Dl.rName, Dl.rPar, Dl.rPar3, Dl.rAndV, Dl.rOrV, Dl.rNotV, Dl.dIsi, Dl.dDivmod, Dl.mput, Dl.rUn, Dl.rGset, Dl.rFrz, Dl.rAnd, Dl.rOr, Dl.rNot, Dl.rTest, Dl.rTru, Dl.rIf, Dl.rOp, Dl.rOpL, Dl.rCB, Dl.rCBL, Dl.rCons, Dl.rNil, Dl.rVar, Dl.rC, Dl.rStr, Dl.d1, Dl.fTyp, Dl.fLenS, Dl.fLenQ, Dl.fAll, Dl.fSum, Dl.fRepr, Dl.fTupOf, Dl.dTy, Dl.nb, Dl.dInT, Dl.dIn, Dl.dN, Dl.dEq, Dl.dEqD, Dl.dI0, Dl.dIC, Dl.dCat, Dl.dCatL, Dl.dCatS, Dl.dCatT, Dl.dIxL, Dl.dIxT, Dl.dIxS, Dl.rChain, Dl.rChain3, Dl.rTup, Dl.rLst, Dl.rFroz, Dl.rKeep, Dl.rFld, Dl.rBM, Dl.dAppend, Dl.dReverse, Dl.dClear, Dl.dExtend, Dl.rCK, Dl.fMinD, Dl.rCall, Dl.rCall0, Dl.rMeth, Dl.rMeth0, Dl.rMethN0, Dl.rMake, Dl.rMake0, Dl.rSetF, Dl.rGtup, Dl.rGlst, Dl.dIsB, Dl.rGcons, Dl.rGnil, Dl.rIlst, Dl.rItup, Dl.rIenum, Dl.rIenumT, Dl.rIzip, Dl.rIzip3, Dl.rSlcL, Dl.rSlcT, Dl.rSlcS, Dl.rNoPart, Dl.rPart, Dl.dSS, Dl.dII, Dl.dListOf, Dl.dSortI, Dl.rtD, Dl.rtL, List.map_cons, List.map_nil, List.length_cons, List.length_nil, List.cons_append, List.nil_append, List.append_nil, List.replicate, Nat.reduceSub, Nat.reduceAdd, Nat.sub_self, Nat.sub_zero, List.getElem?_cons_zero, List.getElem?_cons_succ, List.set_cons_zero, List.set_cons_succ, List.take_succ_cons, List.take_zero, List.take_nil, Dl.view, Dl.T.tyn, Dl.T.tyx, Dl.T.isN, Dl.T.sc, Dl.T.flat, Dl.flats])
open Dl
/-- a thing of a kind that is known; a number told as one -/
def Knd (t : Dl.T) : Prop := t.flat = true ∧ ∃ n, t.tyn = some n ∧ (n = "int" → ∃ i, t = .int i) ∧ (n = "str" → ∃ z, t = .str z)
def whT (t : Dl.T) (lo hi : Int) : Bool := match t with
  | .int i => decide (lo ≤ i) && decide (i ≤ hi)
  | _ => false
theorem knd_int (i : Int) : Knd (.int i) := ⟨rfl, _, rfl, fun _ => ⟨i, rfl⟩, fun h => absurd h (by decide)⟩
theorem knd_str (z : PySem.Str) : Knd (.str z) := ⟨rfl, _, rfl, fun h => absurd h (by decide), fun _ => ⟨z, rfl⟩⟩
def dWhole : DSpec := fun ts μ Φ _ => ∃ (t : Dl.T) (lo hi : Int), ts = [t, .int lo, .int hi] ∧ μ = [] ∧ Knd t ∧ Φ (.bl (whT t lo hi)) []
def lowS (c : Nat) : Bool := decide (97 ≤ c) && decide (c ≤ 122)
def noNames : List PySem.Str := ["style", "job", "round", "sew", "glue", "cover", "letter", "press", "hand", "haste"]
def nmS (z : PySem.Str) : Bool := (decide (1 ≤ z.length) && decide (z.length ≤ 8)) && (z.cps.toList.all lowS && !decide (z ∈ noNames))
def lowX (x : PySem.Str) : Bool := match x.cps.toList with
  | [c] => lowS c
  | _ => false
def nmT (t : Dl.T) : Bool := match t with
  | .str z => nmS z
  | _ => false
def dName : DSpec := fun ts μ Φ _ => ∃ t : Dl.T, ts = [t] ∧ μ = [] ∧ Knd t ∧ (∀ z, t = .str z → z.length ≤ 1000000) ∧ Φ (.bl (nmT t)) []
instance sim_noNames {mg : PySem.Str → Option Value} {K : PySem.W.Frag} {prm : Params} {E : XK} (T : Txt mg K prm) : SimE K E (tC (.ref T.a_NO_NAMES)) (rC (.tup (noNames.map Dl.T.str))) := ⟨fun {W H σ ρ μ xw Φ Q} x _ _ h q => q Wd.Le.refl x (.of (.tup (T.q_NO_NAMES W.B) (by
  show DnAll K W.B [V.str "style", V.str "job", V.str "round", V.str "sew", V.str "glue", V.str "cover", V.str "letter", V.str "press", V.str "hand", V.str "haste"] _
  refine .cons (.str (okSb_ok (by decide +kernel))) (.cons (.str (okSb_ok (by decide +kernel))) (.cons (.str (okSb_ok (by decide +kernel))) (.cons (.str (okSb_ok (by decide +kernel))) (.cons (.str (okSb_ok (by decide +kernel))) (.cons (.str (okSb_ok (by decide +kernel))) (.cons (.str (okSb_ok (by decide +kernel))) (.cons (.str (okSb_ok (by decide +kernel))) (.cons (.str (okSb_ok (by decide +kernel))) (.cons (.str (okSb_ok (by decide +kernel))) .nil)))))))))))) h⟩
theorem inV_str (z : PySem.Str) : ∀ l : List PySem.Str, inV (V.str z) (l.map V.str) = decide (z ∈ l)
  | [] => rfl
  | a :: r => by
    show ((a == z) || inV (V.str z) (r.map V.str)) = _
    rw [inV_str z r]
    by_cases h : z = a
    · subst h; simp
    · have h' : (a == z) = false := by simpa using fun q => h q.symm
      simp [h, h']
section
variable {P : Program} {w : World} {K : PySem.W.Frag} {mg : PySem.Str → Option Value} {base : Heap}
theorem ok_is_whole (T : Txt mg K w.params) : FnOk P w K mg base CX0 1 T.f_is_whole T.fd_is_whole ["thing", "least", "most"] (liftSp K 3 dWhole) := by
  refine FunD.ok0 T.F_is_whole sc_is_whole lift_len (fun cdv A outer s H vs Q E hr h => ⟨_, pss_one (ps_ret (pe_and (pe_cmpR op_isTyB (pe_callTy (typeK (K := K) rfl) (by rfl) T.n_type (by decide +kernel) (pa_cons (pv 0) pa_nil)) (pe_bltn (v := .ty "int") (by rfl) T.n_int (by decide +kernel) rfl) (by first | rfl | exact nomark _)) (pe_one (pe_chain op_le op_le (pv 1) (pv 0) (pv 2))))), body_sim h ?_⟩)
  rintro ts μ Φ xw hl ⟨t, lo, hi, rfl, rfl, ⟨fl, n, ty, ki, ks⟩, q⟩
  walk_at "st0"
  walk_at "rd"
  by_cases hn : n = "int"
  · obtain ⟨i, rfl⟩ := ki hn
    by_cases h1 : lo ≤ i
    · simpa [whT, h1] using q
    · simpa [whT, h1] using q
  · have hw : whT t lo hi = false := by
      cases t with
      | int i => cases ty; exact absurd rfl hn
      | _ => rfl
    rw [hw] at q
    cases t with
    | rs k => cases fl
    | obj _ _ => cases ty
    | wst _ => cases ty
    | ty _ => cases ty
    | int i => cases ty; exact absurd rfl hn
    | far a m =>
      cases ty
      show if decide (n = "int") = true then _ else _
      rw [if_neg (by simp [hn])]
      exact q
    | _ => first | (cases ty; done) | (cases ty; exact q)
theorem ok_is_name (T : Txt mg K w.params) : FnOk P w K mg base CX0 1 T.f_is_name T.fd_is_name ["thing"] (liftSp K 1 dName) := by
  refine FunD.ok0 T.F_is_name sc_is_name lift_len (fun cdv A outer s H vs Q E hr h => ⟨_, pss_cons (ps_if (PW.pt (pw_or (pt_cmpR op_notTyB (pe_callTy (typeK (K := K) rfl) (by rfl) T.n_type (by decide +kernel) (pa_cons (pv 0) pa_nil)) (pe_bltn (v := .ty "str") (by rfl) T.n_str (by decide +kernel) rfl) (by first | rfl | exact nomark _)) (pw_or1 (pt_not (pt_chain op_le op_le (pe_int) (pe_callB call_len_str (by rfl) T.n_len (by decide +kernel) (pa_cons (pv 0) pa_nil)) (pe_glob (v := .int 8) (by rfl) T.c_MOST_LETTERS (by first | exact rfl | exact ⟨_, rfl⟩))))))) (pss_one (ps_ret (pe_bl))) (pss_nil))
 (pss_one (ps_ret (pe_and (pe_callB (allK (K := K) rfl rfl) (by rfl) T.n_all (by decide +kernel) (pa_cons (pe_lc (own := [("sign", 1)]) (g := gName 1) (tt := tYes) (by rfl) sc_is_name.nd (pi_str (pv 0)) (blkOk_by (own := [("sign", 1)]) (N := ["thing", "sign"]) (sc := defScope s_is_name) (by decide +kernel)) (fun _ _ _ _ _ => pg_name (i := 1) sc_is_name.nd rfl (Or.inl rfl)) (fun _ _ _ _ _ => pts_nil) (fun _ _ _ _ _ => pe_chain op_le_str op_le_str (pe_str) (pv 1) (pe_str))) pa_nil)) (pe_one (pe_cmpR (notInK (K := K) rfl) (pv 0) (pe_glob (v := .ref T.a_NO_NAMES) (by rfl) T.c_NO_NAMES (by first | exact rfl | exact ⟨_, rfl⟩)) (by first | rfl | exact nomark _)))))), body_sim h ?_⟩)
  rintro ts μ Φ xw hl ⟨t, rfl, rfl, ⟨fl, n, ty, ki, ks⟩, sz, q⟩
  walk_at "st0"
  walk_at "rd"
  by_cases hn : n = "str"
  · obtain ⟨z, rfl⟩ := ks hn
    have z0 := sz z rfl
    have q' : Φ (.bl (nmS z)) [] := q
    by_cases h1 : 1 ≤ z.length
    · by_cases h8 : z.length ≤ 8
      · simp only [decide_true, Bool.not_true, Bool.false_eq_true, if_false, if_true]
        refine ⟨z0, ?_⟩
        rw [if_pos (decide_eq_true (by omega)), if_neg (by simp; omega)]
        refine rLc_map (fun t => match t with | .str x => .bl (lowX x) | _ => .non) (by simp) ?_ ?_ ?_
        · rw [List.length_map, ← len_tl]
          exact z0
        · intro t ht
          obtain ⟨c, hc, rfl⟩ := List.mem_map.mp ht
          refine ⟨rfl, fun Ψ hΨ => ?_⟩
          have hΨ' : Ψ (.bl (decide (97 ≤ c) && decide (c ≤ 122))) [] := hΨ
          simp only [wipeR, rName, rChain, rStr, rVar, dSS, List.set_cons_zero, List.set_cons_succ, List.getElem?_cons_zero, List.getElem?_cons_succ]
          refine ⟨by decide +kernel, ?_⟩
          refine iteE (le_sign (a := Str.ofString "a") (d := 97) (by decide +kernel)) ?_
          by_cases c1 : 97 ≤ c
          · rw [if_pos (decide_eq_true c1)]
            refine ⟨by decide +kernel, ?_⟩
            rw [decide_eq_true c1, Bool.true_and, ← ge_sign (a := Str.ofString "z") (d := 122) (by decide +kernel)] at hΨ'
            exact hΨ'
          · rw [if_neg (by simp [c1])]
            rw [decide_eq_false c1, Bool.false_and] at hΨ'
            exact hΨ'
        · refine ⟨_, z.cps.toList.map lowS, rfl, ?_, ?_⟩
          · rw [List.map_map, show ((fun t => match t with | Dl.T.str x => Dl.T.bl (lowX x) | _ => Dl.T.non) ∘ fun c => Dl.T.str { cps := #[c] }) = Dl.T.bl ∘ lowS from funext fun c => rfl, ← List.map_map]
            exact bls_map _
          · unfold nmS at q'
            rw [decide_eq_true h1, decide_eq_true h8, Bool.true_and, Bool.true_and] at q'
            rw [List.all_map, show (id ∘ lowS) = lowS from rfl]
            by_cases ha : z.cps.toList.all lowS = true
            · rw [if_pos ha]
              rw [ha, Bool.true_and] at q'
              refine ⟨_, _, noNames.map V.str, rfl, rfl, rfl, ?_⟩
              rw [show inV (V.str z) (noNames.map V.str) = decide (z ∈ noNames) from inV_str z noNames]
              exact q'
            · rw [if_neg ha]
              rw [Bool.eq_false_iff.mpr ha, Bool.false_and] at q'
              exact q'
      · simp only [decide_true, Bool.not_true, Bool.false_eq_true, if_false, if_true]
        refine ⟨z0, ?_⟩
        rw [if_pos (decide_eq_true (by omega)), if_pos (by simp; omega)]
        unfold nmS at q'
        rw [decide_eq_false h8, Bool.and_false, Bool.false_and] at q'
        exact q'
    · simp only [decide_true, Bool.not_true, Bool.false_eq_true, if_false, if_true]
      refine ⟨z0, ?_⟩
      rw [if_neg (by simp; omega)]
      unfold nmS at q'
      rw [decide_eq_false h1, Bool.false_and, Bool.false_and] at q'
      simpa using q'
  · have hw : nmT t = false := by
      cases t with
      | str z => cases ty; exact absurd rfl hn
      | _ => rfl
    rw [hw] at q
    cases t with
    | rs k => cases fl
    | obj _ _ => cases ty
    | wst _ => cases ty
    | ty _ => cases ty
    | str z => cases ty; exact absurd rfl hn
    | far a m =>
      cases ty
      show if (!decide (n = "str")) = true then _ else _
      rw [if_pos (by simp [hn])]
      exact q
    | _ => first | (cases ty; done) | (cases ty; exact q)
end
end K

set_option maxRecDepth 100000
set_option maxHeartbeats 4000000
set_option synthInstance.maxSize 100000
set_option synthInstance.maxHeartbeats 4000000
namespace K
open PySem PySem.Spec PyProof.Rows L2 Gd
local macro_rules | `(tactic| walk_at "mulok") => `(tactic| first | exact Or.inr ⟨by decide, by decide⟩ | exact Or.inl ⟨by decide, by decide⟩ | exact Or.inr ⟨by omega, by omega⟩ | exact Or.inl ⟨by omega, by omega⟩)
local macro_rules | `(tactic| walk_at "st") => `(tactic| first
  | refine ⟨_, rfl, ?_⟩
  | refine ⟨_, _, rfl, rfl, (by walk_at "mulok"), ?_⟩
  | refine ⟨_, _, rfl, rfl, (by show (0 : Int) < _; decide), ?_⟩
  | refine ⟨_, _, rfl, rfl, ⟨by decide, by decide⟩, ?_⟩
  | refine ⟨_, _, rfl, rfl, ?_⟩)
local macro_rules | `(tactic| walk_at "st0") => `(tactic| simp only [List.map_cons, List.map_nil, List.append_nil, List.cons_append, List.nil_append, List.length_cons, List.length_nil, Nat.reduceSub, Nat.reduceAdd, Nat.sub_self, List.replicate])
local macro_rules | `(tactic| walk_at "rd") => `(tactic| dsimp only [Dl.rRaise, Dl.rEqOD, Dl.rNeOD, Dl.rInOD, Dl.inOD, Dl.rLend, Dl.rBorX, Dl.rLnO, Dl.rBoO, Dl.rStO, Dl.rFmt, Dl.rJn, Dl.rJc, Dl.rJs, Dl.dJoin, Dl.dRepL, Dl.rDispT, Dl.rBor, Dl.rMakeN, Dl.rMakeN0, Dl.rTold, Dl.rTypX, Dl.dTX, Dl.dEqTT, Dl.rDict, Dl.rPin, Dl.pinT, Dl.rWGet, Dl.rMethN, Dl.dRepS, Dl.unp_non, Dl.unp_bl, Dl.unp_int, Dl.unp_str, Dl.unp_wst, Dl.unp_ty, Dl.unp_lst, Dl.unp_tup, Dl.unp_cls, Dl.unp_obj, Dl.unp_far, Dl.unp_dct, Dl.unp_pin, Dl.rRet, Dl.rRetN, Dl.rIfS, Dl.rSeq, Dl.rNext, Dl.rDrop, Dl.rAsg, Dl.rName, Dl.rPar, Dl.rPar3, Dl.rAndV, Dl.rOrV, Dl.rNotV, Dl.dIsi, Dl.dDivmod, Dl.mput, Dl.rUn, Dl.rGset, Dl.rFrz, Dl.rAnd, Dl.rOr, Dl.rNot, Dl.rTest, Dl.rTru, Dl.rIf, Dl.rOp, Dl.rOpL, Dl.rCB, Dl.rCBL, Dl.rCons, Dl.rNil, Dl.rVar, Dl.rC, Dl.rStr, Dl.d1, Dl.fTyp, Dl.fLenS, Dl.fLenQ, Dl.fAll, Dl.fSum, Dl.fRepr, Dl.fTupOf, Dl.dTy, Dl.nb, Dl.dInT, Dl.dIn, Dl.dN, Dl.dEq, Dl.dEqD, Dl.dI0, Dl.dIC, Dl.dCat, Dl.dCatL, Dl.dCatS, Dl.dCatT, Dl.dIxL, Dl.dIxT, Dl.dIxS, Dl.rChain, Dl.rChain3, Dl.rTup, Dl.rLst, Dl.rFroz, Dl.rKeep, Dl.rFld, Dl.rBM, Dl.dAppend, Dl.dReverse, Dl.dClear, Dl.dExtend, Dl.rCK, Dl.fMinD, Dl.rCall, Dl.rCall0, Dl.rMeth, Dl.rMeth0, Dl.rMethN0, Dl.rMake, Dl.rMake0, Dl.rSetF, Dl.rGtup, Dl.rGlst, Dl.dIsB, Dl.rGcons, Dl.rGnil, Dl.rIlst, Dl.rItup, Dl.rIenum, Dl.rIenumT, Dl.rIzip, Dl.rIzip3, Dl.rSlcL, Dl.rSlcT, Dl.rSlcS, Dl.rNoPart, Dl.rPart, Dl.dSS, Dl.dII, Dl.dListOf, Dl.dSortI, Dl.rtD, Dl.rtL, List.map_cons, List.map_nil, List.length_cons, List.length_nil, List.cons_append, List.nil_append, List.append_nil, List.replicate, Nat.reduceSub, Nat.reduceAdd, Nat.sub_self, Nat.sub_zero, List.getElem?_cons_zero, List.getElem?_cons_succ, List.set_cons_zero, List.set_cons_succ, List.take_succ_cons, List.take_zero, List.take_nil, Dl.view, Dl.T.tyn, Dl.T.tyx, Dl.T.isN, Dl.T.sc, Dl.T.flat, Dl.flats])
local macro_rules | `(tactic| walk_at "rs") => `(tactic| dsimp only [Dl.rRaise, Dl.rEqOD, Dl.rNeOD, Dl.rInOD, Dl.inOD, Dl.rLend, Dl.rBorX, Dl.rLnO, Dl.rBoO, Dl.rStO, Dl.rFmt, Dl.rJn, Dl.rJc, Dl.rJs, Dl.dJoin, Dl.dRepL, Dl.rDispT, Dl.rBor, Dl.rMakeN, Dl.rMakeN0, Dl.rTold, Dl.rTypX, Dl.dTX, Dl.dEqTT, Dl.rDict, Dl.rPin, Dl.pinT, Dl.rWGet, Dl.rMethN, Dl.dRepS, Dl.unp_non, Dl.unp_bl, Dl.unp_int, Dl.unp_str, Dl.unp_wst, Dl.unp_ty, Dl.unp_lst, Dl.unp_tup, Dl.unp_cls, Dl.unp_obj, Dl.unp_far, Dl.unp_dct, Dl.unp_pin, Dl.rRet, Dl.rRetN, Dl.rIfS, Dl.rNext, Dl.rDrop, Dl.rAsg, Dl.rName, Dl.rPar, Dl.rPar3, Dl.rAndV, Dl.rOrV, Dl.rNotV, Dl.dIsi, Dl.dDivmod, Dl.mput, Dl.rUn, Dl.rGset, Dl.rFrz, Dl.rAnd, Dl.rOr, Dl.rNot, Dl.rTest, Dl.rTru, Dl.rIf, Dl.rOp, Dl.rOpL, Dl.rCB, Dl.rCBL, Dl.rCons, Dl.rNil, Dl.rVar, Dl.rC, Dl.rStr, Dl.d1, Dl.fTyp, Dl.fLenS, Dl.fLenQ, Dl.fAll, Dl.fSum, Dl.fRepr, Dl.fTupOf, Dl.dTy, Dl.nb, Dl.dInT, Dl.dIn, Dl.dN, Dl.dEq, Dl.dEqD, Dl.dI0, Dl.dIC, Dl.dCat, Dl.dCatL, Dl.dCatS, Dl.dCatT, Dl.dIxL, Dl.dIxT, Dl.dIxS, Dl.rChain, Dl.rChain3, Dl.rTup, Dl.rLst, Dl.rFroz, Dl.rKeep, Dl.rFld, Dl.rBM, Dl.dAppend, Dl.dReverse, Dl.dClear, Dl.dExtend, Dl.rCK, Dl.fMinD, Dl.rCall, Dl.rCall0, Dl.rMeth, Dl.rMeth0, Dl.rMethN0, Dl.rMake, Dl.rMake0, Dl.rSetF, Dl.rGtup, Dl.rGlst, Dl.dIsB, Dl.rGcons, Dl.rGnil, Dl.rIlst, Dl.rItup, Dl.rIenum, Dl.rIenumT, Dl.rIzip, Dl.rIzip3, Dl.rSlcL, Dl.rSlcT, Dl.rSlcS, Dl.rNoPart, Dl.rPart, Dl.dSS, Dl.dII, Dl.dListOf, Dl.dSortI, Dl.rtD, Dl.rtL, List.map_cons, List.map_nil, List.length_cons, List.length_nil, List.cons_append, List.nil_append, List.append_nil, List.replicate, Nat.reduceSub, Nat.reduceAdd, Nat.sub_self, Nat.sub_zero, List.getElem?_cons_zero, List.getElem?_cons_succ, List.set_cons_zero, List.set_cons_succ, List.take_succ_cons, List.take_zero, List.take_nil, Dl.view, Dl.T.tyn, Dl.T.tyx, Dl.T.isN, Dl.T.sc, Dl.T.flat, Dl.flats])
open Dl Rm
def callT (c : Cal) : Dl.T := .tup [.int c.1, .str c.2.1, .int c.2.2]
def callsT (l : List Cal) : Dl.T := .tup (l.map callT)
/-- calls as they may be -/
structure OkC (L : Int) (l : List Cal) : Prop where
  l1 : 1 ≤ L
  l2 : L ≤ 1000
  len : l.length ≤ 12
  all : ∀ c ∈ l, 0 ≤ c.1 ∧ c.1 < L ∧ nmS c.2.1 = true ∧ 1 ≤ c.2.2 ∧ c.2.2 ≤ 1000
  up : ∀ (i : Nat) (c d : Cal), l[i]? = some c → l[i + 1]? = some d → c.1 ≤ d.1
theorem OkC.pos {L : Int} {l : List Cal} (h : OkC L l) : ∀ c ∈ l, 0 ≤ c.1 := fun c hc => (h.all c hc).1
theorem tot_le {n : Int} : ∀ {l : List Cal}, (∀ c ∈ l, 0 ≤ c.2.2 ∧ c.2.2 ≤ n) → 0 ≤ tot l ∧ tot l ≤ l.length * n
  | [], _ => ⟨Int.le_refl _, by show (0 : Int) ≤ 0 * n; omega⟩
  | c :: r, h => by
    have a := h c List.mem_cons_self
    have b := tot_le (l := r) fun d hd => h d (List.mem_cons_of_mem _ hd)
    show 0 ≤ c.2.2 + tot r ∧ c.2.2 + tot r ≤ ((r.length + 1 : Nat) : Int) * n
    rw [show ((r.length + 1 : Nat) : Int) = (r.length : Int) + 1 from by omega, Int.add_mul]
    omega
theorem OkC.tot {L : Int} {l : List Cal} (h : OkC L l) : 0 ≤ tot l ∧ tot l ≤ 12000 := by
  have a := tot_le (n := 1000) fun c hc => ⟨Int.le_trans (by decide) (h.all c hc).2.2.2.1, (h.all c hc).2.2.2.2⟩
  have := h.len
  omega
theorem OkC.stp {L : Int} {l : List Cal} (h : OkC L l) : 1 ≤ stp L l ∧ stp L l ≤ 12000 := by
  have := h.tot
  have := h.l1
  have := h.l2
  unfold Rm.stp
  omega
theorem nm_len {z : PySem.Str} (h : nmS z = true) : z.length ≤ 8 := by
  unfold nmS at h
  simp only [Bool.and_eq_true, decide_eq_true_eq] at h
  exact h.1.2
/-- a row of things, as a list or as a tuple -/
def RowT (t : Dl.T) (ts : List Dl.T) : Prop := t = .tup ts ∨ t = .lst ts
def dAre : DSpec := fun ts μ Φ _ => ∃ (L : Int) (l : List Cal) (t : Dl.T), ts = [t, .int L] ∧ μ = [] ∧ RowT t (l.map callT) ∧ OkC L l ∧ Φ (.bl true) []
theorem ofTy_of {n : String} (h : ∀ s' : Shared, s'.TypeIs (.type n) "type") : OfTy n := h
section
variable {P : Program} {w : World} {K : PySem.W.Frag} {mg : PySem.Str → Option Value} {base : Heap}
theorem ok_are_calls (T : Txt mg K w.params) : FnOk P w K mg base CX0 2 T.f_are_calls T.fd_are_calls ["thing", "length"] (liftSp K 2 dAre) := by
  refine FunD.ok0 T.F_are_calls sc_are_calls lift_len (fun cdv A outer s H vs Q E hr h => ⟨_, pss_cons (ps_if (PW.pt (pw_or (pt_cmpR (notInTK (K := K) rfl) (pe_callTy (typeK (K := K) rfl) (by rfl) T.n_type (by decide +kernel) (pa_cons (pv 0) pa_nil)) (pe_tup (pa_cons (pe_bltn (v := .ty "list") (by rfl) T.n_list (by decide +kernel) rfl) (pa_cons (pe_bltn (v := .ty "tuple") (by rfl) T.n_tuple (by decide +kernel) rfl) pa_nil))) (by first | rfl | exact nomark _)) (pw_or1 (pt_cmpR op_gt (pe_callB (lenK (K := K) rfl) (by rfl) T.n_len (by decide +kernel) (pa_cons (pv 0) pa_nil)) (pe_glob (v := .int 12) (by rfl) T.c_MOST_CALLS (by first | exact rfl | exact ⟨_, rfl⟩)) (by first | rfl | exact nomark _))))) (pss_one (ps_ret (pe_bl))) (pss_nil))
 (pss_cons (ps_set (i := 2) sc_are_calls.nd rfl (.inl rfl) (pe_int))
 (pss_cons (ps_for PassesOwn.never rfl (Dl.piSqK (K := K) rfl (pv 0)) (pg_name (i := 3) sc_are_calls.nd rfl (.inl rfl)) (pss_cons (ps_if (PW.pt (pw_or (pt_cmpR op_notTyB (pe_callTy (typeK (K := K) rfl) (by rfl) T.n_type (by decide +kernel) (pa_cons (pv 3) pa_nil)) (pe_bltn (v := .ty "tuple") (by rfl) T.n_tuple (by decide +kernel) rfl) (by first | rfl | exact nomark _)) (pw_or1 (pt_cmpR op_ne (pe_callB (lenK (K := K) rfl) (by rfl) T.n_len (by decide +kernel) (pa_cons (pv 3) pa_nil)) (pe_int) (by first | rfl | exact nomark _))))) (pss_one (ps_ret (pe_bl))) (pss_nil))
 (pss_cons (ps_asg (pv 3) (pgTK (K := K) rfl (n := 3) (by rfl) (pgs_cons (pg_name (i := 4) sc_are_calls.nd rfl (.inl rfl)) (pgs_cons (pg_name (i := 5) sc_are_calls.nd rfl (.inl rfl)) (pgs_cons (pg_name (i := 6) sc_are_calls.nd rfl (.inl rfl)) (pgs_nil))))))
 (pss_cons (ps_if (PW.pt (pw_or (pt_not (pt_val (pe_callX (ok_is_whole T) (hr.mono (by decide)) (by rfl) T.g_is_whole T.F_is_whole.kp (b_is_whole_3 T) pass0 (pa_cons (pv 4) (pa_cons (pv 2) (pa_cons (pe_op op_sub (pv 1) (pe_int)) pa_nil)))))) (pw_or (pt_not (pt_val (pe_callX (ok_is_name T) (hr.mono (by decide)) (by rfl) T.g_is_name T.F_is_name.kp (b_is_name_1 T) pass0 (pa_cons (pv 5) pa_nil)))) (pw_or1 (pt_not (pt_val (pe_callX (ok_is_whole T) (hr.mono (by decide)) (by rfl) T.g_is_whole T.F_is_whole.kp (b_is_whole_3 T) pass0 (pa_cons (pv 6) (pa_cons (pe_int) (pa_cons (pe_glob (v := .int 1000) (by rfl) T.c_MOST_CALL_HOURS (by first | exact rfl | exact ⟨_, rfl⟩)) pa_nil)))))))))) (pss_one (ps_ret (pe_bl))) (pss_nil))
 (pss_one (ps_set (i := 2) sc_are_calls.nd rfl (.inl rfl) (pv 4)))))))
 (pss_one (ps_ret (pe_bl))))), body_sim h ?_⟩)
  rintro ts μ Φ xw hl ⟨L, l, t, rfl, rfl, row, ok, q⟩
  have un : unp t = .lst (l.map callT) ∨ unp t = .tup (l.map callT) := by
    rcases row with rfl | rfl
    · exact .inr rfl
    · exact .inl rfl
  walk_at "st0"
  refine rSeq_cut (fun ρ μ => ρ = [some t, some (.int L), none, none, none, none, none] ∧ μ = []) (fun N hN => ?_) ?_
  · rcases row with rfl | rfl
    · walk_at "rd"
      refine ⟨by decide, by decide, ["list", "tuple"], rfl, TypeEq.meta_tuple, fun n hn => ?_, ?_⟩
      · simp only [List.mem_cons, List.not_mem_nil, or_false] at hn
        rcases hn with rfl | rfl
        · exact TypeEq.meta_list
        · exact TypeEq.meta_tuple
      refine iteF' (by decide) ?_
      rw [List.length_map]
      exact iteF' (by simpa using by have := ok.len; omega) (hN _ _ ⟨rfl, rfl⟩)
    · walk_at "rd"
      refine ⟨by decide, by decide, ["list", "tuple"], rfl, TypeEq.meta_list, fun n hn => ?_, ?_⟩
      · simp only [List.mem_cons, List.not_mem_nil, or_false] at hn
        rcases hn with rfl | rfl
        · exact TypeEq.meta_list
        · exact TypeEq.meta_tuple
      refine iteF' (by decide) ?_
      rw [List.length_map]
      exact iteF' (by simpa using by have := ok.len; omega) (hN _ _ ⟨rfl, rfl⟩)
  rintro ρ μ ⟨rfl, rfl⟩
  refine rSeq_go ?_
  walk_at "rs"
  refine rSeq_go ?_
  unfold rFor
  refine isq_of (t := t) (l := l.map callT) rfl un ?_
  refine ⟨fun i ρ μ => ∃ (least : Int) (a b c d : Option Dl.T), ρ = [some t, some (.int L), some (.int least), a, b, c, d] ∧ μ = [] ∧ ∀ c, l[i]? = some c → least ≤ c.1, ⟨0, none, none, none, none, rfl, rfl, fun c hc => (ok.all c (List.mem_of_getElem? hc)).1⟩, ?_, ?_⟩
  · rintro i t2 ρ μ e ⟨least, a, b, c, d, rfl, rfl, hle⟩
    rw [List.getElem?_map, Option.map_eq_some_iff] at e
    obtain ⟨cal, ec, rfl⟩ := e
    obtain ⟨o1, o2, o3, o4, o5⟩ := ok.all cal (List.mem_of_getElem? ec)
    unfold callT
    walk_at "rd"
    refine iteF' (by decide) (iteF' (by simp) ⟨rfl, rfl, callF rfl ⟨_, _, _, rfl, rfl, knd_int _, ?_⟩⟩)
    have := hle cal ec
    refine iteF' (by simp [whT]; omega) ⟨rfl, callF rfl ⟨_, rfl, rfl, knd_str _, fun z hz => ?_, ?_⟩⟩
    · cases hz
      exact Nat.le_trans (nm_len o3) (by decide)
    refine iteF' (by simp [nmT, o3]) ⟨rfl, callF rfl ⟨_, _, _, rfl, rfl, knd_int _, ?_⟩⟩
    refine iteF' (by simp [whT]; omega) ?_
    refine ⟨cal.1, _, _, _, _, rfl, rfl, fun d hd => ok.up i cal d ec hd⟩
  · rintro ρ μ ⟨least, a, b, c, d, rfl, rfl, hle⟩
    exact q
end
end K

set_option maxRecDepth 100000
set_option maxHeartbeats 4000000
set_option synthInstance.maxSize 100000
set_option synthInstance.maxHeartbeats 4000000
namespace K
open PySem PySem.Spec PyProof.Rows L2 Gd
local macro_rules | `(tactic| walk_at "mulok") => `(tactic| first | exact Or.inr ⟨by decide, by decide⟩ | exact Or.inl ⟨by decide, by decide⟩ | exact Or.inr ⟨by omega, by omega⟩ | exact Or.inl ⟨by omega, by omega⟩)
local macro_rules | `(tactic| walk_at "st") => `(tactic| first
  | refine ⟨_, rfl, ?_⟩
  | refine ⟨_, _, rfl, rfl, (by walk_at "mulok"), ?_⟩
  | refine ⟨_, _, rfl, rfl, (by show (0 : Int) < _; decide), ?_⟩
  | refine ⟨_, _, rfl, rfl, ⟨by decide, by decide⟩, ?_⟩
  | refine ⟨_, _, rfl, rfl, ?_⟩)
local macro_rules | `(tactic| walk_at "st0") => `(tactic| simp only [List.map_cons, List.map_nil, List.append_nil, List.cons_append, List.nil_append, List.length_cons, List.length_nil, Nat.reduceSub, Nat.reduceAdd, Nat.sub_self, List.replicate])
local macro_rules | `(tactic| walk_at "rd") => `(tactic| dsimp only [Dl.rRaise, Dl.rEqOD, Dl.rNeOD, Dl.rInOD, Dl.inOD, Dl.rLend, Dl.rBorX, Dl.rLnO, Dl.rBoO, Dl.rStO, Dl.rFmt, Dl.rJn, Dl.rJc, Dl.rJs, Dl.dJoin, Dl.dRepL, Dl.rDispT, Dl.rBor, Dl.rMakeN, Dl.rMakeN0, Dl.rTold, Dl.rTypX, Dl.dTX, Dl.dEqTT, Dl.rDict, Dl.rPin, Dl.pinT, Dl.rWGet, Dl.rMethN, Dl.dRepS, Dl.unp_non, Dl.unp_bl, Dl.unp_int, Dl.unp_str, Dl.unp_wst, Dl.unp_ty, Dl.unp_lst, Dl.unp_tup, Dl.unp_cls, Dl.unp_obj, Dl.unp_far, Dl.unp_dct, Dl.unp_pin, Dl.rRet, Dl.rRetN, Dl.rIfS, Dl.rSeq, Dl.rNext, Dl.rDrop, Dl.rAsg, Dl.rName, Dl.rPar, Dl.rPar3, Dl.rAndV, Dl.rOrV, Dl.rNotV, Dl.dIsi, Dl.dDivmod, Dl.mput, Dl.rUn, Dl.rGset, Dl.rFrz, Dl.rAnd, Dl.rOr, Dl.rNot, Dl.rTest, Dl.rTru, Dl.rIf, Dl.rOp, Dl.rOpL, Dl.rCB, Dl.rCBL, Dl.rCons, Dl.rNil, Dl.rVar, Dl.rC, Dl.rStr, Dl.d1, Dl.fTyp, Dl.fLenS, Dl.fLenQ, Dl.fAll, Dl.fSum, Dl.fRepr, Dl.fTupOf, Dl.dTy, Dl.nb, Dl.dInT, Dl.dIn, Dl.dN, Dl.dEq, Dl.dEqD, Dl.dI0, Dl.dIC, Dl.dCat, Dl.dCatL, Dl.dCatS, Dl.dCatT, Dl.dIxL, Dl.dIxT, Dl.dIxS, Dl.rChain, Dl.rChain3, Dl.rTup, Dl.rLst, Dl.rFroz, Dl.rKeep, Dl.rFld, Dl.rBM, Dl.dAppend, Dl.dReverse, Dl.dClear, Dl.dExtend, Dl.rCK, Dl.fMinD, Dl.rCall, Dl.rCall0, Dl.rMeth, Dl.rMeth0, Dl.rMethN0, Dl.rMake, Dl.rMake0, Dl.rSetF, Dl.rGtup, Dl.rGlst, Dl.dIsB, Dl.rGcons, Dl.rGnil, Dl.rIlst, Dl.rItup, Dl.rIenum, Dl.rIenumT, Dl.rIzip, Dl.rIzip3, Dl.rSlcL, Dl.rSlcT, Dl.rSlcS, Dl.rNoPart, Dl.rPart, Dl.dSS, Dl.dII, Dl.dListOf, Dl.dSortI, Dl.rtD, Dl.rtL, List.map_cons, List.map_nil, List.length_cons, List.length_nil, List.cons_append, List.nil_append, List.append_nil, List.replicate, Nat.reduceSub, Nat.reduceAdd, Nat.sub_self, Nat.sub_zero, List.getElem?_cons_zero, List.getElem?_cons_succ, List.set_cons_zero, List.set_cons_succ, List.take_succ_cons, List.take_zero, List.take_nil, Dl.view, Dl.T.tyn, Dl.T.tyx, Dl.T.isN, Dl.T.sc, Dl.T.flat, Dl.flats])
local macro_rules | `(tactic| walk_at "rs") => `(tactic| dsimp only [Dl.rRaise, Dl.rEqOD, Dl.rNeOD, Dl.rInOD, Dl.inOD, Dl.rLend, Dl.rBorX, Dl.rLnO, Dl.rBoO, Dl.rStO, Dl.rFmt, Dl.rJn, Dl.rJc, Dl.rJs, Dl.dJoin, Dl.dRepL, Dl.rDispT, Dl.rBor, Dl.rMakeN, Dl.rMakeN0, Dl.rTold, Dl.rTypX, Dl.dTX, Dl.dEqTT, Dl.rDict, Dl.rPin, Dl.pinT, Dl.rWGet, Dl.rMethN, Dl.dRepS, Dl.unp_non, Dl.unp_bl, Dl.unp_int, Dl.unp_str, Dl.unp_wst, Dl.unp_ty, Dl.unp_lst, Dl.unp_tup, Dl.unp_cls, Dl.unp_obj, Dl.unp_far, Dl.unp_dct, Dl.unp_pin, Dl.rRet, Dl.rRetN, Dl.rIfS, Dl.rNext, Dl.rDrop, Dl.rAsg, Dl.rName, Dl.rPar, Dl.rPar3, Dl.rAndV, Dl.rOrV, Dl.rNotV, Dl.dIsi, Dl.dDivmod, Dl.mput, Dl.rUn, Dl.rGset, Dl.rFrz, Dl.rAnd, Dl.rOr, Dl.rNot, Dl.rTest, Dl.rTru, Dl.rIf, Dl.rOp, Dl.rOpL, Dl.rCB, Dl.rCBL, Dl.rCons, Dl.rNil, Dl.rVar, Dl.rC, Dl.rStr, Dl.d1, Dl.fTyp, Dl.fLenS, Dl.fLenQ, Dl.fAll, Dl.fSum, Dl.fRepr, Dl.fTupOf, Dl.dTy, Dl.nb, Dl.dInT, Dl.dIn, Dl.dN, Dl.dEq, Dl.dEqD, Dl.dI0, Dl.dIC, Dl.dCat, Dl.dCatL, Dl.dCatS, Dl.dCatT, Dl.dIxL, Dl.dIxT, Dl.dIxS, Dl.rChain, Dl.rChain3, Dl.rTup, Dl.rLst, Dl.rFroz, Dl.rKeep, Dl.rFld, Dl.rBM, Dl.dAppend, Dl.dReverse, Dl.dClear, Dl.dExtend, Dl.rCK, Dl.fMinD, Dl.rCall, Dl.rCall0, Dl.rMeth, Dl.rMeth0, Dl.rMethN0, Dl.rMake, Dl.rMake0, Dl.rSetF, Dl.rGtup, Dl.rGlst, Dl.dIsB, Dl.rGcons, Dl.rGnil, Dl.rIlst, Dl.rItup, Dl.rIenum, Dl.rIenumT, Dl.rIzip, Dl.rIzip3, Dl.rSlcL, Dl.rSlcT, Dl.rSlcS, Dl.rNoPart, Dl.rPart, Dl.dSS, Dl.dII, Dl.dListOf, Dl.dSortI, Dl.rtD, Dl.rtL, List.map_cons, List.map_nil, List.length_cons, List.length_nil, List.cons_append, List.nil_append, List.append_nil, List.replicate, Nat.reduceSub, Nat.reduceAdd, Nat.sub_self, Nat.sub_zero, List.getElem?_cons_zero, List.getElem?_cons_succ, List.set_cons_zero, List.set_cons_succ, List.take_succ_cons, List.take_zero, List.take_nil, Dl.view, Dl.T.tyn, Dl.T.tyx, Dl.T.isN, Dl.T.sc, Dl.T.flat, Dl.flats])
open Dl Rm
def rf1 (L : Int) (l : List Cal) : List (PySem.Str × Dl.T) := [("_length", .int L), ("_calls", callsT l), ("_total", .int (tot l)), ("_step", .int (stp L l))]
def begT (L : Int) (l : List Cal) : Dl.T := .lst ((bgs L l 0 ++ bgs L l 1).map .int)
def rfs (L : Int) (l : List Cal) : List (PySem.Str × Dl.T) := [("_length", .int L), ("_calls", callsT l), ("_total", .int (tot l)), ("_step", .int (stp L l)), ("_begins", begT L l)]
/-- a round, as it is told -/
def rndT (C : Addr) (L : Int) (l : List Cal) : Dl.T := .obj C (rfs L l)
theorem lk_len {L : Int} {l : List Cal} : List.lookup (Str.ofString "_length") (rfs L l) = some (.int L) := rfl
theorem lk_calls {L : Int} {l : List Cal} : List.lookup (Str.ofString "_calls") (rfs L l) = some (.tup (l.map callT)) := rfl
theorem lk_tot {L : Int} {l : List Cal} : List.lookup (Str.ofString "_total") (rfs L l) = some (.int (tot l)) := rfl
theorem lk_step {L : Int} {l : List Cal} : List.lookup (Str.ofString "_step") (rfs L l) = some (.int (stp L l)) := rfl
theorem lk_begins {L : Int} {l : List Cal} : List.lookup (Str.ofString "_begins") (rfs L l) = some (.lst ((bgs L l 0 ++ bgs L l 1).map .int)) := rfl
def dFirst (C : Addr) : DSpec := fun ts μ Φ _ => ∃ (L : Int) (l : List Cal), ts = [.rs 0] ∧ μ = [.obj C (rf1 L l)] ∧ OkC L l ∧ Φ (begT L l) [.obj C (rf1 L l)]
/-- the calls, as they are handed in -/
def CallsA (l : List Cal) (u : Dl.T) (r : Mu) : Prop := (r = [] ∧ (RowT u (l.map callT) ∨ (u = .non ∧ l = []))) ∨ (u = .rs 1 ∧ r = [.lst (l.map callT)])
def dInit (C : Addr) : DSpec := fun ts μ Φ _ => ∃ (L : Int) (l : List Cal) (u : Dl.T) (r : Mu), ts = [.rs 0, .int L, u] ∧ μ = .obj C [] :: r ∧ CallsA l u r ∧ OkC L l ∧ Φ .non (.obj C (rfs L l) :: r)
def dBg (C : Addr) : DSpec := fun ts μ Φ _ => ∃ (L : Int) (l : List Cal) (k j : Nat), ts = [rndT C L l, .int k, .int j] ∧ μ = [] ∧ OkC L l ∧ j < l.length ∧ Φ (.int (bAt L l k j)) []
section
variable {P : Program} {w : World} {K : PySem.W.Frag} {mg : PySem.Str → Option Value} {base : Heap}
theorem ok_Round__first_begins (T : Txt mg K w.params) : FnOk P w K mg base CX0 1 T.f_Round__first_begins T.fd_Round__first_begins ["self"] (liftSp K 1 (dFirst T.C_Round)) := by
  refine FunD.ok0 T.F_Round__first_begins sc_Round__first_begins lift_len (fun cdv A outer s H vs Q E hr h => ⟨_, pss_cons (ps_set (i := 1) sc_Round__first_begins.nd rfl (.inl rfl) (Dl.pe_keep (pe_lst (pa_nil))))
 (pss_cons (ps_set (i := 2) sc_Round__first_begins.nd rfl (.inl rfl) (pe_int))
 (pss_cons (ps_for PassesOwn.never rfl (pi_range1 (by rfl) T.n_range (pa_cons (pe_int) pa_nil)) (pg_name (i := 3) sc_Round__first_begins.nd rfl (.inl rfl)) (pss_one (ps_for PassesOwn.never rfl (piTK (K := K) rfl (fldK (K := K) rfl (pv 0) rfl)) (pgTK (K := K) rfl (n := 3) (by rfl) (pgs_cons (pg_name (i := 4) sc_Round__first_begins.nd rfl (.inl rfl)) (pgs_cons (pg_name (i := 5) sc_Round__first_begins.nd rfl (.inl rfl)) (pgs_cons (pg_name (i := 6) sc_Round__first_begins.nd rfl (.inl rfl)) (pgs_nil))))) (pss_cons (ps_set (i := 7) sc_Round__first_begins.nd rfl (.inl rfl) (pe_callB (call_max2 rfl) (by rfl) T.n_max (by decide +kernel) (pa_cons (pv 2) (pa_cons (pe_op op_add (pe_op op_mul (pv 3) (fldK (K := K) rfl (pv 0) rfl)) (pv 4)) pa_nil))))
 (pss_cons (ps_expr (bmK (K := K) rfl PySem.F.plainAttrs_list PySem.F.slot_list_append PySem.F.type_list_append mt_append (pv 1) (pa_cons (pv 7) pa_nil)))
 (pss_one (ps_set (i := 2) sc_Round__first_begins.nd rfl (.inl rfl) (pe_op op_add (pv 7) (pv 6)))))))))
 (pss_one (ps_ret (pv 1))))), body_sim h ?_⟩)
  rintro ts μ Φ xw hl ⟨L, l, rfl, rfl, ok, q⟩
  walk_at "st0"
  walk_at "rd"
  refine ⟨rfl, by decide, by decide, by decide, fun k ρ μ => k ≤ 2 ∧ ∃ (a b c d e : Option Dl.T), ρ = [some (.rs 0), some (.rs 1), some (.int (freK L l k)), a, b, c, d, e] ∧ μ = [.obj T.C_Round (rf1 L l), .lst ((accK L l k).map .int)], ⟨by decide, _, _, _, _, _, rfl, rfl⟩, ?_, ?_⟩
  · rintro k t ρ μ et ⟨k2, a, b, c, d, e, rfl, rfl⟩
    have kt : k < 2 ∧ t = .int (k : Int) := by
      match k, et with
      | 0, et => exact ⟨by decide, (Option.some.inj et).symm⟩
      | 1, et => exact ⟨by decide, (Option.some.inj et).symm⟩
      | k + 2, et => simp at et
    obtain ⟨k3, rfl⟩ := kt
    refine ⟨fun i ρ μ => i ≤ l.length ∧ ∃ (b c d e : Option Dl.T), ρ = [some (.rs 0), some (.rs 1), some (.int (fin L k (freK L l k) (l.take i))), some (.int k), b, c, d, e] ∧ μ = [.obj T.C_Round (rf1 L l), .lst ((accK L l k ++ (bgs L l k).take i).map .int)], ⟨Nat.zero_le _, _, _, _, _, rfl, by simp⟩, ?_, ?_⟩
    · rintro i t ρ μ et ⟨il, b, c, d, e, rfl, rfl⟩
      rw [List.getElem?_map, Option.map_eq_some_iff] at et
      obtain ⟨cal, ec, rfl⟩ := et
      obtain ⟨o1, o2, o3, o4, o5⟩ := ok.all cal (List.mem_of_getElem? ec)
      have lt := (List.getElem?_eq_some_iff.mp ec).1
      have bk : (bgs L l k)[i]? = some (max (fin L k (freK L l k) (l.take i)) (k * L + cal.1)) := by
        rw [← freK_beg]
        exact beg_take ec
      unfold callT
      walk_at "rd"
      refine ⟨rfl, ?_⟩
      refine ⟨.inl ⟨by omega, by omega⟩, rfl, _, rfl, rfl, ?_, ?_⟩
      · simp only [List.length_map, List.length_append, List.length_take, bgs_len]
        have : (accK L l k).length ≤ 2 * l.length := by
          match k, k3 with
          | 0, _ => exact Nat.zero_le _
          | 1, _ => simp [accK, bgs_len]; omega
        have := ok.len
        omega
      rw [mx_eq]
      refine ⟨lt, some (.int cal.1), some (.str cal.2.1), some (.int cal.2.2), some (.int (max (fin L k (freK L l k) (l.take i)) (k * L + cal.1))), ?_, ?_⟩
      · rw [fin_take ec]
      · rw [take_snoc bk, ← List.append_assoc]
        simp
    · rintro ρ μ ⟨il, b, c, d, e, rfl, rfl⟩
      refine ⟨by omega, some (.int k), b, c, d, e, ?_, ?_⟩
      · rw [List.length_map, List.take_length, freK_fin]
      · rw [List.length_map, List.take_of_length_le (Nat.le_of_eq (bgs_len L l k))]
        rfl
  · rintro ρ μ ⟨k2, a, b, c, d, e, rfl, rfl⟩
    refine ⟨Nat.le_refl _, _, rfl, ?_⟩
    exact q
theorem ok_Round_init (T : Txt mg K w.params) : FnOk P w K mg base CX0 3 T.f_Round_init T.fd_Round_init ["self", "length", "calls"] (liftSp K 3 (dInit T.C_Round)) := by
  refine FunD.ok0 T.F_Round_init sc_Round_init lift_len (fun cdv A outer s H vs Q E hr h => ⟨_, pss_cons (ps_if (pt_not (pt_val (pe_callX (ok_is_whole T) (hr.mono (by decide)) (by rfl) T.g_is_whole T.F_is_whole.kp (b_is_whole_3 T) pass0 (pa_cons (pv 1) (pa_cons (pe_int) (pa_cons (pe_glob (v := .int 1000) (by rfl) T.c_MOST_LENGTH (by first | exact rfl | exact ⟨_, rfl⟩)) pa_nil)))))) (pss_one (ps_never)) (pss_nil))
 (pss_cons (ps_set (i := 3) sc_Round_init.nd rfl (.inl rfl) (pe_ifExp (pt_cmpR op_isN (pv 2) (pe_non) (by first | rfl | exact nomark _)) (pe_tup (pa_nil)) (pv 2)))
 (pss_cons (ps_if (pt_not (pt_val (Dl.pe_borX (pe_callX (ok_are_calls T) (hr.mono (by decide)) (by rfl) T.g_are_calls T.F_are_calls.kp (b_are_calls_2 T) pass0 (pa_cons (pv 3) (pa_cons (pv 1) pa_nil)))))) (pss_one (ps_never)) (pss_nil))
 (pss_cons (psFK (K := K) rfl (pv 0) (pv 1) rfl)
 (pss_cons (psFK (K := K) rfl (pv 0) (pe_callTy (tupOfK (K := K) rfl) (by rfl) T.n_tuple (by decide +kernel) (pa_cons (pv 3) pa_nil)) rfl)
 (pss_cons (psFK (K := K) rfl (pv 0) (pe_callB (sumK (K := K) rfl rfl) (by rfl) T.n_sum (by decide +kernel) (pa_cons (pe_lc (own := [("_", 4), ("hours", 5)]) (g := gTup K 3 (gCons (gName 4) (gCons (gName 4) (gCons (gName 5) (gNil))))) (tt := tYes) (by rfl) sc_Round_init.nd (piTK (K := K) rfl (fldK (K := K) rfl (pv 0) rfl)) (blkOk_by (own := [("_", 4), ("hours", 5)]) (N := ["self", "length", "calls", "told", "_", "hours"]) (sc := defScope s_Round_init) (by decide +kernel)) (fun _ _ _ _ _ => pgTK (K := K) rfl (by rfl) (pgs_cons (pg_name (i := 4) sc_Round_init.nd rfl (Or.inl rfl)) (pgs_cons (pg_name (i := 4) sc_Round_init.nd rfl (Or.inl rfl)) (pgs_cons (pg_name (i := 5) sc_Round_init.nd rfl (Or.inl rfl)) (pgs_nil))))) (fun _ _ _ _ _ => pts_nil) (fun _ _ _ _ _ => pv 5)) pa_nil)) rfl)
 (pss_cons (psFK (K := K) rfl (pv 0) (pe_callB (call_max2 rfl) (by rfl) T.n_max (by decide +kernel) (pa_cons (pv 1) (pa_cons (fldK (K := K) rfl (pv 0) rfl) pa_nil))) rfl)
 (pss_one (psFK (K := K) rfl (pv 0) (pe_methX0 (pv 0) T.cl_Round T.m_Round__first_begins (ok_Round__first_begins T) (hr.mono (by decide)) (b_Round__first_begins_1 T) pass0) rfl)))))))), body_sim h ?_⟩)
  rintro ts μ Φ xw hl ⟨L, l, u, r, rfl, rfl, ca, ok, q⟩
  have ok1 := ok.l1
  have ok2 := ok.l2
  walk_at "st0"
  refine rSeq_go ?_
  walk_at "rs"
  refine ⟨rfl, callF rfl ⟨_, _, _, rfl, rfl, knd_int _, ?_⟩⟩
  refine iteF' (by simp [whT]; omega) ?_
  refine rSeq_cut (fun ρ μ => ∃ v, ρ = [some (.rs 0), some (.int L), some u, some v, none, none] ∧ μ = .obj T.C_Round [] :: r ∧ ((r = [] ∧ RowT v (l.map callT)) ∨ (v = .rs 1 ∧ r = [.lst (l.map callT)]))) (fun N hN => ?_) ?_
  · walk_at "rs"
    rcases ca with ⟨rfl, row | ⟨rfl, rfl⟩⟩ | ⟨rfl, rfl⟩
    · rcases row with rfl | rfl
      · exact ⟨rfl, iteF' rfl (hN _ _ ⟨_, rfl, rfl, .inl ⟨rfl, .inl rfl⟩⟩)⟩
      · exact ⟨rfl, iteF' rfl (hN _ _ ⟨_, rfl, rfl, .inl ⟨rfl, .inr rfl⟩⟩)⟩
    · exact ⟨rfl, iteT' rfl ⟨rfl, by decide, hN _ _ ⟨_, rfl, rfl, .inl ⟨rfl, .inl rfl⟩⟩⟩⟩
    · exact ⟨rfl, iteF' rfl (hN _ _ ⟨_, rfl, rfl, .inr ⟨rfl, rfl⟩⟩)⟩
  rintro ρ μ ⟨v, rfl, rfl, hv⟩
  refine rSeq_cut (fun ρ μ => ρ = [some (.rs 0), some (.int L), some u, some v, none, none] ∧ μ = .obj T.C_Round [] :: r) (fun N hN => ?_) ?_
  · walk_at "rs"
    rcases hv with ⟨rfl, row⟩ | ⟨rfl, rfl⟩
    · have fl : v.flat = true := by rcases row with rfl | rfl <;> rfl
      exact .inl ⟨rfl, callF (by show (v.flat && _) = true; rw [fl]; rfl) ⟨L, l, v, rfl, rfl, row, ok, iteF' rfl (hN _ _ ⟨rfl, rfl⟩)⟩⟩
    · exact .inr ⟨rfl, 1, l.map callT, _, rfl, .rs (.fl rfl .nil), ⟨L, l, _, rfl, rfl, .inr rfl, ok, .bl _, iteF' rfl (hN _ _ ⟨rfl, rfl⟩)⟩⟩
  rintro ρ μ ⟨rfl, rfl⟩
  refine rSeq_go ?_
  walk_at "rs"
  refine ⟨_, _, rfl, T.no_Round__length, rfl, by decide, ?_⟩
  refine rSeq_cut (fun ρ μ => ρ = [some (.rs 0), some (.int L), some u, some v, none, none] ∧ μ = .obj T.C_Round [("_length", .int L), ("_calls", callsT l)] :: r) (fun N hN => ?_) ?_
  · walk_at "rs"
    rcases hv with ⟨rfl, row⟩ | ⟨rfl, rfl⟩
    · rcases row with rfl | rfl
      · exact ⟨_, _, rfl, T.no_Round__calls, rfl, by show 1 < 1000; decide, hN _ _ ⟨rfl, rfl⟩⟩
      · exact ⟨_, _, rfl, T.no_Round__calls, rfl, by show 1 < 1000; decide, hN _ _ ⟨rfl, rfl⟩⟩
    · exact ⟨_, _, rfl, T.no_Round__calls, rfl, by show 1 < 1000; decide, hN _ _ ⟨rfl, rfl⟩⟩
  rintro ρ μ ⟨rfl, rfl⟩
  unfold callsT
  walk_at "rd"
  refine rLc_map (fun t => match t with | .tup [_, _, h] => h | _ => .non) (by simp) ?_ ?_ ?_
  · rw [List.length_map]
    have := ok.len
    omega
  · intro t ht
    obtain ⟨c, hc, rfl⟩ := List.mem_map.mp ht
    exact ⟨rfl, fun Ψ hΨ => ⟨rfl, hΨ⟩⟩
  · rw [List.map_map]
    refine ⟨_, l.map fun c => c.2.2, rfl, ?_, T.C_Round, _, rfl, T.no_Round__total, rfl, by show 2 < 1000; decide, ?_⟩
    · exact ints_mapf (α := Cal) (fun c => c.2.2) l
    rw [tot_sum]
    show Exists _
    refine ⟨T.C_Round, _, rfl, T.no_Round__step, rfl, by show 3 < 1000; decide, ?_⟩
    rw [stp_eq]
    refine ⟨⟨_, rfl, rfl⟩, rfl, callR rfl rfl ⟨L, l, rfl, rfl, ok, ?_⟩⟩
    refine ⟨T.C_Round, _, rfl, T.no_Round__begins, rfl, by show 4 < 1000; decide, ?_⟩
    show Φ .non (List.take (r.length + 1) (Res.obj T.C_Round (rfs L l) :: r))
    rw [show List.take (r.length + 1) (Res.obj T.C_Round (rfs L l) :: r) = Res.obj T.C_Round (rfs L l) :: r from by simp]
    exact q
end
end K

set_option maxRecDepth 100000
set_option maxHeartbeats 4000000
set_option synthInstance.maxSize 100000
set_option synthInstance.maxHeartbeats 4000000
namespace K
open PySem PySem.Spec PyProof.Rows L2 Gd
local macro_rules | `(tactic| walk_at "mulok") => `(tactic| first | exact Or.inr ⟨by decide, by decide⟩ | exact Or.inl ⟨by decide, by decide⟩ | exact Or.inr ⟨by omega, by omega⟩ | exact Or.inl ⟨by omega, by omega⟩)
local macro_rules | `(tactic| walk_at "st") => `(tactic| first
  | refine ⟨_, rfl, ?_⟩
  | refine ⟨_, _, rfl, rfl, (by walk_at "mulok"), ?_⟩
  | refine ⟨_, _, rfl, rfl, (by show (0 : Int) < _; decide), ?_⟩
  | refine ⟨_, _, rfl, rfl, ⟨by decide, by decide⟩, ?_⟩
  | refine ⟨_, _, rfl, rfl, ?_⟩)
local macro_rules | `(tactic| walk_at "st0") => `(tactic| simp only [List.map_cons, List.map_nil, List.append_nil, List.cons_append, List.nil_append, List.length_cons, List.length_nil, Nat.reduceSub, Nat.reduceAdd, Nat.sub_self, List.replicate])
local macro_rules | `(tactic| walk_at "rd") => `(tactic| dsimp only [Dl.rRaise, Dl.rEqOD, Dl.rNeOD, Dl.rInOD, Dl.inOD, Dl.rLend, Dl.rBorX, Dl.rLnO, Dl.rBoO, Dl.rStO, Dl.rFmt, Dl.rJn, Dl.rJc, Dl.rJs, Dl.dJoin, Dl.dRepL, Dl.rDispT, Dl.rBor, Dl.rMakeN, Dl.rMakeN0, Dl.rTold, Dl.rTypX, Dl.dTX, Dl.dEqTT, Dl.rDict, Dl.rPin, Dl.pinT, Dl.rWGet, Dl.rMethN, Dl.dRepS, Dl.unp_non, Dl.unp_bl, Dl.unp_int, Dl.unp_str, Dl.unp_wst, Dl.unp_ty, Dl.unp_lst, Dl.unp_tup, Dl.unp_cls, Dl.unp_obj, Dl.unp_far, Dl.unp_dct, Dl.unp_pin, Dl.rRet, Dl.rRetN, Dl.rIfS, Dl.rSeq, Dl.rNext, Dl.rDrop, Dl.rAsg, Dl.rName, Dl.rPar, Dl.rPar3, Dl.rAndV, Dl.rOrV, Dl.rNotV, Dl.dIsi, Dl.dDivmod, Dl.mput, Dl.rUn, Dl.rGset, Dl.rFrz, Dl.rAnd, Dl.rOr, Dl.rNot, Dl.rTest, Dl.rTru, Dl.rIf, Dl.rOp, Dl.rOpL, Dl.rCB, Dl.rCBL, Dl.rCons, Dl.rNil, Dl.rVar, Dl.rC, Dl.rStr, Dl.d1, Dl.fTyp, Dl.fLenS, Dl.fLenQ, Dl.fAll, Dl.fSum, Dl.fRepr, Dl.fTupOf, Dl.dTy, Dl.nb, Dl.dInT, Dl.dIn, Dl.dN, Dl.dEq, Dl.dEqD, Dl.dI0, Dl.dIC, Dl.dCat, Dl.dCatL, Dl.dCatS, Dl.dCatT, Dl.dIxL, Dl.dIxT, Dl.dIxS, Dl.rChain, Dl.rChain3, Dl.rTup, Dl.rLst, Dl.rFroz, Dl.rKeep, Dl.rFld, Dl.rBM, Dl.dAppend, Dl.dReverse, Dl.dClear, Dl.dExtend, Dl.rCK, Dl.fMinD, Dl.rCall, Dl.rCall0, Dl.rMeth, Dl.rMeth0, Dl.rMethN0, Dl.rMake, Dl.rMake0, Dl.rSetF, Dl.rGtup, Dl.rGlst, Dl.dIsB, Dl.rGcons, Dl.rGnil, Dl.rIlst, Dl.rItup, Dl.rIenum, Dl.rIenumT, Dl.rIzip, Dl.rIzip3, Dl.rSlcL, Dl.rSlcT, Dl.rSlcS, Dl.rNoPart, Dl.rPart, Dl.dSS, Dl.dII, Dl.dListOf, Dl.dSortI, Dl.rtD, Dl.rtL, List.map_cons, List.map_nil, List.length_cons, List.length_nil, List.cons_append, List.nil_append, List.append_nil, List.replicate, Nat.reduceSub, Nat.reduceAdd, Nat.sub_self, Nat.sub_zero, List.getElem?_cons_zero, List.getElem?_cons_succ, List.set_cons_zero, List.set_cons_succ, List.take_succ_cons, List.take_zero, List.take_nil, Dl.view, Dl.T.tyn, Dl.T.tyx, Dl.T.isN, Dl.T.sc, Dl.T.flat, Dl.flats])
local macro_rules | `(tactic| walk_at "rs") => `(tactic| dsimp only [Dl.rRaise, Dl.rEqOD, Dl.rNeOD, Dl.rInOD, Dl.inOD, Dl.rLend, Dl.rBorX, Dl.rLnO, Dl.rBoO, Dl.rStO, Dl.rFmt, Dl.rJn, Dl.rJc, Dl.rJs, Dl.dJoin, Dl.dRepL, Dl.rDispT, Dl.rBor, Dl.rMakeN, Dl.rMakeN0, Dl.rTold, Dl.rTypX, Dl.dTX, Dl.dEqTT, Dl.rDict, Dl.rPin, Dl.pinT, Dl.rWGet, Dl.rMethN, Dl.dRepS, Dl.unp_non, Dl.unp_bl, Dl.unp_int, Dl.unp_str, Dl.unp_wst, Dl.unp_ty, Dl.unp_lst, Dl.unp_tup, Dl.unp_cls, Dl.unp_obj, Dl.unp_far, Dl.unp_dct, Dl.unp_pin, Dl.rRet, Dl.rRetN, Dl.rIfS, Dl.rNext, Dl.rDrop, Dl.rAsg, Dl.rName, Dl.rPar, Dl.rPar3, Dl.rAndV, Dl.rOrV, Dl.rNotV, Dl.dIsi, Dl.dDivmod, Dl.mput, Dl.rUn, Dl.rGset, Dl.rFrz, Dl.rAnd, Dl.rOr, Dl.rNot, Dl.rTest, Dl.rTru, Dl.rIf, Dl.rOp, Dl.rOpL, Dl.rCB, Dl.rCBL, Dl.rCons, Dl.rNil, Dl.rVar, Dl.rC, Dl.rStr, Dl.d1, Dl.fTyp, Dl.fLenS, Dl.fLenQ, Dl.fAll, Dl.fSum, Dl.fRepr, Dl.fTupOf, Dl.dTy, Dl.nb, Dl.dInT, Dl.dIn, Dl.dN, Dl.dEq, Dl.dEqD, Dl.dI0, Dl.dIC, Dl.dCat, Dl.dCatL, Dl.dCatS, Dl.dCatT, Dl.dIxL, Dl.dIxT, Dl.dIxS, Dl.rChain, Dl.rChain3, Dl.rTup, Dl.rLst, Dl.rFroz, Dl.rKeep, Dl.rFld, Dl.rBM, Dl.dAppend, Dl.dReverse, Dl.dClear, Dl.dExtend, Dl.rCK, Dl.fMinD, Dl.rCall, Dl.rCall0, Dl.rMeth, Dl.rMeth0, Dl.rMethN0, Dl.rMake, Dl.rMake0, Dl.rSetF, Dl.rGtup, Dl.rGlst, Dl.dIsB, Dl.rGcons, Dl.rGnil, Dl.rIlst, Dl.rItup, Dl.rIenum, Dl.rIenumT, Dl.rIzip, Dl.rIzip3, Dl.rSlcL, Dl.rSlcT, Dl.rSlcS, Dl.rNoPart, Dl.rPart, Dl.dSS, Dl.dII, Dl.dListOf, Dl.dSortI, Dl.rtD, Dl.rtL, List.map_cons, List.map_nil, List.length_cons, List.length_nil, List.cons_append, List.nil_append, List.append_nil, List.replicate, Nat.reduceSub, Nat.reduceAdd, Nat.sub_self, Nat.sub_zero, List.getElem?_cons_zero, List.getElem?_cons_succ, List.set_cons_zero, List.set_cons_succ, List.take_succ_cons, List.take_zero, List.take_nil, Dl.view, Dl.T.tyn, Dl.T.tyx, Dl.T.isN, Dl.T.sc, Dl.T.flat, Dl.flats])
open Dl Rm
def dOne (f : Int → List Cal → Dl.T) (C : Addr) : DSpec := fun ts μ Φ _ => ∃ (L : Int) (l : List Cal), ts = [rndT C L l] ∧ μ = [] ∧ OkC L l ∧ Φ (f L l) []
def dCalls (C : Addr) : List Dl.T → Mu → (List Dl.T → Mu → Prop) → XW → Prop := fun ts μ Φ _ => ∃ (L : Int) (l : List Cal), ts = [rndT C L l] ∧ μ = [] ∧ OkC L l ∧ Φ (l.map callT) []
/-- a thing of a built-in type -/
def OddT (u : Dl.T) : Prop := (∃ n, (unp u).tyx = some n) ∧ u.flat = true
def dEqR (C : Addr) : DSpec := fun ts μ Φ _ => ∃ (L : Int) (l : List Cal) (u : Dl.T) (b : Bool), ts = [rndT C L l, u] ∧ μ = [] ∧ OkC L l ∧ ((∃ (L2 : Int) (l2 : List Cal), u = rndT C L2 l2 ∧ OkC L2 l2 ∧ b = decide (L = L2 ∧ l = l2)) ∨ (OddT u ∧ b = false)) ∧ Φ (.bl b) []
theorem fTypX_odd {μ : Mu} {t : Dl.T} {Ψ : Dl.T → Prop} (h : OddT t) (q : ∀ n, Ψ (.ty n)) : fTypX μ t Ψ := by
  obtain ⟨⟨n, e⟩, fl⟩ := h
  have ev : view μ t = unp t := by cases t <;> first | rfl | cases fl
  unfold fTypX
  rw [ev]
  cases hv : unp t with
  | obj _ _ => rw [hv] at e; cases e
  | _ => rw [hv] at e; simp only [e]; exact q n
instance sim_clsR {mg : PySem.Str → Option Value} {K : PySem.W.Frag} {prm : Params} {E : XK} (T : Txt mg K prm) : SimE K E (tC (.ref T.C_Round)) (rC (.cls T.C_Round)) := ⟨fun x _ _ h q => q Wd.Le.refl x (.of (.cls T.mk_Round.makes)) h⟩
def callD (c : Cal) : PyData := .tuple [.int c.1, .str c.2.1, .int c.2.2]
theorem pds_call : ∀ l : List Cal, Dl.T.pds (l.map callT) = some (l.map callD)
  | [] => by simp [Dl.T.pds]
  | p :: r => by simp [Dl.T.pds, Dl.T.pd, callT, callD, pds_call r]
theorem eqv_call : ∀ l l2 : List Cal, PyData.eqvAll (l.map callD) (l2.map callD) = decide (l = l2)
  | [], [] => by simp [PyData.eqvAll]
  | [], _ :: _ => by simp [PyData.eqvAll]
  | _ :: _, [] => by simp [PyData.eqvAll]
  | (a, b, c) :: r, (a2, b2, c2) :: r2 => by
    have eb : (b == b2) = decide (b = b2) := by
      by_cases h : b = b2
      · rw [decide_eq_true h]; exact beq_iff_eq.mpr h
      · rw [decide_eq_false h]; exact beq_eq_false_iff_ne.mpr h
    have ea : (a == a2) = decide (a = a2) := by
      by_cases h : a = a2
      · rw [decide_eq_true h]; exact beq_iff_eq.mpr h
      · rw [decide_eq_false h]; exact beq_eq_false_iff_ne.mpr h
    have ec : (c == c2) = decide (c = c2) := by
      by_cases h : c = c2
      · rw [decide_eq_true h]; exact beq_iff_eq.mpr h
      · rw [decide_eq_false h]; exact beq_eq_false_iff_ne.mpr h
    simp [PyData.eqvAll, PyData.eqv, callD, eqv_call r r2]
    rw [ea, eb, ec]
theorem nm_okS {z : PySem.Str} (h : nmS z = true) : okS z := fun x hx => by
  unfold nmS at h
  simp only [Bool.and_eq_true] at h
  have := List.all_eq_true.mp h.2.1 x hx
  unfold lowS at this
  simp only [Bool.and_eq_true, decide_eq_true_eq] at this
  omega
theorem call_sw0 {L : Int} {l : List Cal} (ok : OkC L l) : ∀ t ∈ l.map callT, ∃ d, Sw t d 1 20 := by
  intro t ht
  obtain ⟨c, hc, rfl⟩ := List.mem_map.mp ht
  obtain ⟨o1, o2, o3, o4, o5⟩ := ok.all c hc
  have l2 := ok.l2
  have := nm_len o3
  exact ⟨_, (Sws.cons (.int (by omega)) (.cons (.str (nm_okS o3)) (.cons (.int (by omega)) .nil))).t.up (by omega)⟩
theorem calls_pdT {L : Int} {l : List Cal} (ok : OkC L l) : (Dl.T.tup (l.map callT)).pd = some (.tuple (l.map callD)) ∧ (PyData.tuple (l.map callD)).depth ≤ 64 := by
  obtain ⟨ds, h⟩ := Sws.all (call_sw0 ok)
  have e := h.pd
  rw [pds_call] at e
  cases e
  exact ⟨h.t.is.pd, Nat.le_trans h.t.is.s3 (by decide)⟩
theorem calls_pdL {L : Int} {l : List Cal} (ok : OkC L l) : (Dl.T.lst (l.map callT)).pd = some (.list (l.map callD)) ∧ (PyData.list (l.map callD)).depth ≤ 64 := by
  obtain ⟨ds, h⟩ := Sws.all (call_sw0 ok)
  have e := h.pd
  rw [pds_call] at e
  cases e
  exact ⟨h.l.is.pd, Nat.le_trans h.l.is.s3 (by decide)⟩
theorem eqv_callT (l l2 : List Cal) : PyData.eqv (.tuple (l.map callD)) (.tuple (l2.map callD)) = decide (l = l2) := by
  unfold PyData.eqv
  exact eqv_call l l2
theorem eqv_callL (l l2 : List Cal) : PyData.eqv (.list (l.map callD)) (.list (l2.map callD)) = decide (l = l2) := by
  unfold PyData.eqv
  exact eqv_call l l2
section
variable {P : Program} {w : World} {K : PySem.W.Frag} {mg : PySem.Str → Option Value} {base : Heap}
theorem ok_Round_length (T : Txt mg K w.params) : FnOk P w K mg base CX0 1 T.f_Round_length T.fd_Round_length ["self"] (liftSp K 1 (dOne (fun L _ => .int L) T.C_Round)) := by
  refine FunD.ok0 T.F_Round_length sc_Round_length lift_len (fun cdv A outer s H vs Q E hr h => ⟨_, pss_one (ps_ret (fldK (K := K) rfl (pv 0) rfl)), body_sim h ?_⟩)
  rintro ts μ Φ xw hl ⟨L, l, rfl, rfl, ok, q⟩
  walk_at "st0"
  unfold rndT
  walk_at "rd"
  exact q
theorem ok_Round_total (T : Txt mg K w.params) : FnOk P w K mg base CX0 1 T.f_Round_total T.fd_Round_total ["self"] (liftSp K 1 (dOne (fun _ l => .int (tot l)) T.C_Round)) := by
  refine FunD.ok0 T.F_Round_total sc_Round_total lift_len (fun cdv A outer s H vs Q E hr h => ⟨_, pss_one (ps_ret (fldK (K := K) rfl (pv 0) rfl)), body_sim h ?_⟩)
  rintro ts μ Φ xw hl ⟨L, l, rfl, rfl, ok, q⟩
  walk_at "st0"
  unfold rndT
  walk_at "rd"
  exact q
theorem ok_Round_keeps_up (T : Txt mg K w.params) : FnOk P w K mg base CX0 1 T.f_Round_keeps_up T.fd_Round_keeps_up ["self"] (liftSp K 1 (dOne (fun L l => .bl (decide (tot l ≤ L))) T.C_Round)) := by
  refine FunD.ok0 T.F_Round_keeps_up sc_Round_keeps_up lift_len (fun cdv A outer s H vs Q E hr h => ⟨_, pss_one (ps_ret (pe_cmpR op_le (fldK (K := K) rfl (pv 0) rfl) (fldK (K := K) rfl (pv 0) rfl) (by first | rfl | exact nomark _))), body_sim h ?_⟩)
  rintro ts μ Φ xw hl ⟨L, l, rfl, rfl, ok, q⟩
  walk_at "st0"
  unfold rndT
  walk_at "rd"
  exact q
theorem ok_Round_len (T : Txt mg K w.params) : FnOk P w K mg base CX0 1 T.f_Round_len T.fd_Round_len ["self"] (liftSp K 1 (dOne (fun _ l => .int l.length) T.C_Round)) := by
  refine FunD.ok0 T.F_Round_len sc_Round_len lift_len (fun cdv A outer s H vs Q E hr h => ⟨_, pss_one (ps_ret (pe_callB (lenK (K := K) rfl) (by rfl) T.n_len (by decide +kernel) (pa_cons (fldK (K := K) rfl (pv 0) rfl) pa_nil))), body_sim h ?_⟩)
  rintro ts μ Φ xw hl ⟨L, l, rfl, rfl, ok, q⟩
  walk_at "st0"
  unfold rndT
  walk_at "rd"
  simp only [lk_calls, unp_tup]
  rw [List.length_map]
  exact q
theorem ok_Round_calls (T : Txt mg K w.params) : FnOk P w K mg base CX0 1 T.f_Round_calls T.fd_Round_calls ["self"] (liftSpL K 1 (dCalls T.C_Round)) := by
  refine FunD.ok0 T.F_Round_calls sc_Round_calls lift_lenL (fun cdv A outer s H vs Q E hr h => ⟨_, pss_one (ps_ret (Dl.pe_keep (pe_callTy (listOfK (K := K) rfl) (by rfl) T.n_list (by decide +kernel) (pa_cons (fldK (K := K) rfl (pv 0) rfl) pa_nil)))), body_simL h ?_⟩)
  rintro ts μ Φ xw hl ⟨L, l, rfl, rfl, ok, q⟩
  walk_at "st0"
  unfold rndT
  walk_at "rd"
  exact ⟨Nat.le_refl _, _, rfl, q⟩
theorem ok_Round_eq (T : Txt mg K w.params) : FnOk P w K mg base CX0 1 T.f_Round_eq T.fd_Round_eq ["self", "other"] (liftSp K 2 (dEqR T.C_Round)) := by
  refine FunD.ok0 T.F_Round_eq sc_Round_eq lift_len (fun cdv A outer s H vs Q E hr h => ⟨_, pss_one (ps_ret (pe_and (pe_cmpR (Dl.isTXK (K := K) rfl) (pe_callTy (Dl.typeXK (K := K) rfl) (by rfl) T.n_type (by decide +kernel) (pa_cons (pv 1) pa_nil)) (pe_glob (v := .ref T.C_Round) (by rfl) T.g_Round rfl) (by first | rfl | exact nomark _)) (pe_and (pe_cmpR op_eq (fldK (K := K) rfl (pv 0) rfl) (fldK (K := K) rfl (pv 1) rfl) (by first | rfl | exact nomark _)) (pe_one (pe_cmpR (eqDK (K := K) rfl hr.units) (fldK (K := K) rfl (pv 0) rfl) (fldK (K := K) rfl (pv 1) rfl) (by first | rfl | exact nomark _)))))), body_sim h ?_⟩)
  rintro ts μ Φ xw hl ⟨L, l, u, b, rfl, rfl, ok, hb, q⟩
  walk_at "st0"
  rcases hb with ⟨L2, l2, rfl, ok2, rfl⟩ | ⟨od, rfl⟩
  · unfold rndT
    walk_at "rd"
    unfold fTypX
    dsimp only [Dl.view, unp_obj]
    simp only [lk_len, lk_calls, unp_tup]
    refine iteT' (by simp) ?_
    by_cases e1 : L = L2
    · refine iteT' (decide_eq_true e1) ?_
      refine ⟨_, _, (calls_pdT ok).1, (calls_pdT ok2).1, (calls_pdT ok).2, (calls_pdT ok2).2, ?_⟩
      rw [eqv_callT]
      simpa [e1] using q
    · refine iteF' (decide_eq_false e1) ?_
      rw [decide_eq_false fun h => e1 h.1] at q
      exact q
  · walk_at "rd"
    refine fTypX_odd od fun n => ?_
    first | exact q | (simp only [Bool.false_eq_true, if_false]; exact q) | (trace_state; simpa using q)
end
end K

set_option maxRecDepth 100000
set_option maxHeartbeats 4000000
set_option synthInstance.maxSize 100000
set_option synthInstance.maxHeartbeats 4000000
namespace K
open PySem PySem.Spec PyProof.Rows L2 Gd
local macro_rules | `(tactic| walk_at "mulok") => `(tactic| first | exact Or.inr ⟨by decide, by decide⟩ | exact Or.inl ⟨by decide, by decide⟩ | exact Or.inr ⟨by omega, by omega⟩ | exact Or.inl ⟨by omega, by omega⟩)
local macro_rules | `(tactic| walk_at "st") => `(tactic| first
  | refine ⟨_, rfl, ?_⟩
  | refine ⟨_, _, rfl, rfl, (by walk_at "mulok"), ?_⟩
  | refine ⟨_, _, rfl, rfl, (by show (0 : Int) < _; decide), ?_⟩
  | refine ⟨_, _, rfl, rfl, ⟨by decide, by decide⟩, ?_⟩
  | refine ⟨_, _, rfl, rfl, ?_⟩)
local macro_rules | `(tactic| walk_at "st0") => `(tactic| simp only [List.map_cons, List.map_nil, List.append_nil, List.cons_append, List.nil_append, List.length_cons, List.length_nil, Nat.reduceSub, Nat.reduceAdd, Nat.sub_self, List.replicate])
local macro_rules | `(tactic| walk_at "rd") => `(tactic| dsimp only [Dl.rRaise, Dl.rEqOD, Dl.rNeOD, Dl.rInOD, Dl.inOD, Dl.rLend, Dl.rBorX, Dl.rLnO, Dl.rBoO, Dl.rStO, Dl.rFmt, Dl.rJn, Dl.rJc, Dl.rJs, Dl.dJoin, Dl.dRepL, Dl.rDispT, Dl.rBor, Dl.rMakeN, Dl.rMakeN0, Dl.rTold, Dl.rTypX, Dl.dTX, Dl.dEqTT, Dl.rDict, Dl.rPin, Dl.pinT, Dl.rWGet, Dl.rMethN, Dl.dRepS, Dl.unp_non, Dl.unp_bl, Dl.unp_int, Dl.unp_str, Dl.unp_wst, Dl.unp_ty, Dl.unp_lst, Dl.unp_tup, Dl.unp_cls, Dl.unp_obj, Dl.unp_far, Dl.unp_dct, Dl.unp_pin, Dl.rRet, Dl.rRetN, Dl.rIfS, Dl.rSeq, Dl.rNext, Dl.rDrop, Dl.rAsg, Dl.rName, Dl.rPar, Dl.rPar3, Dl.rAndV, Dl.rOrV, Dl.rNotV, Dl.dIsi, Dl.dDivmod, Dl.mput, Dl.rUn, Dl.rGset, Dl.rFrz, Dl.rAnd, Dl.rOr, Dl.rNot, Dl.rTest, Dl.rTru, Dl.rIf, Dl.rOp, Dl.rOpL, Dl.rCB, Dl.rCBL, Dl.rCons, Dl.rNil, Dl.rVar, Dl.rC, Dl.rStr, Dl.d1, Dl.fTyp, Dl.fLenS, Dl.fLenQ, Dl.fAll, Dl.fSum, Dl.fRepr, Dl.fTupOf, Dl.dTy, Dl.nb, Dl.dInT, Dl.dIn, Dl.dN, Dl.dEq, Dl.dEqD, Dl.dI0, Dl.dIC, Dl.dCat, Dl.dCatL, Dl.dCatS, Dl.dCatT, Dl.dIxL, Dl.dIxT, Dl.dIxS, Dl.rChain, Dl.rChain3, Dl.rTup, Dl.rLst, Dl.rFroz, Dl.rKeep, Dl.rFld, Dl.rBM, Dl.dAppend, Dl.dReverse, Dl.dClear, Dl.dExtend, Dl.rCK, Dl.fMinD, Dl.rCall, Dl.rCall0, Dl.rMeth, Dl.rMeth0, Dl.rMethN0, Dl.rMake, Dl.rMake0, Dl.rSetF, Dl.rGtup, Dl.rGlst, Dl.dIsB, Dl.rGcons, Dl.rGnil, Dl.rIlst, Dl.rItup, Dl.rIenum, Dl.rIenumT, Dl.rIzip, Dl.rIzip3, Dl.rSlcL, Dl.rSlcT, Dl.rSlcS, Dl.rNoPart, Dl.rPart, Dl.dSS, Dl.dII, Dl.dListOf, Dl.dSortI, Dl.rtD, Dl.rtL, List.map_cons, List.map_nil, List.length_cons, List.length_nil, List.cons_append, List.nil_append, List.append_nil, List.replicate, Nat.reduceSub, Nat.reduceAdd, Nat.sub_self, Nat.sub_zero, List.getElem?_cons_zero, List.getElem?_cons_succ, List.set_cons_zero, List.set_cons_succ, List.take_succ_cons, List.take_zero, List.take_nil, Dl.view, Dl.T.tyn, Dl.T.tyx, Dl.T.isN, Dl.T.sc, Dl.T.flat, Dl.flats])
local macro_rules | `(tactic| walk_at "rs") => `(tactic| dsimp only [Dl.rRaise, Dl.rEqOD, Dl.rNeOD, Dl.rInOD, Dl.inOD, Dl.rLend, Dl.rBorX, Dl.rLnO, Dl.rBoO, Dl.rStO, Dl.rFmt, Dl.rJn, Dl.rJc, Dl.rJs, Dl.dJoin, Dl.dRepL, Dl.rDispT, Dl.rBor, Dl.rMakeN, Dl.rMakeN0, Dl.rTold, Dl.rTypX, Dl.dTX, Dl.dEqTT, Dl.rDict, Dl.rPin, Dl.pinT, Dl.rWGet, Dl.rMethN, Dl.dRepS, Dl.unp_non, Dl.unp_bl, Dl.unp_int, Dl.unp_str, Dl.unp_wst, Dl.unp_ty, Dl.unp_lst, Dl.unp_tup, Dl.unp_cls, Dl.unp_obj, Dl.unp_far, Dl.unp_dct, Dl.unp_pin, Dl.rRet, Dl.rRetN, Dl.rIfS, Dl.rNext, Dl.rDrop, Dl.rAsg, Dl.rName, Dl.rPar, Dl.rPar3, Dl.rAndV, Dl.rOrV, Dl.rNotV, Dl.dIsi, Dl.dDivmod, Dl.mput, Dl.rUn, Dl.rGset, Dl.rFrz, Dl.rAnd, Dl.rOr, Dl.rNot, Dl.rTest, Dl.rTru, Dl.rIf, Dl.rOp, Dl.rOpL, Dl.rCB, Dl.rCBL, Dl.rCons, Dl.rNil, Dl.rVar, Dl.rC, Dl.rStr, Dl.d1, Dl.fTyp, Dl.fLenS, Dl.fLenQ, Dl.fAll, Dl.fSum, Dl.fRepr, Dl.fTupOf, Dl.dTy, Dl.nb, Dl.dInT, Dl.dIn, Dl.dN, Dl.dEq, Dl.dEqD, Dl.dI0, Dl.dIC, Dl.dCat, Dl.dCatL, Dl.dCatS, Dl.dCatT, Dl.dIxL, Dl.dIxT, Dl.dIxS, Dl.rChain, Dl.rChain3, Dl.rTup, Dl.rLst, Dl.rFroz, Dl.rKeep, Dl.rFld, Dl.rBM, Dl.dAppend, Dl.dReverse, Dl.dClear, Dl.dExtend, Dl.rCK, Dl.fMinD, Dl.rCall, Dl.rCall0, Dl.rMeth, Dl.rMeth0, Dl.rMethN0, Dl.rMake, Dl.rMake0, Dl.rSetF, Dl.rGtup, Dl.rGlst, Dl.dIsB, Dl.rGcons, Dl.rGnil, Dl.rIlst, Dl.rItup, Dl.rIenum, Dl.rIenumT, Dl.rIzip, Dl.rIzip3, Dl.rSlcL, Dl.rSlcT, Dl.rSlcS, Dl.rNoPart, Dl.rPart, Dl.dSS, Dl.dII, Dl.dListOf, Dl.dSortI, Dl.rtD, Dl.rtL, List.map_cons, List.map_nil, List.length_cons, List.length_nil, List.cons_append, List.nil_append, List.append_nil, List.replicate, Nat.reduceSub, Nat.reduceAdd, Nat.sub_self, Nat.sub_zero, List.getElem?_cons_zero, List.getElem?_cons_succ, List.set_cons_zero, List.set_cons_succ, List.take_succ_cons, List.take_zero, List.take_nil, Dl.view, Dl.T.tyn, Dl.T.tyx, Dl.T.isN, Dl.T.sc, Dl.T.flat, Dl.flats])
open Dl Rm
abbrev nxt : PySem.Str := "next"
def lets : PySem.Str := "abcdefghijklmnopqrstuvwxyz"
/-- all names of a list are ones -/
def dCalled : DSpec := fun ts μ Φ _ => ∃ (n : Nat) (many : Nat), ts = [.rs 0, .int many] ∧ μ = [.drw nxt (n + 3 + many * 8)] ∧ many ≤ 6 ∧ ∀ (zs : List PySem.Str) (m : Nat), zs.length = many → (∀ z ∈ zs, nmS z = true) → (∀ z ∈ zs.take 4, zs[4]? ≠ some z) → n ≤ m → Φ (.lst (zs.map .str)) [.drw nxt m]
def low (z : PySem.Str) : Prop := z.cps.toList.all lowS = true
theorem low_add {z y : PySem.Str} (h : low z) (k : low y) : low (z ++ y) := by
  have e : (z ++ y).cps.toList = z.cps.toList ++ y.cps.toList := Array.toList_append
  unfold low at *
  rw [e, List.all_append, h, k]
  rfl
theorem slen_add (z y : PySem.Str) : (z ++ y).length = z.length + y.length := by
  have e : (z ++ y).cps.toList = z.cps.toList ++ y.cps.toList := Array.toList_append
  rw [len_tl, len_tl, len_tl, e, List.length_append]
theorem low_one {c : Nat} (h : lowS c = true) : low ⟨#[c]⟩ := by
  unfold low
  simp [h]
theorem nm_of {z : PySem.Str} (h : low z) (a : 1 ≤ z.length) (b : z.length ≤ 8) (c : decide (z ∈ noNames) = false) : nmS z = true := by
  unfold low at h
  unfold nmS
  rw [decide_eq_true a, decide_eq_true b, h, c]
  rfl
theorem nm_low {z : PySem.Str} (h : nmS z = true) : low z ∧ 1 ≤ z.length ∧ z.length ≤ 8 := by
  unfold nmS at h
  simp only [Bool.and_eq_true, decide_eq_true_eq] at h
  exact ⟨h.2.1, h.1.1, h.1.2⟩
theorem q_left : ∀ z ∈ noNames, nmS (Str.ofString "q" ++ z) = true ∧ (Str.ofString "q" ++ z).length ≤ 7 := by decide +kernel
theorem q_right : ∀ z ∈ noNames, nmS (z ++ Str.ofString "q") = true ∧ (z ++ Str.ofString "q").length ≤ 7 := by decide +kernel
theorem lets_at {i : Int} (h : 0 ≤ i) (k : i < 26) : ∃ c, lowS c = true ∧ atI lets.cps.toList i = some c := by
  have e : lets.cps.toList.length = 26 := by decide +kernel
  obtain ⟨c, hc, _, a⟩ := at_in (l := lets.cps.toList) (i := i) h (by omega)
  have all : lets.cps.toList.all lowS = true := by decide +kernel
  exact ⟨c, List.all_eq_true.mp all c hc, a⟩
/-- the letter by which a name is told from the others -/
def klt (b : Bool) (z : PySem.Str) : Option Nat := if b = true then z.cps.toList.getLast? else z.cps.toList.head?
def ltr (v1 st : Int) (i : Nat) : Option Nat := atI lets.cps.toList ((v1 + st * i) % 26)
def KeyL (b : Bool) (v1 st : Int) (j : Nat) (z : PySem.Str) : Prop := ∃ i : Nat, (i = j ∨ (i + 1 = j ∧ j % 2 = 1)) ∧ klt b z = ltr v1 st i
theorem cps_add (z y : PySem.Str) : (z ++ y).cps.toList = z.cps.toList ++ y.cps.toList := Array.toList_append
theorem klt_last (z : PySem.Str) (c : Nat) : klt true (z ++ ⟨#[c]⟩) = some c := by
  unfold klt
  rw [if_pos rfl, cps_add]
  simp
theorem klt_first (z : PySem.Str) (c : Nat) : klt false (⟨#[c]⟩ ++ z) = some c := by
  unfold klt
  rw [if_neg (by decide), cps_add]
  rfl
theorem tl_ne {z : PySem.Str} (h : 1 ≤ z.length) : z.cps.toList ≠ [] := fun e => by
  rw [len_tl, e] at h
  exact absurd h (by decide)
theorem klt_r {z : PySem.Str} (h : 1 ≤ z.length) (y : PySem.Str) : klt false (z ++ y) = klt false z := by
  unfold klt
  rw [if_neg (by decide), if_neg (by decide), cps_add, List.head?_append]
  cases e : z.cps.toList with
  | nil => exact absurd e (tl_ne h)
  | cons a r => rfl
theorem klt_l {z : PySem.Str} (h : 1 ≤ z.length) (y : PySem.Str) : klt true (y ++ z) = klt true z := by
  unfold klt
  rw [if_pos rfl, if_pos rfl, cps_add, List.getLast?_append]
  cases e : z.cps.toList with
  | nil => exact absurd e (tl_ne h)
  | cons a r =>
    rw [List.getLast?_cons]
    rfl
theorem lets_inj : ∀ a b : Fin 26, lets.cps.toList[a.val]? = lets.cps.toList[b.val]? → a = b := by decide +kernel
def strides : List Int := [1, 3, 5, 7, 9, 11, 15, 17, 19, 21, 23, 25]
theorem atI_nn {l : List Nat} {i : Int} (h : 0 ≤ i) (k : i < l.length) : atI l i = l[i.toNat]? := by
  unfold atI
  rw [ixN_in h (by omega)]
  rfl
theorem ltr_ne {v1 st : Int} (hs : st ∈ strides) {i : Nat} (hi : i < 4) : ltr v1 st 4 ≠ ltr v1 st i := by
  intro e
  have ll : lets.cps.toList.length = 26 := by decide +kernel
  unfold ltr at e
  have b1 := Int.emod_nonneg (v1 + st * (4 : Nat)) (show (26 : Int) ≠ 0 by decide)
  have b2 := Int.emod_lt_of_pos (v1 + st * (4 : Nat)) (show (0 : Int) < 26 by decide)
  have b3 := Int.emod_nonneg (v1 + st * (i : Nat)) (show (26 : Int) ≠ 0 by decide)
  have b4 := Int.emod_lt_of_pos (v1 + st * (i : Nat)) (show (0 : Int) < 26 by decide)
  rw [atI_nn b1 (by omega), atI_nn b3 (by omega)] at e
  have z := lets_inj ⟨((v1 + st * (4 : Nat)) % 26).toNat, by omega⟩ ⟨((v1 + st * (i : Nat)) % 26).toNat, by omega⟩ e
  have z := congrArg Fin.val z
  have z : ((v1 + st * (4 : Nat)) % 26).toNat = ((v1 + st * (i : Nat)) % 26).toNat := z
  have e2 : (v1 + st * (4 : Nat)) % 26 = (v1 + st * (i : Nat)) % 26 := by omega
  simp only [strides, List.mem_cons, List.not_mem_nil, or_false] at hs
  have hi : i = 0 ∨ i = 1 ∨ i = 2 ∨ i = 3 := by omega
  rcases hs with rfl | rfl | rfl | rfl | rfl | rfl | rfl | rfl | rfl | rfl | rfl | rfl <;> rcases hi with rfl | rfl | rfl | rfl <;> omega
theorem key_ne {b : Bool} {v1 st : Int} (hs : st ∈ strides) {zs : List PySem.Str} (h : ∀ (j : Nat) (z : PySem.Str), zs[j]? = some z → KeyL b v1 st j z) : ∀ z ∈ zs.take 4, zs[4]? ≠ some z := by
  intro z hz e
  obtain ⟨j, hj, ej⟩ := List.getElem_of_mem hz
  have e1 : (zs.take 4)[j]? = some z := by rw [List.getElem?_eq_getElem hj, ej]
  have j4 : j < 4 := by
    rw [List.length_take] at hj
    omega
  rw [List.getElem?_take_of_lt j4] at e1
  obtain ⟨i, hi, k1⟩ := h j z e1
  obtain ⟨i2, hi2, k2⟩ := h 4 z e
  have : i2 = 4 := by omega
  subst this
  rw [k1] at k2
  exact ltr_ne hs (show i < 4 by omega) k2.symm
section
variable {P : Program} {w : World} {K : PySem.W.Frag} {mg : PySem.Str → Option Value} {base : Heap}
theorem ok_law_called (T : Txt mg K w.params) : FnOk P w K mg base CX0 3 T.f_law_called T.fd_law_called ["m", "many"] (liftSp K 2 dCalled) := by
  refine FunD.ok0 T.F_law_called sc_law_called lift_len (fun cdv A outer s H vs Q E hr h => ⟨_, pss_cons (ps_par3 (i := 2) (j := 3) (l := 4) (by rfl) sc_law_called.nd rfl rfl rfl (by decide) (by decide) (by decide) rfl rfl rfl (pa_cons (pe_str) (pa_cons (Dl.pe_keep (pe_lst (pa_nil))) (pa_cons (pe_cmpR op_eq (pe_callX (ok_law_draw T) (hr.mono (by decide)) (by rfl) T.g_law_draw T.F_law_draw.kp (b_law_draw_2 T) pass0 (pa_cons (pv 0) (pa_cons (pe_int) pa_nil))) (pe_int) (by first | rfl | exact nomark _)) pa_nil))) (by rfl))
 (pss_cons (ps_set (i := 5) sc_law_called.nd rfl (.inl rfl) (pe_callX (ok_law_draw T) (hr.mono (by decide)) (by rfl) T.g_law_draw T.F_law_draw.kp (b_law_draw_2 T) pass0 (pa_cons (pv 0) (pa_cons (pe_int) pa_nil))))
 (pss_cons (ps_set (i := 6) sc_law_called.nd rfl (.inl rfl) (pe_ix (ixlK (K := K) rfl) (pe_lst (pa_cons (pe_int) (pa_cons (pe_int) (pa_cons (pe_int) (pa_cons (pe_int) (pa_cons (pe_int) (pa_cons (pe_int) (pa_cons (pe_int) (pa_cons (pe_int) (pa_cons (pe_int) (pa_cons (pe_int) (pa_cons (pe_int) (pa_cons (pe_int) pa_nil))))))))))))) (pe_callX (ok_law_draw T) (hr.mono (by decide)) (by rfl) T.g_law_draw T.F_law_draw.kp (b_law_draw_2 T) pass0 (pa_cons (pv 0) (pa_cons (pe_int) pa_nil))) (fun _ _ => rfl)))
 (pss_cons (ps_for PassesOwn.never rfl (pi_range1 (by rfl) T.n_range (pa_cons (pv 1) pa_nil)) (pg_name (i := 7) sc_law_called.nd rfl (.inl rfl)) (pss_cons (ps_par (i := 8) (j := 9) (by rfl) sc_law_called.nd rfl rfl (by decide) rfl rfl (pa_cons (pe_ix ix_str (pv 2) (pe_op op_mod (pe_op op_add (pv 5) (pe_op op_mul (pv 6) (pv 7))) (pe_int)) (fun _ _ => rfl)) (pa_cons (pe_str) pa_nil)) (by rfl))
 (pss_cons (ps_for PassesOwn.never rfl (pi_range1 (by rfl) T.n_range (pa_cons (pe_callX (ok_law_draw T) (hr.mono (by decide)) (by rfl) T.g_law_draw T.F_law_draw.kp (b_law_draw_2 T) pass0 (pa_cons (pv 0) (pa_cons (pe_int) pa_nil))) pa_nil)) (pg_name (i := 10) sc_law_called.nd rfl (.inl rfl)) (pss_one (ps_set (i := 9) sc_law_called.nd rfl (.inl rfl) (pe_op op_add_str (pv 9) (pe_ix ix_str (pv 2) (pe_callX (ok_law_draw T) (hr.mono (by decide)) (by rfl) T.g_law_draw T.F_law_draw.kp (b_law_draw_2 T) pass0 (pa_cons (pv 0) (pa_cons (pe_int) pa_nil))) (fun _ _ => rfl))))))
 (pss_cons (ps_set (i := 9) sc_law_called.nd rfl (.inl rfl) (pe_ifExp (pt_val (pv 4)) (pe_op op_add_str (pv 9) (pv 8)) (pe_op op_add_str (pv 8) (pv 9))))
 (pss_cons (ps_if (PW.pt (pw_and (pt_cmpR op_eq (pe_op op_mod (pv 7) (pe_int)) (pe_int) (by first | rfl | exact nomark _)) (pw_and1 (pt_cmpR op_eq (pe_callX (ok_law_draw T) (hr.mono (by decide)) (by rfl) T.g_law_draw T.F_law_draw.kp (b_law_draw_2 T) pass0 (pa_cons (pv 0) (pa_cons (pe_int) pa_nil))) (pe_int) (by first | rfl | exact nomark _))))) (pss_one (ps_set (i := 9) sc_law_called.nd rfl (.inl rfl) (pe_op op_add_str (pe_ix (ixlK (K := K) rfl) (pv 3) (pe_un un_neg (pe_int)) (fun _ _ => rfl)) (pv 8)))) (pss_nil))
 (pss_cons (ps_if (pt_cmpR (inK (K := K) rfl) (pv 9) (pe_tup (pa_cons (pe_str) (pa_cons (pe_str) (pa_cons (pe_str) (pa_cons (pe_str) (pa_cons (pe_str) (pa_cons (pe_str) (pa_cons (pe_str) (pa_cons (pe_str) (pa_cons (pe_str) (pa_cons (pe_str) pa_nil))))))))))) (by first | rfl | exact nomark _)) (pss_one (ps_set (i := 9) sc_law_called.nd rfl (.inl rfl) (pe_ifExp (pt_val (pv 4)) (pe_op op_add_str (pe_str) (pv 9)) (pe_op op_add_str (pv 9) (pe_str))))) (pss_nil))
 (pss_one (ps_expr (bmK (K := K) rfl PySem.F.plainAttrs_list PySem.F.slot_list_append PySem.F.type_list_append mt_append (pv 3) (pa_cons (pv 9) pa_nil))))))))))
 (pss_one (ps_ret (pv 3)))))), body_sim h ?_⟩)
  rintro ts μ Φ xw hl ⟨n, many, rfl, rfl, m6, q⟩
  walk_at "st0"
  walk_at "rd"
  refine ⟨by decide +kernel, rfl, by decide, rfl, drawR rfl (by omega) (by decide) (by decide) fun v0 v00 v01 => ?_⟩
  walk_at "rd"
  refine ⟨rfl, drawR rfl (by omega) (by decide) (by decide) fun v1 v10 v11 => ?_⟩
  walk_at "rd"
  refine ⟨rfl, by decide, rfl, drawR rfl (by omega) (by decide) (by decide) fun v2 v20 v21 => ?_⟩
  walk_at "rd"
  obtain ⟨st, hst, ⟨st0, st1⟩, es⟩ : ∃ st : Int, st ∈ strides ∧ (0 ≤ st ∧ st ≤ 25) ∧ atI [Dl.T.int 1, Dl.T.int 3, Dl.T.int 5, Dl.T.int 7, Dl.T.int 9, Dl.T.int 11, Dl.T.int 15, Dl.T.int 17, Dl.T.int 19, Dl.T.int 21, Dl.T.int 23, Dl.T.int 25] v2 = some (.int st) := by
    obtain ⟨c, hc, a⟩ := at_intT (cs := [1, 3, 5, 7, 9, 11, 15, 17, 19, 21, 23, 25]) v20 v21
    exact ⟨c, hc, (show ∀ c ∈ [1, 3, 5, 7, 9, 11, 15, 17, 19, 21, 23, 25], (0 : Int) ≤ c ∧ c ≤ 25 from by decide) c hc, a⟩
  refine ⟨_, _, rfl, es, ?_⟩
  refine ⟨by omega, by omega, fun i ρ μ => ∃ (zs : List PySem.Str) (k : Nat) (a b c d : Option Dl.T), ρ = [some (.rs 0), some (.int many), some (.str lets), some (.rs 1), some (.bl (decide (v0 = 1))), some (.int v1), some (.int st), a, b, c, d] ∧ μ = [.drw nxt k, .lst (zs.map .str)] ∧ zs.length = i ∧ (∀ z ∈ zs, nmS z = true) ∧ (∀ z, i % 2 = 1 → zs[i - 1]? = some z → z.length ≤ 7) ∧ n + (many - i) * 8 ≤ k ∧ (∀ (j : Nat) (z : PySem.Str), zs[j]? = some z → KeyL (decide (v0 = 1)) v1 st j z), ?_, ?_, ?_⟩
  · exact ⟨[], _, none, none, none, none, rfl, rfl, rfl, by simp, by simp, by omega, fun j z e => by simp at e⟩
  · rintro i t ρ μ et ⟨zs, k, a, b, c, d, rfl, rfl, zl, zn, z7, kb, ky⟩
    obtain ⟨im, rfl⟩ := range_at et
    rw [Int.toNat_natCast] at im
    walk_at "rs"
    refine rSeq_go ?_
    walk_at "rs"
    obtain ⟨cs, lcs, ecs⟩ := lets_at (i := (v1 + st * i) % 26) (Int.emod_nonneg _ (by decide)) (Int.emod_lt_of_pos _ (by decide))
    refine ⟨.inr ⟨by omega, by omega⟩, by decide, by decide +kernel, cs, ecs, by decide +kernel, ?_⟩
    refine rSeq_go ?_
    walk_at "rs"
    refine ⟨rfl, drawR rfl (by omega) (by decide) (by decide) fun v3 v30 v31 => ?_⟩
    walk_at "rs"
    refine ⟨by omega, by omega, fun e ρ μ => ∃ (said : PySem.Str) (k' : Nat) (x : Option Dl.T), ρ = [some (.rs 0), some (.int many), some (.str lets), some (.rs 1), some (.bl (decide (v0 = 1))), some (.int v1), some (.int st), some (.int i), some (.str ⟨#[cs]⟩), some (.str said), x] ∧ μ = [.drw nxt k', .lst (zs.map .str)] ∧ low said ∧ said.length = e ∧ k ≤ k' + 1 + e, ⟨_, _, d, rfl, rfl, rfl, by decide +kernel, by omega⟩, ?_, ?_⟩
    · rintro e t ρ μ et ⟨said, k', x, rfl, rfl, lo, le, kb'⟩
      obtain ⟨ev, rfl⟩ := range_at et
      walk_at "rs"
      refine ⟨rfl, drawR rfl (by omega) (by decide) (by decide) fun v4 v40 v41 => ?_⟩
      walk_at "rs"
      obtain ⟨c4, l4, e4⟩ := lets_at v40 v41
      refine ⟨by decide +kernel, c4, e4, ?_, said ++ ⟨#[c4]⟩, _, some (.int e), rfl, rfl, low_add lo (low_one l4), ?_, by omega⟩
      · show said.length + 1 ≤ 1000000
        omega
      · rw [slen_add, le]
        rfl
    · rintro ρ μ ⟨said, k', x, rfl, rfl, lo, le, kb'⟩
      rw [List.length_map, List.length_range] at le kb'
      have c1 : (⟨#[cs]⟩ : PySem.Str).length = 1 := rfl
      refine rSeq_cut (fun ρ μ => ∃ s2 : PySem.Str, ρ = [some (.rs 0), some (.int many), some (.str lets), some (.rs 1), some (.bl (decide (v0 = 1))), some (.int v1), some (.int st), some (.int i), some (.str ⟨#[cs]⟩), some (.str s2), x] ∧ μ = [.drw nxt k', .lst (zs.map .str)] ∧ low s2 ∧ 1 ≤ s2.length ∧ s2.length ≤ 7 ∧ klt (decide (v0 = 1)) s2 = some cs) (fun N hN => ?_) ?_
      · walk_at "rs"
        by_cases h0 : v0 = 1
        · rw [if_pos (decide_eq_true h0)]
          exact ⟨by omega, hN _ _ ⟨_, rfl, rfl, low_add lo (low_one lcs), by rw [slen_add]; omega, by rw [slen_add]; omega, by rw [decide_eq_true h0]; exact klt_last _ _⟩⟩
        · rw [if_neg (by simp [h0])]
          exact ⟨by omega, hN _ _ ⟨_, rfl, rfl, low_add (low_one lcs) lo, by rw [slen_add]; omega, by rw [slen_add]; omega, by rw [decide_eq_false h0]; exact klt_first _ _⟩⟩
      rintro ρ μ ⟨s2, rfl, rfl, lo2, a2, b2, ks2⟩
      have key2 : KeyL (decide (v0 = 1)) v1 st i s2 := ⟨i, .inl rfl, ks2.trans ecs.symm⟩
      refine rSeq_cut (fun ρ μ => ∃ (s3 : PySem.Str) (k3 : Nat), ρ = [some (.rs 0), some (.int many), some (.str lets), some (.rs 1), some (.bl (decide (v0 = 1))), some (.int v1), some (.int st), some (.int i), some (.str ⟨#[cs]⟩), some (.str s3), x] ∧ μ = [.drw nxt k3, .lst (zs.map .str)] ∧ low s3 ∧ 1 ≤ s3.length ∧ s3.length ≤ 8 ∧ (i % 2 = 0 → s3.length ≤ 7) ∧ k' ≤ k3 + 1 ∧ KeyL (decide (v0 = 1)) v1 st i s3) (fun N hN => ?_) ?_
      · walk_at "rs"
        refine ⟨by decide, ?_⟩
        by_cases od : i % 2 = 1
        · refine iteT' (by simp; omega) ⟨rfl, drawR rfl (by omega) (by decide) (by decide) fun v5 v50 v51 => ?_⟩
          walk_at "rs"
          by_cases h5 : v5 = 0
          · obtain ⟨y, hy⟩ : ∃ y, zs[i - 1]? = some y := ⟨_, List.getElem?_eq_getElem (by omega)⟩
            have y7 := z7 y od hy
            obtain ⟨yl, ya, yb⟩ := nm_low (zn y (List.mem_of_getElem? hy))
            refine iteT' (by simp [h5]) ⟨_, .str y, rfl, ?_, by omega, hN _ _ ⟨_, _, rfl, rfl, low_add yl (low_one lcs), by rw [slen_add]; omega, by rw [slen_add]; omega, fun h => by omega, by omega, ?_⟩⟩
            rotate_left
            · by_cases h0 : v0 = 1
              · refine ⟨i, .inl rfl, ?_⟩
                rw [decide_eq_true h0, klt_last]
                exact ecs.symm
              · obtain ⟨i2, hi2, k2⟩ := ky _ y hy
                refine ⟨i2, .inr (by omega), ?_⟩
                rw [decide_eq_false h0] at k2 ⊢
                rw [klt_r ya]
                exact k2
            exact atI_last (by rw [List.getElem?_map, List.length_map, zl, hy]; rfl)
          · exact iteF' (by simp [h5]) (hN _ _ ⟨_, _, rfl, rfl, lo2, a2, by omega, fun _ => b2, by omega, key2⟩)
        · exact iteF' (by simp; omega) (hN _ _ ⟨_, _, rfl, rfl, lo2, a2, by omega, fun _ => b2, by omega, key2⟩)
      rintro ρ μ ⟨s3, k3, rfl, rfl, lo3, a3, b3, p3, kb3, key3⟩
      refine rSeq_cut (fun ρ μ => ∃ (s4 : PySem.Str), ρ = [some (.rs 0), some (.int many), some (.str lets), some (.rs 1), some (.bl (decide (v0 = 1))), some (.int v1), some (.int st), some (.int i), some (.str ⟨#[cs]⟩), some (.str s4), x] ∧ μ = [.drw nxt k3, .lst (zs.map .str)] ∧ nmS s4 = true ∧ (i % 2 = 0 → s4.length ≤ 7) ∧ KeyL (decide (v0 = 1)) v1 st i s4) (fun N hN => ?_) ?_
      · walk_at "rs"
        refine ⟨by decide +kernel, by decide +kernel, by decide +kernel, by decide +kernel, by decide +kernel, by decide +kernel, by decide +kernel, by decide +kernel, by decide +kernel, by decide +kernel, rfl, by decide, _, _, noNames.map V.str, rfl, rfl, rfl, ?_⟩
        refine iteE (inV_str s3 noNames) ?_
        by_cases hm : s3 ∈ noNames
        · rw [if_pos (decide_eq_true hm)]
          have ql := q_left s3 hm
          have qr := q_right s3 hm
          by_cases h0 : v0 = 1
          · rw [if_pos (decide_eq_true h0)]
            exact ⟨by decide +kernel, by show 1 + s3.length ≤ 1000000; omega, hN _ _ ⟨_, rfl, rfl, ql.1, fun _ => ql.2, by
              obtain ⟨i2, hi2, k2⟩ := key3
              refine ⟨i2, hi2, ?_⟩
              rw [decide_eq_true h0] at k2 ⊢
              rw [klt_l a3]
              exact k2⟩⟩
          · rw [if_neg (by simp [h0])]
            exact ⟨by decide +kernel, by show s3.length + 1 ≤ 1000000; omega, hN _ _ ⟨_, rfl, rfl, qr.1, fun _ => qr.2, by
              obtain ⟨i2, hi2, k2⟩ := key3
              refine ⟨i2, hi2, ?_⟩
              rw [decide_eq_false h0] at k2 ⊢
              rw [klt_r a3]
              exact k2⟩⟩
        · rw [if_neg (by simp [hm])]
          exact hN _ _ ⟨_, rfl, rfl, nm_of lo3 a3 b3 (by simp [hm]), p3, key3⟩
      rintro ρ μ ⟨s4, rfl, rfl, n4, p4, key4⟩
      walk_at "rs"
      refine ⟨rfl, _, rfl, rfl, by rw [List.length_map]; omega, zs ++ [s4], k3, _, _, _, _, rfl, by rw [List.map_append]; rfl, by rw [List.length_append, zl]; rfl, ?_, ?_, by omega, ?_⟩
      · intro z hz
        rcases List.mem_append.mp hz with hz | hz
        · exact zn z hz
        · rw [List.mem_singleton.mp hz]
          exact n4
      · intro z od ez
        rw [Nat.add_sub_cancel, ← zl, List.getElem?_concat_length] at ez
        cases ez
        exact p4 (by omega)
      · intro j z ez
        by_cases hj : j < zs.length
        · rw [List.getElem?_append_left hj] at ez
          exact ky j z ez
        · have hj2 : j = zs.length := by
            have := (List.getElem?_eq_some_iff.mp ez).1
            rw [List.length_append] at this
            simp at this
            omega
          subst hj2
          rw [List.getElem?_concat_length] at ez
          cases ez
          rw [zl]
          exact key4
  · rintro ρ μ ⟨zs, k, a, b, c, d, rfl, rfl, zl, zn, z7, kb, ky⟩
    refine ⟨Nat.le_refl _, _, rfl, ?_⟩
    exact q zs k (by rw [zl, List.length_map, List.length_range, Int.toNat_natCast]) zn (key_ne hst ky) (by omega)
end
end K

set_option maxRecDepth 100000
set_option maxHeartbeats 4000000
set_option synthInstance.maxSize 100000
set_option synthInstance.maxHeartbeats 4000000
namespace K
open PySem PySem.Spec PyProof.Rows L2 Gd
local macro_rules | `(tactic| walk_at "mulok") => `(tactic| first | exact Or.inr ⟨by decide, by decide⟩ | exact Or.inl ⟨by decide, by decide⟩ | exact Or.inr ⟨by omega, by omega⟩ | exact Or.inl ⟨by omega, by omega⟩)
local macro_rules | `(tactic| walk_at "st") => `(tactic| first
  | refine ⟨_, rfl, ?_⟩
  | refine ⟨_, _, rfl, rfl, (by walk_at "mulok"), ?_⟩
  | refine ⟨_, _, rfl, rfl, (by show (0 : Int) < _; decide), ?_⟩
  | refine ⟨_, _, rfl, rfl, ⟨by decide, by decide⟩, ?_⟩
  | refine ⟨_, _, rfl, rfl, ?_⟩)
local macro_rules | `(tactic| walk_at "st0") => `(tactic| simp only [List.map_cons, List.map_nil, List.append_nil, List.cons_append, List.nil_append, List.length_cons, List.length_nil, Nat.reduceSub, Nat.reduceAdd, Nat.sub_self, List.replicate])
local macro_rules | `(tactic| walk_at "rd") => `(tactic| dsimp only [Dl.rRaise, Dl.rEqOD, Dl.rNeOD, Dl.rInOD, Dl.inOD, Dl.rLend, Dl.rBorX, Dl.rLnO, Dl.rBoO, Dl.rStO, Dl.rFmt, Dl.rJn, Dl.rJc, Dl.rJs, Dl.dJoin, Dl.dRepL, Dl.rDispT, Dl.rBor, Dl.rMakeN, Dl.rMakeN0, Dl.rTold, Dl.rTypX, Dl.dTX, Dl.dEqTT, Dl.rDict, Dl.rPin, Dl.pinT, Dl.rWGet, Dl.rMethN, Dl.dRepS, Dl.unp_non, Dl.unp_bl, Dl.unp_int, Dl.unp_str, Dl.unp_wst, Dl.unp_ty, Dl.unp_lst, Dl.unp_tup, Dl.unp_cls, Dl.unp_obj, Dl.unp_far, Dl.unp_dct, Dl.unp_pin, Dl.rRet, Dl.rRetN, Dl.rIfS, Dl.rSeq, Dl.rNext, Dl.rDrop, Dl.rAsg, Dl.rName, Dl.rPar, Dl.rPar3, Dl.rAndV, Dl.rOrV, Dl.rNotV, Dl.dIsi, Dl.dDivmod, Dl.mput, Dl.rUn, Dl.rGset, Dl.rFrz, Dl.rAnd, Dl.rOr, Dl.rNot, Dl.rTest, Dl.rTru, Dl.rIf, Dl.rOp, Dl.rOpL, Dl.rCB, Dl.rCBL, Dl.rCons, Dl.rNil, Dl.rVar, Dl.rC, Dl.rStr, Dl.d1, Dl.fTyp, Dl.fLenS, Dl.fLenQ, Dl.fAll, Dl.fSum, Dl.fRepr, Dl.fTupOf, Dl.dTy, Dl.nb, Dl.dInT, Dl.dIn, Dl.dN, Dl.dEq, Dl.dEqD, Dl.dI0, Dl.dIC, Dl.dCat, Dl.dCatL, Dl.dCatS, Dl.dCatT, Dl.dIxL, Dl.dIxT, Dl.dIxS, Dl.rChain, Dl.rChain3, Dl.rTup, Dl.rLst, Dl.rFroz, Dl.rKeep, Dl.rFld, Dl.rBM, Dl.dAppend, Dl.dReverse, Dl.dClear, Dl.dExtend, Dl.rCK, Dl.fMinD, Dl.rCall, Dl.rCall0, Dl.rMeth, Dl.rMeth0, Dl.rMethN0, Dl.rMake, Dl.rMake0, Dl.rSetF, Dl.rGtup, Dl.rGlst, Dl.dIsB, Dl.rGcons, Dl.rGnil, Dl.rIlst, Dl.rItup, Dl.rIenum, Dl.rIenumT, Dl.rIzip, Dl.rIzip3, Dl.rSlcL, Dl.rSlcT, Dl.rSlcS, Dl.rNoPart, Dl.rPart, Dl.dSS, Dl.dII, Dl.dListOf, Dl.dSortI, Dl.rtD, Dl.rtL, List.map_cons, List.map_nil, List.length_cons, List.length_nil, List.cons_append, List.nil_append, List.append_nil, List.replicate, Nat.reduceSub, Nat.reduceAdd, Nat.sub_self, Nat.sub_zero, List.getElem?_cons_zero, List.getElem?_cons_succ, List.set_cons_zero, List.set_cons_succ, List.take_succ_cons, List.take_zero, List.take_nil, Dl.view, Dl.T.tyn, Dl.T.tyx, Dl.T.isN, Dl.T.sc, Dl.T.flat, Dl.flats])
local macro_rules | `(tactic| walk_at "rs") => `(tactic| dsimp only [Dl.rRaise, Dl.rEqOD, Dl.rNeOD, Dl.rInOD, Dl.inOD, Dl.rLend, Dl.rBorX, Dl.rLnO, Dl.rBoO, Dl.rStO, Dl.rFmt, Dl.rJn, Dl.rJc, Dl.rJs, Dl.dJoin, Dl.dRepL, Dl.rDispT, Dl.rBor, Dl.rMakeN, Dl.rMakeN0, Dl.rTold, Dl.rTypX, Dl.dTX, Dl.dEqTT, Dl.rDict, Dl.rPin, Dl.pinT, Dl.rWGet, Dl.rMethN, Dl.dRepS, Dl.unp_non, Dl.unp_bl, Dl.unp_int, Dl.unp_str, Dl.unp_wst, Dl.unp_ty, Dl.unp_lst, Dl.unp_tup, Dl.unp_cls, Dl.unp_obj, Dl.unp_far, Dl.unp_dct, Dl.unp_pin, Dl.rRet, Dl.rRetN, Dl.rIfS, Dl.rNext, Dl.rDrop, Dl.rAsg, Dl.rName, Dl.rPar, Dl.rPar3, Dl.rAndV, Dl.rOrV, Dl.rNotV, Dl.dIsi, Dl.dDivmod, Dl.mput, Dl.rUn, Dl.rGset, Dl.rFrz, Dl.rAnd, Dl.rOr, Dl.rNot, Dl.rTest, Dl.rTru, Dl.rIf, Dl.rOp, Dl.rOpL, Dl.rCB, Dl.rCBL, Dl.rCons, Dl.rNil, Dl.rVar, Dl.rC, Dl.rStr, Dl.d1, Dl.fTyp, Dl.fLenS, Dl.fLenQ, Dl.fAll, Dl.fSum, Dl.fRepr, Dl.fTupOf, Dl.dTy, Dl.nb, Dl.dInT, Dl.dIn, Dl.dN, Dl.dEq, Dl.dEqD, Dl.dI0, Dl.dIC, Dl.dCat, Dl.dCatL, Dl.dCatS, Dl.dCatT, Dl.dIxL, Dl.dIxT, Dl.dIxS, Dl.rChain, Dl.rChain3, Dl.rTup, Dl.rLst, Dl.rFroz, Dl.rKeep, Dl.rFld, Dl.rBM, Dl.dAppend, Dl.dReverse, Dl.dClear, Dl.dExtend, Dl.rCK, Dl.fMinD, Dl.rCall, Dl.rCall0, Dl.rMeth, Dl.rMeth0, Dl.rMethN0, Dl.rMake, Dl.rMake0, Dl.rSetF, Dl.rGtup, Dl.rGlst, Dl.dIsB, Dl.rGcons, Dl.rGnil, Dl.rIlst, Dl.rItup, Dl.rIenum, Dl.rIenumT, Dl.rIzip, Dl.rIzip3, Dl.rSlcL, Dl.rSlcT, Dl.rSlcS, Dl.rNoPart, Dl.rPart, Dl.dSS, Dl.dII, Dl.dListOf, Dl.dSortI, Dl.rtD, Dl.rtL, List.map_cons, List.map_nil, List.length_cons, List.length_nil, List.cons_append, List.nil_append, List.append_nil, List.replicate, Nat.reduceSub, Nat.reduceAdd, Nat.sub_self, Nat.sub_zero, List.getElem?_cons_zero, List.getElem?_cons_succ, List.set_cons_zero, List.set_cons_succ, List.take_succ_cons, List.take_zero, List.take_nil, Dl.view, Dl.T.tyn, Dl.T.tyx, Dl.T.isN, Dl.T.sc, Dl.T.flat, Dl.flats])
open Dl Rm
/-- a round as the law draws it -/
def plnT (L : Int) (l : List Cal) : Dl.T := .tup [.int L, callsT l]
def dPlain : DSpec := fun ts μ Φ _ => ∃ (n : Nat) (zs : List PySem.Str) (top : Int), ts = [.rs 0, .lst (zs.map .str), .int top] ∧ μ = [.drw nxt (n + 100)] ∧ zs.length = 6 ∧ (∀ z ∈ zs, nmS z = true) ∧ 1 ≤ top ∧ top ≤ 1000 ∧ ∀ (L : Int) (l : List Cal) (m : Nat), OkC L l → (∀ c ∈ l, c.2.1 ∈ zs.take 4) → n ≤ m → Φ (plnT L l) [.drw nxt m]
section
variable {P : Program} {w : World} {K : PySem.W.Frag} {mg : PySem.Str → Option Value} {base : Heap}
theorem ok_law_plain (T : Txt mg K w.params) : FnOk P w K mg base CX0 3 T.f_law_plain T.fd_law_plain ["m", "w", "top"] (liftSp K 3 dPlain) := by
  refine FunD.ok0 T.F_law_plain sc_law_plain lift_len (fun cdv A outer s H vs Q E hr h => ⟨_, pss_cons (ps_set (i := 3) sc_law_plain.nd rfl (.inr rfl) (pe_op op_add (pe_int) (pe_callX (ok_law_draw T) (hr.mono (by decide)) (by rfl) T.g_law_draw T.F_law_draw.kp (b_law_draw_2 T) pass0 (pa_cons (pv 0) (pa_cons (pe_ix (ixlK (K := K) rfl) (pe_lst (pa_cons (pe_int) (pa_cons (pe_int) (pa_cons (pv 2) pa_nil)))) (pe_callX (ok_law_draw T) (hr.mono (by decide)) (by rfl) T.g_law_draw T.F_law_draw.kp (b_law_draw_2 T) pass0 (pa_cons (pv 0) (pa_cons (pe_int) pa_nil))) (fun _ _ => rfl)) pa_nil)))))
 (pss_cons (ps_set (i := 4) sc_law_plain.nd rfl (.inl rfl) (pe_callX (ok_law_draw T) (hr.mono (by decide)) (by rfl) T.g_law_draw T.F_law_draw.kp (b_law_draw_2 T) pass0 (pa_cons (pv 0) (pa_cons (pe_ix (ixlK (K := K) rfl) (pe_lst (pa_cons (pe_int) (pa_cons (pe_int) pa_nil))) (pe_callX (ok_law_draw T) (hr.mono (by decide)) (by rfl) T.g_law_draw T.F_law_draw.kp (b_law_draw_2 T) pass0 (pa_cons (pv 0) (pa_cons (pe_int) pa_nil))) (fun _ _ => rfl)) pa_nil))))
 (pss_cons (ps_set (i := 5) sc_law_plain.nd rfl (.inr rfl) (pe_callB (call_min2 rfl) (by rfl) T.n_min (by decide +kernel) (pa_cons (pe_int) (pa_cons (pe_ix (ixlK (K := K) rfl) (pe_lst (pa_cons (pe_int) (pa_cons (pe_op op_add (pe_int) (pe_op op_fdivN (pe_op op_mul (pe_int) (pv 3)) (pe_callB (call_max2 rfl) (by rfl) T.n_max (by decide +kernel) (pa_cons (pe_int) (pa_cons (pv 4) pa_nil))))) (pa_cons (pe_op op_add (pv 3) (pe_int)) pa_nil)))) (pe_callX (ok_law_draw T) (hr.mono (by decide)) (by rfl) T.g_law_draw T.F_law_draw.kp (b_law_draw_2 T) pass0 (pa_cons (pv 0) (pa_cons (pe_int) pa_nil))) (fun _ _ => rfl)) pa_nil))))
 (pss_cons (ps_set (i := 6) sc_law_plain.nd rfl (.inl rfl) (pe_callB (sortIK (K := K) rfl) (by rfl) T.n_sorted (by decide +kernel) (pa_cons (pe_lc (own := [("j", 9)]) (g := gName 9) (tt := tYes) (by rfl) sc_law_plain.nd (pi_range1 (by rfl) T.n_range (pa_cons (pv 4) pa_nil)) (blkOk_by (own := [("j", 9)]) (N := ["m", "w", "top", "span", "many", "high", "comes", "works", "rest", "j", "come", "work"]) (sc := defScope s_law_plain) (by decide +kernel)) (fun _ _ _ _ _ => pg_name (i := 9) sc_law_plain.nd rfl (Or.inl rfl)) (fun _ _ _ _ _ => pts_nil) (fun _ _ _ _ _ => pe_ix (ixlK (K := K) rfl) (pe_lst (pa_cons (pe_int) (pa_cons (pe_callX (ok_law_draw T) (hr.mono (by decide)) (by rfl) T.g_law_draw T.F_law_draw.kp (b_law_draw_2 T) pass0 (pa_cons (pv 0) (pa_cons (pv 3) pa_nil))) (pa_cons (pe_callX (ok_law_draw T) (hr.mono (by decide)) (by rfl) T.g_law_draw T.F_law_draw.kp (b_law_draw_2 T) pass0 (pa_cons (pv 0) (pa_cons (pe_op op_add (pe_int) (pe_op op_fdiv (pv 3) (pe_int))) pa_nil))) pa_nil)))) (pe_callX (ok_law_draw T) (hr.mono (by decide)) (by rfl) T.g_law_draw T.F_law_draw.kp (b_law_draw_2 T) pass0 (pa_cons (pv 0) (pa_cons (pe_int) pa_nil))) (fun _ _ => rfl))) pa_nil)))
 (pss_cons (Dl.ps_keepA (ps_setLc (i := 7) (own := [("j", 9)]) (g := gName 9) (tt := tYes) (by rfl) sc_law_plain.nd rfl rfl (sw_true rfl rfl rfl (by decide +kernel)) (pi_range1 (by rfl) T.n_range (pa_cons (pv 4) pa_nil)) (blkOk_by (own := [("j", 9)]) (N := ["m", "w", "top", "span", "many", "high", "comes", "works", "rest", "j", "come", "work"]) (sc := defScope s_law_plain) (by decide +kernel)) (fun _ _ _ _ _ => pg_name (i := 9) sc_law_plain.nd rfl (Or.inl rfl)) (fun _ _ _ _ _ => pts_nil) (fun _ _ _ _ _ => pe_op op_add (pe_int) (pe_callX (ok_law_draw T) (hr.mono (by decide)) (by rfl) T.g_law_draw T.F_law_draw.kp (b_law_draw_2 T) pass0 (pa_cons (pv 0) (pa_cons (pv 5) pa_nil))))))
 (pss_cons (ps_set (i := 8) sc_law_plain.nd rfl (.inl rfl) (pe_op op_sub (pe_op op_add (pe_op op_sub (pv 3) (pe_callB (sumK (K := K) rfl rfl) (by rfl) T.n_sum (by decide +kernel) (pa_cons (pe_slice (sllK (K := K) rfl) (pv 7) po_none (po_some (pe_un un_neg (pe_int)))) pa_nil))) (pe_callX (ok_law_draw T) (hr.mono (by decide)) (by rfl) T.g_law_draw T.F_law_draw.kp (b_law_draw_2 T) pass0 (pa_cons (pv 0) (pa_cons (pe_int) pa_nil)))) (pe_int)))
 (pss_cons (ps_if (PW.pt (pw_and (pt_cmpR op_gt (pv 4) (pe_int) (by first | rfl | exact nomark _)) (pw_and (pt_cmpR op_eq (pe_callX (ok_law_draw T) (hr.mono (by decide)) (by rfl) T.g_law_draw T.F_law_draw.kp (b_law_draw_2 T) pass0 (pa_cons (pv 0) (pa_cons (pe_int) pa_nil))) (pe_int) (by first | rfl | exact nomark _)) (pw_and1 (pt_chain op_le op_le (pe_int) (pv 8) (pe_int)))))) (pss_one (ps_asg (pv 8) (pg_sub (pv 7) (pe_un un_neg (pe_int)) set_list))) (pss_nil))
 (pss_one (Dl.ps_frz 7 (ps_ret (pe_tup (pa_cons (pv 3) (pa_cons (pe_callTy (tupOfK (K := K) rfl) (by rfl) T.n_tuple (by decide +kernel) (pa_cons (pe_lc (own := [("come", 10), ("work", 11)]) (g := gTup K 2 (gCons (gName 10) (gCons (gName 11) (gNil)))) (tt := tYes) (by rfl) sc_law_plain.nd (piZK (K := K) rfl (by rfl) T.n_zip (pa_cons (pv 6) (pa_cons (pv 7) pa_nil))) (blkOk_by (own := [("come", 10), ("work", 11)]) (N := ["m", "w", "top", "span", "many", "high", "comes", "works", "rest", "j", "come", "work"]) (sc := defScope s_law_plain) (by decide +kernel)) (fun _ _ _ _ _ => pgTK (K := K) rfl (by rfl) (pgs_cons (pg_name (i := 10) sc_law_plain.nd rfl (Or.inl rfl)) (pgs_cons (pg_name (i := 11) sc_law_plain.nd rfl (Or.inl rfl)) (pgs_nil)))) (fun _ _ _ _ _ => pts_nil) (fun _ _ _ _ _ => pe_tup (pa_cons (pv 10) (pa_cons (pe_ix (ixlK (K := K) rfl) (pv 1) (pe_callX (ok_law_draw T) (hr.mono (by decide)) (by rfl) T.g_law_draw T.F_law_draw.kp (b_law_draw_2 T) pass0 (pa_cons (pv 0) (pa_cons (pe_int) pa_nil))) (fun _ _ => rfl)) (pa_cons (pv 11) pa_nil))))) pa_nil)) pa_nil)))))))))))), body_sim h ?_⟩)
  rintro ts μ Φ xw hl ⟨n, zs, top, rfl, rfl, zl, zn, top1, top2, q⟩
  walk_at "st0"
  walk_at "rs"
  -- the length
  refine rSeq_cut (fun ρ μ => ∃ L : Int, 1 ≤ L ∧ L ≤ 1000 ∧ ρ = [some (.rs 0), some (.lst (zs.map .str)), some (.int top), some (.int L), none, none, none, none, none, none, none, none] ∧ μ = [.drw nxt (n + 98)]) (fun N hN => ?_) ?_
  · walk_at "rs"
    refine ⟨rfl, by decide, rfl, drawR rfl (by omega) (by decide) (by decide) fun v v0 v1 => ?_⟩
    walk_at "rs"
    obtain ⟨c, hc, e⟩ := at_intT (cs := [4, 24, top]) v0 v1
    have cb : 1 ≤ c ∧ c ≤ 1000 := by
      simp only [List.mem_cons, List.not_mem_nil, or_false] at hc
      omega
    refine ⟨_, _, rfl, e, rfl, drawR rfl (by omega) (by omega) (by omega) fun u u0 u1 => ?_⟩
    exact hN _ _ ⟨1 + u, by omega, by omega, rfl, rfl⟩
  rintro ρ μ ⟨L, L1, L2, rfl, rfl⟩
  -- how many
  refine rSeq_cut (fun ρ μ => ∃ many : Nat, many ≤ 12 ∧ ρ = [some (.rs 0), some (.lst (zs.map .str)), some (.int top), some (.int L), some (.int many), none, none, none, none, none, none, none] ∧ μ = [.drw nxt (n + 96)]) (fun N hN => ?_) ?_
  · walk_at "rs"
    refine ⟨rfl, by decide, rfl, drawR rfl (by omega) (by decide) (by decide) fun v v0 v1 => ?_⟩
    walk_at "rs"
    obtain ⟨c, hc, e⟩ := at_intT (cs := [4, 13]) v0 v1
    have cb : 1 ≤ c ∧ c ≤ 13 := by
      simp only [List.mem_cons, List.not_mem_nil, or_false] at hc
      omega
    refine ⟨_, _, rfl, e, rfl, drawR rfl (by omega) (by omega) (by omega) fun u u0 u1 => ?_⟩
    exact hN _ _ ⟨u.toNat, by omega, by rw [Int.toNat_of_nonneg u0], rfl⟩
  rintro ρ μ ⟨many, m12, rfl, rfl⟩
  -- the most hours
  refine rSeq_cut (fun ρ μ => ∃ high : Int, 1 ≤ high ∧ high ≤ 1000 ∧ ρ = [some (.rs 0), some (.lst (zs.map .str)), some (.int top), some (.int L), some (.int many), some (.int high), none, none, none, none, none, none] ∧ μ = [.drw nxt (n + 95)]) (fun N hN => ?_) ?_
  · walk_at "rs"
    have mx : (if (many : Int) > 1 then (many : Int) else 1) = max 1 (many : Int) := by split <;> omega
    rw [mx]
    refine ⟨.inl ⟨by decide, by decide⟩, ⟨by omega, by omega⟩, rfl, by decide, rfl, drawR rfl (by omega) (by decide) (by decide) fun v v0 v1 => ?_⟩
    walk_at "rs"
    have dv : 0 ≤ (2 * L).fdiv (max 1 (many : Int)) := Int.fdiv_nonneg (by omega) (by omega)
    obtain ⟨c, hc, e⟩ := at_intT (cs := [2, 1 + (2 * L).fdiv (max 1 (many : Int)), L + 3]) v0 v1
    have cb : 1 ≤ c := by
      simp only [List.mem_cons, List.not_mem_nil, or_false] at hc
      omega
    refine ⟨_, _, rfl, e, ?_⟩
    exact hN _ _ ⟨if c < 1000 then c else 1000, by split <;> omega, by split <;> omega, rfl, rfl⟩
  rintro ρ μ ⟨high, h1, h2, rfl, rfl⟩
  -- when they come
  refine rSeq_cut (fun ρ μ => ∃ cs : List Int, cs.length = many ∧ (∀ c ∈ cs, 0 ≤ c ∧ c < L) ∧ cs.Pairwise (· ≤ ·) ∧ ρ = [some (.rs 0), some (.lst (zs.map .str)), some (.int top), some (.int L), some (.int many), some (.int high), some (.lst (cs.map .int)), none, none, none, none, none] ∧ μ = [.drw nxt (n + 95 - many * 3)]) (fun N hN => ?_) ?_
  · walk_at "rs"
    refine ⟨by omega, by omega, by simp, fun i acc μ => ∃ cs : List Int, acc = cs.map .int ∧ cs.length = i ∧ (∀ c ∈ cs, 0 ≤ c ∧ c < L) ∧ i ≤ many ∧ μ = [.drw nxt (n + 95 - i * 3)], ⟨[], rfl, rfl, by simp, Nat.zero_le _, rfl⟩, ?_, ?_⟩
    · rintro i t acc μ et ⟨cs, rfl, cl, cb, im, rfl⟩
      obtain ⟨im2, rfl⟩ := range_at et
      rw [Int.toNat_natCast] at im2
      simp only [wipeR]
      walk_at "rs"
      refine ⟨rfl, drawR rfl (by omega) (by omega) (by omega) fun u u0 u1 => ?_⟩
      walk_at "rs"
      refine ⟨⟨by decide, by decide⟩, rfl, drawR rfl (by omega) (by omega) (by omega) fun u2 u20 u21 => ?_⟩
      walk_at "rs"
      refine ⟨rfl, by decide, rfl, drawR rfl (by omega) (by decide) (by decide) fun v v0 v1 => ?_⟩
      walk_at "rs"
      obtain ⟨c, hc, e⟩ := at_intT (cs := [0, u, u2]) v0 v1
      have cb2 : 0 ≤ c ∧ c < L := by
        simp only [List.mem_cons, List.not_mem_nil, or_false] at hc
        omega
      refine ⟨_, _, rfl, e, rfl, by rw [List.length_map]; omega, cs ++ [c], by rw [List.map_append]; rfl, by rw [List.length_append, cl]; rfl, ?_, by omega, ?_⟩
      · intro d hd
        rcases List.mem_append.mp hd with hd | hd
        · exact cb d hd
        · rw [List.mem_singleton.mp hd]
          exact cb2
      · congr 2
        omega
    · rintro acc μ ⟨cs, rfl, cl, cb, im, rfl⟩
      rw [List.length_map, List.length_range, Int.toNat_natCast] at cl
      refine ⟨_, cs, rfl, ints_map cs, fun cs2 pm pw => hN _ _ ⟨cs2, by rw [pm.length_eq, cl], fun c hc => cb c (pm.mem_iff.mp hc), pw, rfl, ?_⟩⟩
      rw [List.length_map, List.length_range, Int.toNat_natCast]
  rintro ρ μ ⟨cs, cl, cb, cp, rfl, rfl⟩
  -- how long they last
  refine rSeq_cut (fun ρ μ => ∃ ws : List Int, ws.length = many ∧ (∀ c ∈ ws, 1 ≤ c ∧ c ≤ 1000) ∧ ρ = [some (.rs 0), some (.lst (zs.map .str)), some (.int top), some (.int L), some (.int many), some (.int high), some (.lst (cs.map .int)), some (.rs 1), none, none, none, none] ∧ μ = [.drw nxt (n + 95 - many * 4), .lst (ws.map .int)]) (fun N hN => ?_) ?_
  · walk_at "rs"
    refine ⟨by omega, by omega, by simp, fun i acc μ => ∃ ws : List Int, acc = ws.map .int ∧ ws.length = i ∧ (∀ c ∈ ws, 1 ≤ c ∧ c ≤ 1000) ∧ i ≤ many ∧ μ = [.drw nxt (n + 95 - many * 3 - i)], ⟨[], rfl, rfl, by simp, Nat.zero_le _, rfl⟩, ?_, ?_⟩
    · rintro i t acc μ et ⟨ws, rfl, wl, wb, im, rfl⟩
      obtain ⟨im2, rfl⟩ := range_at et
      rw [Int.toNat_natCast] at im2
      simp only [wipeR]
      walk_at "rs"
      refine ⟨rfl, drawR rfl (by omega) (by omega) (by omega) fun u u0 u1 => ?_⟩
      walk_at "rs"
      refine ⟨rfl, by rw [List.length_map]; omega, ws ++ [1 + u], by rw [List.map_append]; rfl, by rw [List.length_append, wl]; rfl, ?_, by omega, ?_⟩
      · intro d hd
        rcases List.mem_append.mp hd with hd | hd
        · exact wb d hd
        · rw [List.mem_singleton.mp hd]
          omega
      · congr 2
    · rintro acc μ ⟨ws, rfl, wl, wb, im, rfl⟩
      rw [List.length_map, List.length_range, Int.toNat_natCast] at *
      refine hN _ _ ⟨ws, wl, wb, rfl, ?_⟩
      rw [show n + 95 - many * 3 - many = n + 95 - many * 4 from by omega]
      rfl
  rintro ρ μ ⟨ws, wl, wb, rfl, rfl⟩
  -- what is left
  refine rSeq_cut (fun ρ μ => ∃ rest : Int, ρ = [some (.rs 0), some (.lst (zs.map .str)), some (.int top), some (.int L), some (.int many), some (.int high), some (.lst (cs.map .int)), some (.rs 1), some (.int rest), none, none, none] ∧ μ = [.drw nxt (n + 94 - many * 4), .lst (ws.map .int)]) (fun N hN => ?_) ?_
  · walk_at "rs"
    refine ⟨_, rfl, _, cutT ws none (some (-1)), rfl, ?_, rfl, drawR rfl (by omega) (by decide) (by decide) fun v v0 v1 => ?_⟩
    · rw [cutT_map]
      exact ints_map _
    · refine hN _ _ ⟨_, rfl, ?_⟩
      rw [show n + 94 - many * 4 = n + 95 - many * 4 - 1 from by omega]
      rfl
  rintro ρ μ ⟨rest, rfl, rfl⟩
  refine rSeq_cut (fun ρ μ => ∃ (ws : List Int) (kk : Nat), ws.length = many ∧ (∀ c ∈ ws, 1 ≤ c ∧ c ≤ 1000) ∧ n + 20 ≤ kk ∧ ρ = [some (.rs 0), some (.lst (zs.map .str)), some (.int top), some (.int L), some (.int many), some (.int high), some (.lst (cs.map .int)), some (.rs 1), some (.int rest), none, none, none] ∧ μ = [.drw nxt kk, .lst (ws.map .int)]) (fun N hN => ?_) ?_
  · walk_at "rs"
    by_cases m0 : 0 < many
    · refine iteT' (by simp [m0]) ⟨rfl, drawR rfl (by omega) (by decide) (by decide) fun v v0 v1 => ?_⟩
      walk_at "rs"
      have no : N [some (.rs 0), some (.lst (zs.map .str)), some (.int top), some (.int L), some (.int many), some (.int high), some (.lst (cs.map .int)), some (.rs 1), some (.int rest), none, none, none] [.drw nxt (n + 94 - many * 4 - 1), .lst (ws.map .int)] := by
        exact hN _ _ ⟨ws, _, wl, wb, by omega, rfl, rfl⟩
      by_cases hv : v = 0
      · refine iteT' (by simp [hv]) ?_
        by_cases r1 : 1 ≤ rest
        · refine iteT' (by simp [r1]) ?_
          by_cases r2 : rest ≤ 1000
          · refine iteT' (by simp [r2]) ⟨_, many - 1, rfl, ?_, rfl, hN _ _ ⟨ws.set (many - 1) rest, n + 94 - many * 4 - 1, by rw [List.length_set, wl], ?_, by omega, rfl, by rw [List.map_set]⟩⟩
            · rw [List.length_map, wl]
              unfold ixN
              simp
              omega
            · intro c hc
              rcases List.mem_or_eq_of_mem_set hc with hc | rfl
              · exact wb c hc
              · exact ⟨r1, r2⟩
          · exact iteF' (by simp [r2]) no
        · exact iteF' (by simp [r1]) (iteF' rfl no)
      · exact iteF' (by simp [hv]) (iteF' rfl no)
    · have hz : many = 0 := by omega
      exact iteF' (by simp [hz]) (iteF' rfl (hN _ _ ⟨ws, _, wl, wb, by omega, rfl, rfl⟩))
  clear wb wl ws
  rintro ρ μ ⟨ws, kk, wl, wb, kb, rfl, rfl⟩
  walk_at "rs"
  refine ⟨_, rfl, by simp, fun i acc μ => ∃ l : List Cal, acc = l.map callT ∧ l.length = i ∧ i ≤ many ∧ μ = [.drw nxt (kk - i), .gone] ∧ ∀ (j : Nat) (c : Cal), l[j]? = some c → cs[j]? = some c.1 ∧ ws[j]? = some c.2.2 ∧ nmS c.2.1 = true ∧ c.2.1 ∈ zs.take 4, ⟨[], rfl, rfl, Nat.zero_le _, rfl, by simp⟩, ?_, ?_⟩
  · rintro i t acc μ et ⟨l, rfl, ll, im, rfl, al⟩
    have lt := (List.getElem?_eq_some_iff.mp et).1
    rw [List.length_map, List.length_zip, List.length_map, List.length_map, cl, wl] at lt
    have e1 : cs[i]? = some cs[i] := List.getElem?_eq_getElem (by omega)
    have e2 : ws[i]? = some ws[i] := List.getElem?_eq_getElem (by omega)
    have et2 : t = .tup [.int cs[i], .int ws[i]] := by
      have ez : ((cs.map Dl.T.int).zip (ws.map Dl.T.int))[i]? = some (Dl.T.int cs[i], Dl.T.int ws[i]) := List.getElem?_zip_eq_some.mpr ⟨by rw [List.getElem?_map, e1]; rfl, by rw [List.getElem?_map, e2]; rfl⟩
      rw [List.getElem?_map, ez] at et
      exact (Option.some.inj et).symm
    subst et2
    simp only [wipeR]
    walk_at "rs"
    refine ⟨rfl, rfl, drawR rfl (by omega) (by decide) (by decide) fun v v0 v1 => ?_⟩
    walk_at "rs"
    obtain ⟨z, hz, e3, ez⟩ := at_in (l := zs) (i := v) v0 (by omega)
    refine ⟨_, .str z, rfl, ?_, rfl, by decide, rfl, by rw [List.length_map]; omega, l ++ [(cs[i], z, ws[i])], by rw [List.map_append]; rfl, by rw [List.length_append, ll]; rfl, by omega, rfl, ?_⟩
    · refine atI_int v0 ?_
      rw [List.getElem?_map, e3]
      rfl
    · intro j c ec
      by_cases hj : j < l.length
      · rw [List.getElem?_append_left hj] at ec
        exact al j c ec
      · have : j = i := by
          have := (List.getElem?_eq_some_iff.mp ec).1
          rw [List.length_append, ll] at this
          simp at this
          omega
        rw [show j = l.length from by omega, List.getElem?_concat_length] at ec
        cases ec
        rw [this]
        refine ⟨e1, e2, zn z hz, ?_⟩
        refine List.mem_of_getElem? (i := v.toNat) ?_
        rw [List.getElem?_take_of_lt (by omega)]
        exact e3
  · rintro acc μ ⟨l, rfl, ll, im, rfl, al⟩
    have lm : l.length = many := by
      rw [ll, List.length_map, List.length_zip, List.length_map, List.length_map, cl, wl, Nat.min_self]
    refine ⟨rfl, by decide, q L l _ ⟨L1, L2, by omega, fun c hc => ?_, fun i c d e1 e2 => ?_⟩ (fun c hc => ?_) ?_⟩
    · obtain ⟨j, hj, e⟩ := List.getElem_of_mem hc
      obtain ⟨a, b, d, _⟩ := al j c (by rw [List.getElem?_eq_getElem hj, e])
      have ca := cb _ (List.mem_of_getElem? a)
      have wa := wb _ (List.mem_of_getElem? b)
      exact ⟨ca.1, ca.2, d, wa.1, wa.2⟩
    · obtain ⟨a, _, _⟩ := al i c e1
      obtain ⟨b, _, _⟩ := al (i + 1) d e2
      obtain ⟨l1, b1⟩ := List.getElem?_eq_some_iff.mp a
      obtain ⟨l2, b2⟩ := List.getElem?_eq_some_iff.mp b
      rw [← b1, ← b2]
      exact List.pairwise_iff_getElem.mp cp i (i + 1) l1 l2 (by omega)
    · obtain ⟨j, hj, e⟩ := List.getElem_of_mem hc
      exact (al j c (by rw [List.getElem?_eq_getElem hj, e])).2.2.2
    · rw [← ll, lm]
      omega
end
end K

set_option maxRecDepth 100000
set_option maxHeartbeats 4000000
set_option synthInstance.maxSize 100000
set_option synthInstance.maxHeartbeats 4000000
namespace K
open PySem PySem.Spec PyProof.Rows L2 Gd
local macro_rules | `(tactic| walk_at "mulok") => `(tactic| first | exact Or.inr ⟨by decide, by decide⟩ | exact Or.inl ⟨by decide, by decide⟩ | exact Or.inr ⟨by omega, by omega⟩ | exact Or.inl ⟨by omega, by omega⟩)
local macro_rules | `(tactic| walk_at "st") => `(tactic| first
  | refine ⟨_, rfl, ?_⟩
  | refine ⟨_, _, rfl, rfl, (by walk_at "mulok"), ?_⟩
  | refine ⟨_, _, rfl, rfl, (by show (0 : Int) < _; decide), ?_⟩
  | refine ⟨_, _, rfl, rfl, ⟨by decide, by decide⟩, ?_⟩
  | refine ⟨_, _, rfl, rfl, ?_⟩)
local macro_rules | `(tactic| walk_at "st0") => `(tactic| simp only [List.map_cons, List.map_nil, List.append_nil, List.cons_append, List.nil_append, List.length_cons, List.length_nil, Nat.reduceSub, Nat.reduceAdd, Nat.sub_self, List.replicate])
local macro_rules | `(tactic| walk_at "rd") => `(tactic| dsimp only [Dl.rRaise, Dl.rEqOD, Dl.rNeOD, Dl.rInOD, Dl.inOD, Dl.rLend, Dl.rBorX, Dl.rLnO, Dl.rBoO, Dl.rStO, Dl.rFmt, Dl.rJn, Dl.rJc, Dl.rJs, Dl.dJoin, Dl.dRepL, Dl.rDispT, Dl.rBor, Dl.rMakeN, Dl.rMakeN0, Dl.rTold, Dl.rTypX, Dl.dTX, Dl.dEqTT, Dl.rDict, Dl.rPin, Dl.pinT, Dl.rWGet, Dl.rMethN, Dl.dRepS, Dl.unp_non, Dl.unp_bl, Dl.unp_int, Dl.unp_str, Dl.unp_wst, Dl.unp_ty, Dl.unp_lst, Dl.unp_tup, Dl.unp_cls, Dl.unp_obj, Dl.unp_far, Dl.unp_dct, Dl.unp_pin, Dl.rRet, Dl.rRetN, Dl.rIfS, Dl.rSeq, Dl.rNext, Dl.rDrop, Dl.rAsg, Dl.rName, Dl.rPar, Dl.rPar3, Dl.rAndV, Dl.rOrV, Dl.rNotV, Dl.dIsi, Dl.dDivmod, Dl.mput, Dl.rUn, Dl.rGset, Dl.rFrz, Dl.rAnd, Dl.rOr, Dl.rNot, Dl.rTest, Dl.rTru, Dl.rIf, Dl.rOp, Dl.rOpL, Dl.rCB, Dl.rCBL, Dl.rCons, Dl.rNil, Dl.rVar, Dl.rC, Dl.rStr, Dl.d1, Dl.fTyp, Dl.fLenS, Dl.fLenQ, Dl.fAll, Dl.fSum, Dl.fRepr, Dl.fTupOf, Dl.dTy, Dl.nb, Dl.dInT, Dl.dIn, Dl.dN, Dl.dEq, Dl.dEqD, Dl.dI0, Dl.dIC, Dl.dCat, Dl.dCatL, Dl.dCatS, Dl.dCatT, Dl.dIxL, Dl.dIxT, Dl.dIxS, Dl.rChain, Dl.rChain3, Dl.rTup, Dl.rLst, Dl.rFroz, Dl.rKeep, Dl.rFld, Dl.rBM, Dl.dAppend, Dl.dReverse, Dl.dClear, Dl.dExtend, Dl.rCK, Dl.fMinD, Dl.rCall, Dl.rCall0, Dl.rMeth, Dl.rMeth0, Dl.rMethN0, Dl.rMake, Dl.rMake0, Dl.rSetF, Dl.rGtup, Dl.rGlst, Dl.dIsB, Dl.rGcons, Dl.rGnil, Dl.rIlst, Dl.rItup, Dl.rIenum, Dl.rIenumT, Dl.rIzip, Dl.rIzip3, Dl.rSlcL, Dl.rSlcT, Dl.rSlcS, Dl.rNoPart, Dl.rPart, Dl.dSS, Dl.dII, Dl.dListOf, Dl.dSortI, Dl.rtD, Dl.rtL, List.map_cons, List.map_nil, List.length_cons, List.length_nil, List.cons_append, List.nil_append, List.append_nil, List.replicate, Nat.reduceSub, Nat.reduceAdd, Nat.sub_self, Nat.sub_zero, List.getElem?_cons_zero, List.getElem?_cons_succ, List.set_cons_zero, List.set_cons_succ, List.take_succ_cons, List.take_zero, List.take_nil, Dl.view, Dl.T.tyn, Dl.T.tyx, Dl.T.isN, Dl.T.sc, Dl.T.flat, Dl.flats])
local macro_rules | `(tactic| walk_at "rs") => `(tactic| dsimp only [Dl.rRaise, Dl.rEqOD, Dl.rNeOD, Dl.rInOD, Dl.inOD, Dl.rLend, Dl.rBorX, Dl.rLnO, Dl.rBoO, Dl.rStO, Dl.rFmt, Dl.rJn, Dl.rJc, Dl.rJs, Dl.dJoin, Dl.dRepL, Dl.rDispT, Dl.rBor, Dl.rMakeN, Dl.rMakeN0, Dl.rTold, Dl.rTypX, Dl.dTX, Dl.dEqTT, Dl.rDict, Dl.rPin, Dl.pinT, Dl.rWGet, Dl.rMethN, Dl.dRepS, Dl.unp_non, Dl.unp_bl, Dl.unp_int, Dl.unp_str, Dl.unp_wst, Dl.unp_ty, Dl.unp_lst, Dl.unp_tup, Dl.unp_cls, Dl.unp_obj, Dl.unp_far, Dl.unp_dct, Dl.unp_pin, Dl.rRet, Dl.rRetN, Dl.rIfS, Dl.rNext, Dl.rDrop, Dl.rAsg, Dl.rName, Dl.rPar, Dl.rPar3, Dl.rAndV, Dl.rOrV, Dl.rNotV, Dl.dIsi, Dl.dDivmod, Dl.mput, Dl.rUn, Dl.rGset, Dl.rFrz, Dl.rAnd, Dl.rOr, Dl.rNot, Dl.rTest, Dl.rTru, Dl.rIf, Dl.rOp, Dl.rOpL, Dl.rCB, Dl.rCBL, Dl.rCons, Dl.rNil, Dl.rVar, Dl.rC, Dl.rStr, Dl.d1, Dl.fTyp, Dl.fLenS, Dl.fLenQ, Dl.fAll, Dl.fSum, Dl.fRepr, Dl.fTupOf, Dl.dTy, Dl.nb, Dl.dInT, Dl.dIn, Dl.dN, Dl.dEq, Dl.dEqD, Dl.dI0, Dl.dIC, Dl.dCat, Dl.dCatL, Dl.dCatS, Dl.dCatT, Dl.dIxL, Dl.dIxT, Dl.dIxS, Dl.rChain, Dl.rChain3, Dl.rTup, Dl.rLst, Dl.rFroz, Dl.rKeep, Dl.rFld, Dl.rBM, Dl.dAppend, Dl.dReverse, Dl.dClear, Dl.dExtend, Dl.rCK, Dl.fMinD, Dl.rCall, Dl.rCall0, Dl.rMeth, Dl.rMeth0, Dl.rMethN0, Dl.rMake, Dl.rMake0, Dl.rSetF, Dl.rGtup, Dl.rGlst, Dl.dIsB, Dl.rGcons, Dl.rGnil, Dl.rIlst, Dl.rItup, Dl.rIenum, Dl.rIenumT, Dl.rIzip, Dl.rIzip3, Dl.rSlcL, Dl.rSlcT, Dl.rSlcS, Dl.rNoPart, Dl.rPart, Dl.dSS, Dl.dII, Dl.dListOf, Dl.dSortI, Dl.rtD, Dl.rtL, List.map_cons, List.map_nil, List.length_cons, List.length_nil, List.cons_append, List.nil_append, List.append_nil, List.replicate, Nat.reduceSub, Nat.reduceAdd, Nat.sub_self, Nat.sub_zero, List.getElem?_cons_zero, List.getElem?_cons_succ, List.set_cons_zero, List.set_cons_succ, List.take_succ_cons, List.take_zero, List.take_nil, Dl.view, Dl.T.tyn, Dl.T.tyx, Dl.T.isN, Dl.T.sc, Dl.T.flat, Dl.flats])
open Dl Rm
def intS (i : Int) : PySem.Str := toString i
def rowC (c : Cal) : PySem.Str := ((((Str.empty ++ intS c.1) ++ " ") ++ c.2.1) ++ " ") ++ intS c.2.2
def headC (L : Int) : PySem.Str := (Str.empty ++ "round ") ++ intS L
def shownC (L : Int) (l : List Cal) : PySem.Str := Txt.join "\n" (headC L :: l.map rowC)
theorem slen_app (z y : PySem.Str) : (z ++ y).length = z.length + y.length := slen_add z y
theorem emp_app (z : PySem.Str) : Str.empty ++ z = z := by
  have e : (Str.empty ++ z).cps.toList = Str.empty.cps.toList ++ z.cps.toList := Array.toList_append
  have e0 : Str.empty.cps.toList = [] := rfl
  rw [e0, List.nil_append] at e
  cases z with
  | mk c =>
    cases hh : (Str.empty ++ (⟨c⟩ : PySem.Str)) with
    | mk d =>
      rw [hh] at e
      congr 1
      exact Array.toList_inj.mp e
theorem intS_len : ∀ i : Nat, i < 1001 → (intS i).length ≤ 4 := by decide +kernel
theorem intS_lenI {i : Int} (a : 0 ≤ i) (b : i ≤ 1000) : (intS i).length ≤ 4 := by
  obtain ⟨n, rfl⟩ : ∃ n : Nat, i = n := ⟨i.toNat, by omega⟩
  exact intS_len n (by omega)
/-- a good call -/
def GdC (c : Cal) : Prop := 0 ≤ c.1 ∧ c.1 ≤ 1000 ∧ nmS c.2.1 = true ∧ 1 ≤ c.2.2 ∧ c.2.2 ≤ 1000
theorem gd_of {L : Int} {l : List Cal} (ok : OkC L l) : ∀ c ∈ l, GdC c := fun c hc => by
  have := ok.all c hc
  have := ok.l2
  exact ⟨by omega, by omega, by have := ok.all c hc; exact this.2.2.1, by omega, by omega⟩
theorem s_emp : Str.empty.length = 0 := rfl
theorem s_spc : (Str.ofString " ").length = 1 := by decide +kernel
theorem s_rnd : (Str.ofString "round ").length = 6 := by decide +kernel
theorem rowC_len {c : Cal} (o : GdC c) : (rowC c).length ≤ 18 := by
  obtain ⟨o1, o2, o3, o4, o5⟩ := o
  have a := nm_len o3
  have b := intS_lenI o1 o2
  have d := intS_lenI (i := c.2.2) (by omega) o5
  have e : (" " : PySem.Str).length = 1 := by decide +kernel
  unfold rowC
  rw [slen_app, slen_app, slen_app, slen_app, emp_app, e]
  omega
theorem headC_len {L : Int} (a : 0 ≤ L) (b : L ≤ 1000) : (headC L).length ≤ 10 := by
  have d : ("round " : PySem.Str).length = 6 := by decide +kernel
  have e := intS_lenI a b
  unfold headC
  rw [emp_app, slen_app, d]
  omega
theorem rowsC_sum : ∀ {l : List Cal}, (∀ p ∈ l, GdC p) → ((l.map rowC).map (·.length)).sum ≤ 18 * l.length
  | [], _ => by simp
  | p :: r, h => by
    have a := rowC_len (h p List.mem_cons_self)
    have b := rowsC_sum (l := r) fun q hq => h q (List.mem_cons_of_mem _ hq)
    simp only [List.map_cons, List.sum_cons, List.length_cons]
    omega
theorem shownC_fit {L : Int} {l : List Cal} (ok : OkC L l) : ((headC L :: l.map rowC).map (·.length)).sum + (headC L :: l.map rowC).length * ("\n" : PySem.Str).length ≤ 1000000 := by
  have a := rowsC_sum (gd_of ok)
  have b := headC_len (L := L) (by have := ok.l1; omega) ok.l2
  have c := ok.len
  have d : ("\n" : PySem.Str).length = 1 := by decide +kernel
  rw [d]
  simp only [List.map_cons, List.sum_cons, List.length_cons, List.length_map] at *
  omega
theorem lt_log {i : Int} (a : 0 ≤ i) (b : i ≤ 1000) : i.natAbs.log2 < 1920 := by
  have h : i.natAbs ≤ 1000 := by omega
  have : i.natAbs.log2 ≤ i.natAbs := Nat.log2_le_self _
  omega
theorem take_sn {α : Type} {l : List α} {i : Nat} {c : α} (h : l[i]? = some c) : l.take (i + 1) = l.take i ++ [c] := by
  rw [List.take_add_one, h]
  rfl
theorem emp_ok : okS Str.empty := fun c hc => by cases hc
theorem okS_i {i : Int} (h : 0 ≤ i) : okS (intS i) := okS_int h
theorem rowC_ok {c : Cal} (o : GdC c) : okS (rowC c) := by
  obtain ⟨o1, o2, o3, o4, o5⟩ := o
  exact ((((emp_ok.add (okS_i o1)).add (okSb_ok (by decide +kernel))).add (nm_okS o3)).add (okSb_ok (by decide +kernel))).add (okS_i (by omega))
theorem shownC_ok {L : Int} {l : List Cal} (ok : OkC L l) : okS (shownC L l) := by
  unfold shownC
  rw [txt_join]
  refine okS_joinS (okSb_ok (by decide +kernel)) _ fun z hz => ?_
  rcases List.mem_cons.mp hz with rfl | hz
  · exact (emp_ok.add (okSb_ok (by decide +kernel))).add (okS_i (by have := ok.l1; omega))
  · obtain ⟨p, hp, rfl⟩ := List.mem_map.mp hz
    exact rowC_ok (gd_of ok p hp)
theorem join_len (a : PySem.Str) : ∀ ys : List PySem.Str, (PySem.Str.join a ys).length ≤ (ys.map (·.length)).sum + ys.length * a.length
  | [] => Nat.zero_le _
  | [x] => by
    show x.length ≤ _
    simp
  | x :: y :: r => by
    have ih := join_len a (y :: r)
    show ((x ++ a) ++ PySem.Str.join a (y :: r)).length ≤ _
    rw [slen_app, slen_app]
    simp only [List.map_cons, List.sum_cons, List.length_cons] at *
    rw [Nat.add_mul, Nat.one_mul]
    omega
theorem shownC_len {L : Int} {l : List Cal} (ok : OkC L l) : (shownC L l).length ≤ 300 := by
  have a := rowsC_sum (gd_of ok)
  have b := headC_len (L := L) (by have := ok.l1; omega) ok.l2
  have c := ok.len
  have d : ("\n" : PySem.Str).length = 1 := by decide +kernel
  unfold shownC
  rw [txt_join]
  refine Nat.le_trans (join_len _ _) ?_
  rw [d]
  simp only [List.map_cons, List.sum_cons, List.length_cons, List.length_map] at *
  omega
theorem headC_eq (L : Int) : headC L = Str.ofString "round " ++ intS L := by
  unfold headC
  rw [emp_app]
theorem row_jc {c : Cal} {Ψ : PySem.Str → Prop} (o : GdC c) (h : Ψ (rowC c)) : 0 ≤ c.1 ∧ c.1.natAbs.log2 < 1920 ∧ (Str.empty ++ Str.ofString (toString c.1)).length ≤ 1000000 ∧ okSb (Str.ofString " ") = true ∧ (Str.empty ++ Str.ofString (toString c.1) ++ Str.ofString " ").length ≤ 1000000 ∧
    c.2.1.length ≤ 1000000 ∧ (Str.empty ++ Str.ofString (toString c.1) ++ Str.ofString " " ++ c.2.1).length ≤ 1000000 ∧ okSb (Str.ofString " ") = true ∧ (Str.empty ++ Str.ofString (toString c.1) ++ Str.ofString " " ++ c.2.1 ++ Str.ofString " ").length ≤ 1000000 ∧
    0 ≤ c.2.2 ∧ c.2.2.natAbs.log2 < 1920 ∧ (Str.empty ++ Str.ofString (toString c.1) ++ Str.ofString " " ++ c.2.1 ++ Str.ofString " " ++ Str.ofString (toString c.2.2)).length ≤ 1000000 ∧ Ψ (Str.empty ++ Str.ofString (toString c.1) ++ Str.ofString " " ++ c.2.1 ++ Str.ofString " " ++ Str.ofString (toString c.2.2)) := by
  obtain ⟨o1, o2, o3, o4, o5⟩ := id o
  have a := nm_len o3
  have b : (Str.ofString (toString c.1)).length ≤ 4 := intS_lenI o1 o2
  have d : (Str.ofString (toString c.2.2)).length ≤ 4 := intS_lenI (i := c.2.2) (by omega) o5
  refine ⟨o1, lt_log o1 o2, ?_, by decide +kernel, ?_, by omega, ?_, by decide +kernel, ?_, by omega, lt_log (by omega) o5, ?_, h⟩ <;> (simp only [slen_app, s_emp, s_spc]; omega)
def rowF (t : Dl.T) : Dl.T := match t with
  | .tup [.int a, .str b, .int c] => .str (rowC (a, b, c))
  | _ => .non
theorem rowF_map (l : List Cal) : (l.map callT).map rowF = (l.map rowC).map Dl.T.str := by
  rw [List.map_map, List.map_map]
  rfl
def dText : DSpec := fun ts μ Φ _ => ∃ (L : Int) (l : List Cal), ts = [plnT L l] ∧ μ = [] ∧ OkC L l ∧ Φ (.str (shownC L l)) []
section
variable {P : Program} {w : World} {K : PySem.W.Frag} {mg : PySem.Str → Option Value} {base : Heap}
theorem ok_Round_str (T : Txt mg K w.params) : FnOk P w K mg base CX0 1 T.f_Round_str T.fd_Round_str ["self"] (liftSp K 1 (dOne (fun L l => .str (shownC L l)) T.C_Round)) := by
  refine FunD.ok0 T.F_Round_str sc_Round_str lift_len (fun cdv A outer s H vs Q E hr h => ⟨_, pss_cons (ps_setLc (i := 1) (own := [("at", 2), ("name", 3), ("hours", 4)]) (g := gTup K 3 (gCons (gName 2) (gCons (gName 3) (gCons (gName 4) (gNil))))) (tt := tYes) (by rfl) sc_Round_str.nd rfl rfl (sw_true rfl rfl rfl (by decide +kernel)) (piTK (K := K) rfl (fldK (K := K) rfl (pv 0) rfl)) (blkOk_by (own := [("at", 2), ("name", 3), ("hours", 4)]) (N := ["self", "rows", "at", "name", "hours"]) (sc := defScope s_Round_str) (by decide +kernel)) (fun _ _ _ _ _ => pgTK (K := K) rfl (by rfl) (pgs_cons (pg_name (i := 2) sc_Round_str.nd rfl (Or.inl rfl)) (pgs_cons (pg_name (i := 3) sc_Round_str.nd rfl (Or.inl rfl)) (pgs_cons (pg_name (i := 4) sc_Round_str.nd rfl (Or.inl rfl)) (pgs_nil))))) (fun _ _ _ _ _ => pts_nil) (fun _ _ _ _ _ => pe_joined (PJ.cons (pe_fmt (pv 2)) (PJ.cons (pe_str) (PJ.cons (pe_fmt (pv 3)) (PJ.cons (pe_str) (PJ.cons (pe_fmt (pv 4)) (PJ.nil))))))))
 (pss_one (ps_ret (bmK (K := K) rfl PySem.F.plainAttrs_str PySem.F.slot_str_join PySem.F.type_str_join (joinK (K := K) rfl) (pe_str) (pa_cons (pe_op op_cat (pe_lst (pa_cons (pe_joined (PJ.cons (pe_str) (PJ.cons (pe_fmt (fldK (K := K) rfl (pv 0) rfl)) (PJ.nil)))) pa_nil)) (pv 1)) pa_nil)))), body_sim h ?_⟩)
  rintro ts μ Φ xw hl ⟨L, l, rfl, rfl, ok, q⟩
  have L1 := ok.l1
  have L2 := ok.l2
  walk_at "st0"
  unfold rndT
  refine rSeq_go ?_
  walk_at "rs"
  simp only [lk_calls, lk_len, unp_tup]
  refine rLc_map rowF (by simp) (by rw [List.length_map]; have := ok.len; omega) ?_ ?_
  · intro t ht
    obtain ⟨p, hp, rfl⟩ := List.mem_map.mp ht
    obtain ⟨r1, r2, r3, r4, r5, r6, r7, r8, r9, r10, r11, r12, _⟩ := row_jc (Ψ := fun _ => True) (gd_of ok p hp) trivial
    exact ⟨rfl, fun Ψ hΨ => ⟨rfl, r1, r2, r3, r4, r5, r6, r7, r8, r9, r10, r11, r12, hΨ⟩⟩
  rw [rowF_map]
  have b : (Str.ofString (toString L)).length ≤ 4 := intS_lenI (i := L) (by omega) (by omega)
  have c := ok.len
  refine ⟨by decide +kernel, rfl, by decide +kernel, by simp only [slen_app, s_emp, s_rnd]; omega, by omega, lt_log (by omega) (by omega), by simp only [slen_app, s_emp, s_rnd]; omega, rfl, by decide, _, _, rfl, rfl, ?_, _, headC L :: l.map rowC, rfl, strs_map (headC L :: l.map rowC), shownC_fit ok, by decide +kernel, q⟩
  simp only [List.length_cons, List.length_nil, List.length_map]
  omega
theorem ok_law_text (T : Txt mg K w.params) : FnOk P w K mg base CX0 1 T.f_law_text T.fd_law_text ["plain"] (liftSp K 1 dText) := by
  refine FunD.ok0 T.F_law_text sc_law_text lift_len (fun cdv A outer s H vs Q E hr h => ⟨_, pss_cons (ps_set (i := 1) sc_law_text.nd rfl (.inl rfl) (Dl.pe_keep (pe_lst (pa_cons (pe_op op_add_str (pe_str) (pe_callTy call_str_int (by rfl) T.n_str (by decide +kernel) (pa_cons (pe_ix (ixtK (K := K) rfl) (pv 0) (pe_int) (fun _ _ => rfl)) pa_nil))) pa_nil))))
 (pss_cons (ps_for PassesOwn.never rfl (piTK (K := K) rfl (pe_ix (ixtK (K := K) rfl) (pv 0) (pe_int) (fun _ _ => rfl))) (pgTK (K := K) rfl (n := 3) (by rfl) (pgs_cons (pg_name (i := 2) sc_law_text.nd rfl (.inl rfl)) (pgs_cons (pg_name (i := 3) sc_law_text.nd rfl (.inl rfl)) (pgs_cons (pg_name (i := 4) sc_law_text.nd rfl (.inl rfl)) (pgs_nil))))) (pss_one (ps_expr (bmK (K := K) rfl PySem.F.plainAttrs_list PySem.F.slot_list_append PySem.F.type_list_append mt_append (pv 1) (pa_cons (pe_joined (PJ.cons (pe_fmt (pv 2)) (PJ.cons (pe_str) (PJ.cons (pe_fmt (pv 3)) (PJ.cons (pe_str) (PJ.cons (pe_fmt (pv 4)) (PJ.nil))))))) pa_nil)))))
 (pss_one (ps_ret (bmK (K := K) rfl PySem.F.plainAttrs_str PySem.F.slot_str_join PySem.F.type_str_join (joinK (K := K) rfl) (pe_str) (pa_cons (pv 1) pa_nil))))), body_sim h ?_⟩)
  rintro ts μ Φ xw hl ⟨L, l, rfl, rfl, ok, q⟩
  have L1 := ok.l1
  have L2 := ok.l2
  walk_at "st0"
  unfold plnT callsT
  refine rSeq_go ?_
  walk_at "rs"
  have b : (Str.ofString (toString L)).length ≤ 4 := intS_lenI (i := L) (by omega) (by omega)
  refine ⟨by decide +kernel, _, _, rfl, rfl, ⟨by omega, lt_log (by omega) (by omega), ?_⟩⟩
  refine ⟨by rw [s_rnd]; omega, rfl, by decide, ?_⟩
  rw [show Str.ofString "round " ++ Str.ofString (toString L) = headC L from (headC_eq L).symm]
  refine rSeq_go ?_
  unfold rFor rItup
  walk_at "rs"
  refine ⟨_, _, rfl, rfl, ?_⟩
  refine ⟨fun i ρ μ => ∃ a b c, ρ = [some (.tup [.int L, .tup (l.map callT)]), some (Dl.T.rs 0), a, b, c] ∧ μ = [Res.lst ((headC L :: (l.take i).map rowC).map Dl.T.str)], ⟨none, none, none, rfl, rfl⟩, ?_, ?_⟩
  · rintro i t ρ μ et ⟨a, b, c, rfl, rfl⟩
    rw [List.getElem?_map, Option.map_eq_some_iff] at et
    obtain ⟨p, ep, rfl⟩ := et
    have hp := gd_of ok p (List.mem_of_getElem? ep)
    have li : i < l.length := (List.getElem?_eq_some_iff.mp ep).1
    have c12 := ok.len
    unfold callT
    walk_at "rs"
    obtain ⟨r1, r2, r3, r4, r5, r6, r7, r8, r9, r10, r11, r12, _⟩ := row_jc (Ψ := fun _ => True) hp trivial
    refine ⟨rfl, rfl, r1, r2, r3, r4, r5, r6, r7, r8, r9, r10, r11, r12, _, rfl, rfl, ?_, ?_⟩
    · simp only [List.length_map, List.length_cons, List.length_take]
      omega
    · refine ⟨_, _, _, rfl, ?_⟩
      rw [take_sn ep]
      simp only [List.map_append, List.map_cons, List.map_nil, List.cons_append]
      rfl
  · rintro ρ μ ⟨a, b, c, rfl, rfl⟩
    rw [List.length_map, List.take_length]
    walk_at "rs"
    exact ⟨by decide +kernel, rfl, _, headC L :: l.map rowC, rfl, strs_map (headC L :: l.map rowC), shownC_fit ok, by decide +kernel, q⟩
end
end K

set_option maxRecDepth 100000
set_option maxHeartbeats 4000000
set_option synthInstance.maxSize 100000
set_option synthInstance.maxHeartbeats 4000000
namespace K
open PySem PySem.Spec PyProof.Rows L2 Gd
local macro_rules | `(tactic| walk_at "mulok") => `(tactic| first | exact Or.inr ⟨by decide, by decide⟩ | exact Or.inl ⟨by decide, by decide⟩ | exact Or.inr ⟨by omega, by omega⟩ | exact Or.inl ⟨by omega, by omega⟩)
local macro_rules | `(tactic| walk_at "st") => `(tactic| first
  | refine ⟨_, rfl, ?_⟩
  | refine ⟨_, _, rfl, rfl, (by walk_at "mulok"), ?_⟩
  | refine ⟨_, _, rfl, rfl, (by show (0 : Int) < _; decide), ?_⟩
  | refine ⟨_, _, rfl, rfl, ⟨by decide, by decide⟩, ?_⟩
  | refine ⟨_, _, rfl, rfl, ?_⟩)
local macro_rules | `(tactic| walk_at "st0") => `(tactic| simp only [List.map_cons, List.map_nil, List.append_nil, List.cons_append, List.nil_append, List.length_cons, List.length_nil, Nat.reduceSub, Nat.reduceAdd, Nat.sub_self, List.replicate])
local macro_rules | `(tactic| walk_at "rd") => `(tactic| dsimp only [Dl.rRaise, Dl.rEqOD, Dl.rNeOD, Dl.rInOD, Dl.inOD, Dl.rLend, Dl.rBorX, Dl.rLnO, Dl.rBoO, Dl.rStO, Dl.rFmt, Dl.rJn, Dl.rJc, Dl.rJs, Dl.dJoin, Dl.dRepL, Dl.rDispT, Dl.rBor, Dl.rMakeN, Dl.rMakeN0, Dl.rTold, Dl.rTypX, Dl.dTX, Dl.dEqTT, Dl.rDict, Dl.rPin, Dl.pinT, Dl.rWGet, Dl.rMethN, Dl.dRepS, Dl.unp_non, Dl.unp_bl, Dl.unp_int, Dl.unp_str, Dl.unp_wst, Dl.unp_ty, Dl.unp_lst, Dl.unp_tup, Dl.unp_cls, Dl.unp_obj, Dl.unp_far, Dl.unp_dct, Dl.unp_pin, Dl.rRet, Dl.rRetN, Dl.rIfS, Dl.rSeq, Dl.rNext, Dl.rDrop, Dl.rAsg, Dl.rName, Dl.rPar, Dl.rPar3, Dl.rAndV, Dl.rOrV, Dl.rNotV, Dl.dIsi, Dl.dDivmod, Dl.mput, Dl.rUn, Dl.rGset, Dl.rFrz, Dl.rAnd, Dl.rOr, Dl.rNot, Dl.rTest, Dl.rTru, Dl.rIf, Dl.rOp, Dl.rOpL, Dl.rCB, Dl.rCBL, Dl.rCons, Dl.rNil, Dl.rVar, Dl.rC, Dl.rStr, Dl.d1, Dl.fTyp, Dl.fLenS, Dl.fLenQ, Dl.fAll, Dl.fSum, Dl.fRepr, Dl.fTupOf, Dl.dTy, Dl.nb, Dl.dInT, Dl.dIn, Dl.dN, Dl.dEq, Dl.dEqD, Dl.dI0, Dl.dIC, Dl.dCat, Dl.dCatL, Dl.dCatS, Dl.dCatT, Dl.dIxL, Dl.dIxT, Dl.dIxS, Dl.rChain, Dl.rChain3, Dl.rTup, Dl.rLst, Dl.rFroz, Dl.rKeep, Dl.rFld, Dl.rBM, Dl.dAppend, Dl.dReverse, Dl.dClear, Dl.dExtend, Dl.rCK, Dl.fMinD, Dl.rCall, Dl.rCall0, Dl.rMeth, Dl.rMeth0, Dl.rMethN0, Dl.rMake, Dl.rMake0, Dl.rSetF, Dl.rGtup, Dl.rGlst, Dl.dIsB, Dl.rGcons, Dl.rGnil, Dl.rIlst, Dl.rItup, Dl.rIenum, Dl.rIenumT, Dl.rIzip, Dl.rIzip3, Dl.rSlcL, Dl.rSlcT, Dl.rSlcS, Dl.rNoPart, Dl.rPart, Dl.dSS, Dl.dII, Dl.dListOf, Dl.dSortI, Dl.rtD, Dl.rtL, List.map_cons, List.map_nil, List.length_cons, List.length_nil, List.cons_append, List.nil_append, List.append_nil, List.replicate, Nat.reduceSub, Nat.reduceAdd, Nat.sub_self, Nat.sub_zero, List.getElem?_cons_zero, List.getElem?_cons_succ, List.set_cons_zero, List.set_cons_succ, List.take_succ_cons, List.take_zero, List.take_nil, Dl.view, Dl.T.tyn, Dl.T.tyx, Dl.T.isN, Dl.T.sc, Dl.T.flat, Dl.flats])
local macro_rules | `(tactic| walk_at "rs") => `(tactic| dsimp only [Dl.rRaise, Dl.rEqOD, Dl.rNeOD, Dl.rInOD, Dl.inOD, Dl.rLend, Dl.rBorX, Dl.rLnO, Dl.rBoO, Dl.rStO, Dl.rFmt, Dl.rJn, Dl.rJc, Dl.rJs, Dl.dJoin, Dl.dRepL, Dl.rDispT, Dl.rBor, Dl.rMakeN, Dl.rMakeN0, Dl.rTold, Dl.rTypX, Dl.dTX, Dl.dEqTT, Dl.rDict, Dl.rPin, Dl.pinT, Dl.rWGet, Dl.rMethN, Dl.dRepS, Dl.unp_non, Dl.unp_bl, Dl.unp_int, Dl.unp_str, Dl.unp_wst, Dl.unp_ty, Dl.unp_lst, Dl.unp_tup, Dl.unp_cls, Dl.unp_obj, Dl.unp_far, Dl.unp_dct, Dl.unp_pin, Dl.rRet, Dl.rRetN, Dl.rIfS, Dl.rNext, Dl.rDrop, Dl.rAsg, Dl.rName, Dl.rPar, Dl.rPar3, Dl.rAndV, Dl.rOrV, Dl.rNotV, Dl.dIsi, Dl.dDivmod, Dl.mput, Dl.rUn, Dl.rGset, Dl.rFrz, Dl.rAnd, Dl.rOr, Dl.rNot, Dl.rTest, Dl.rTru, Dl.rIf, Dl.rOp, Dl.rOpL, Dl.rCB, Dl.rCBL, Dl.rCons, Dl.rNil, Dl.rVar, Dl.rC, Dl.rStr, Dl.d1, Dl.fTyp, Dl.fLenS, Dl.fLenQ, Dl.fAll, Dl.fSum, Dl.fRepr, Dl.fTupOf, Dl.dTy, Dl.nb, Dl.dInT, Dl.dIn, Dl.dN, Dl.dEq, Dl.dEqD, Dl.dI0, Dl.dIC, Dl.dCat, Dl.dCatL, Dl.dCatS, Dl.dCatT, Dl.dIxL, Dl.dIxT, Dl.dIxS, Dl.rChain, Dl.rChain3, Dl.rTup, Dl.rLst, Dl.rFroz, Dl.rKeep, Dl.rFld, Dl.rBM, Dl.dAppend, Dl.dReverse, Dl.dClear, Dl.dExtend, Dl.rCK, Dl.fMinD, Dl.rCall, Dl.rCall0, Dl.rMeth, Dl.rMeth0, Dl.rMethN0, Dl.rMake, Dl.rMake0, Dl.rSetF, Dl.rGtup, Dl.rGlst, Dl.dIsB, Dl.rGcons, Dl.rGnil, Dl.rIlst, Dl.rItup, Dl.rIenum, Dl.rIenumT, Dl.rIzip, Dl.rIzip3, Dl.rSlcL, Dl.rSlcT, Dl.rSlcS, Dl.rNoPart, Dl.rPart, Dl.dSS, Dl.dII, Dl.dListOf, Dl.dSortI, Dl.rtD, Dl.rtL, List.map_cons, List.map_nil, List.length_cons, List.length_nil, List.cons_append, List.nil_append, List.append_nil, List.replicate, Nat.reduceSub, Nat.reduceAdd, Nat.sub_self, Nat.sub_zero, List.getElem?_cons_zero, List.getElem?_cons_succ, List.set_cons_zero, List.set_cons_succ, List.take_succ_cons, List.take_zero, List.take_nil, Dl.view, Dl.T.tyn, Dl.T.tyx, Dl.T.isN, Dl.T.sc, Dl.T.flat, Dl.flats])
open Dl Rm
theorem cut_to {α : Type} {l : List α} {i : Nat} (h : i ≤ l.length) : Dl.cutT l none (some (i : Int)) = l.take i := by
  unfold Dl.cutT
  have a : HT.sIx l.length 0 none = 0 := rfl
  have b : HT.sIx l.length l.length (some (i : Int)) = i := by
    rw [HT.sIx_nat]
    exact Nat.min_eq_left h
  rw [a, b, List.drop_zero, Nat.sub_zero]
theorem cut_from {α : Type} {l : List α} {i : Nat} (h : i ≤ l.length) : Dl.cutT l (some (i : Int)) none = l.drop i := by
  unfold Dl.cutT
  have a : HT.sIx l.length l.length none = l.length := rfl
  have b : HT.sIx l.length 0 (some (i : Int)) = i := by
    rw [HT.sIx_nat]
    exact Nat.min_eq_left h
  rw [a, b]
  exact List.take_of_length_le (by rw [List.length_drop]; omega)
theorem pw_of : ∀ (l : List Cal), (∀ (i : Nat) (c d : Cal), l[i]? = some c → l[i + 1]? = some d → c.1 ≤ d.1) → l.Pairwise fun c d => c.1 ≤ d.1
  | [], _ => .nil
  | [a], _ => List.pairwise_singleton _ _
  | a :: b :: r, h => by
    have ih := pw_of (b :: r) fun i c d e1 e2 => h (i + 1) c d e1 e2
    have hab : a.1 ≤ b.1 := h 0 a b rfl rfl
    refine .cons (fun d hd => ?_) ih
    rcases List.mem_cons.mp hd with rfl | hd
    · exact hab
    · exact Int.le_trans hab ((List.pairwise_cons.mp ih).1 d hd)
theorem up_of {l : List Cal} (h : l.Pairwise fun c d => c.1 ≤ d.1) (i : Nat) (c d : Cal) (e1 : l[i]? = some c) (e2 : l[i + 1]? = some d) : c.1 ≤ d.1 := by
  obtain ⟨l1, b1⟩ := List.getElem?_eq_some_iff.mp e1
  obtain ⟨l2, b2⟩ := List.getElem?_eq_some_iff.mp e2
  rw [← b1, ← b2]
  exact List.pairwise_iff_getElem.mp h i (i + 1) l1 l2 (by omega)
/-- a call that may stand in a round of L hours -/
def Fit (L : Int) (c : Cal) : Prop := 0 ≤ c.1 ∧ c.1 < L ∧ nmS c.2.1 = true ∧ 1 ≤ c.2.2 ∧ c.2.2 ≤ 1000
theorem ok_mk {L : Int} {l : List Cal} (a : 1 ≤ L) (b : L ≤ 1000) (c : l.length ≤ 12) (d : ∀ x ∈ l, Fit L x) (e : l.Pairwise fun c d => c.1 ≤ d.1) : OkC L l := ⟨a, b, c, d, up_of e⟩
theorem OkC.pw {L : Int} {l : List Cal} (h : OkC L l) : l.Pairwise fun c d => c.1 ≤ d.1 := pw_of l h.up
theorem ok_more {L : Int} {l : List Cal} (h : OkC L l) (k : L < 1000) : OkC (L + 1) l := ⟨by have := h.l1; omega, by omega, h.len, fun c hc => by
  have := h.all c hc
  exact ⟨this.1, by omega, this.2.2⟩, h.up⟩
theorem ok_nil {L : Int} (a : 1 ≤ L) (b : L ≤ 1000) : OkC L [] := ok_mk a b (by decide) (fun x hx => by cases hx) .nil
theorem split_at {l : List Cal} {j : Nat} {x : Cal} (e : l[j]? = some x) : l = l.take j ++ x :: l.drop (j + 1) := by
  obtain ⟨lt, b⟩ := List.getElem?_eq_some_iff.mp e
  rw [← b, ← List.drop_eq_getElem_cons lt, List.take_append_drop]
theorem ok_del {L : Int} {l : List Cal} {j : Nat} {x : Cal} (h : OkC L l) (e : l[j]? = some x) : OkC L (l.take j ++ l.drop (j + 1)) := by
  have sp := split_at e
  have sub : (l.take j ++ l.drop (j + 1)).Sublist l := by
    conv => rhs; rw [sp]
    exact (List.Sublist.refl _).append (List.sublist_cons_self _ _)
  exact ok_mk h.l1 h.l2 (Nat.le_trans sub.length_le h.len) (fun c hc => h.all c (sub.subset hc)) (h.pw.sublist sub)
theorem ok_set {L : Int} {l : List Cal} {j : Nat} {x c : Cal} (h : OkC L l) (e : l[j]? = some x) (hc : Fit L c) (lo : ∀ y, 0 < j → l[j - 1]? = some y → y.1 ≤ c.1) (hi : ∀ y, l[j + 1]? = some y → c.1 ≤ y.1) : OkC L (l.take j ++ c :: l.drop (j + 1)) := by
  have sp := split_at e
  have pw := h.pw
  rw [sp] at pw
  obtain ⟨p1, p2, p3⟩ := List.pairwise_append.mp pw
  obtain ⟨p4, p5⟩ := List.pairwise_cons.mp p2
  have jl := (List.getElem?_eq_some_iff.mp e).1
  refine ok_mk h.l1 h.l2 ?_ (fun d hd => ?_) (List.pairwise_append.mpr ⟨p1, List.pairwise_cons.mpr ⟨fun d hd => ?_, p5⟩, fun a ha b hb => ?_⟩)
  · have := h.len
    simp only [List.length_append, List.length_take, List.length_cons, List.length_drop]
    omega
  · rcases List.mem_append.mp hd with hd | hd
    · exact h.all d (List.mem_of_mem_take hd)
    · rcases List.mem_cons.mp hd with rfl | hd
      · exact hc
      · exact h.all d (List.mem_of_mem_drop hd)
  · obtain ⟨k, hk, ek⟩ := List.getElem_of_mem hd
    have e1 : (l.drop (j + 1))[k]? = some d := by rw [List.getElem?_eq_getElem hk, ek]
    rw [List.getElem?_drop] at e1
    obtain ⟨y, hy⟩ : ∃ y, l[j + 1]? = some y := ⟨_, List.getElem?_eq_getElem (by have := (List.getElem?_eq_some_iff.mp e1).1; omega)⟩
    refine Int.le_trans (hi y hy) ?_
    by_cases k0 : k = 0
    · subst k0
      rw [Nat.add_zero] at e1
      rw [hy] at e1
      cases e1
      exact Int.le_refl _
    · obtain ⟨l1, b1⟩ := List.getElem?_eq_some_iff.mp hy
      obtain ⟨l2, b2⟩ := List.getElem?_eq_some_iff.mp e1
      rw [← b1, ← b2]
      exact List.pairwise_iff_getElem.mp h.pw (j + 1) (j + 1 + k) l1 l2 (by omega)
  · rcases List.mem_cons.mp hb with rfl | hb
    · obtain ⟨k, hk, ek⟩ := List.getElem_of_mem ha
      have hk2 := hk
      rw [List.length_take] at hk2
      have e1 : (l.take j)[k]? = some a := by rw [List.getElem?_eq_getElem hk, ek]
      rw [List.getElem?_take_of_lt (by omega)] at e1
      obtain ⟨y, hy⟩ : ∃ y, l[j - 1]? = some y := ⟨_, List.getElem?_eq_getElem (by omega)⟩
      refine Int.le_trans ?_ (lo y (by omega) hy)
      by_cases k0 : k = j - 1
      · rw [k0, hy] at e1
        cases e1
        exact Int.le_refl _
      · obtain ⟨l1, b1⟩ := List.getElem?_eq_some_iff.mp e1
        obtain ⟨l2, b2⟩ := List.getElem?_eq_some_iff.mp hy
        rw [← b1, ← b2]
        exact List.pairwise_iff_getElem.mp h.pw k (j - 1) l1 l2 (by omega)
    · exact p3 a ha b (List.mem_cons_of_mem _ hb)
theorem ok_swap {L : Int} {l : List Cal} {j : Nat} {a b : Cal} (h : OkC L l) (j0 : 0 < j) (e1 : l[j - 1]? = some a) (e2 : l[j]? = some b) (hab : a.1 = b.1) : OkC L (l.take (j - 1) ++ [b, a] ++ l.drop (j + 1)) := by
  have s1 := split_at e1
  have s2 : l.drop (j - 1 + 1) = b :: l.drop (j + 1) := by
    obtain ⟨lt, bb⟩ := List.getElem?_eq_some_iff.mp e2
    rw [← bb, ← List.drop_eq_getElem_cons lt, show j - 1 + 1 = j from by omega]
  rw [s2] at s1
  have pw := h.pw
  rw [s1] at pw
  obtain ⟨p1, p2, p3⟩ := List.pairwise_append.mp pw
  obtain ⟨p4, p5⟩ := List.pairwise_cons.mp p2
  obtain ⟨p6, p7⟩ := List.pairwise_cons.mp p5
  rw [List.append_assoc]
  refine ok_mk h.l1 h.l2 ?_ (fun d hd => h.all d ?_) (List.pairwise_append.mpr ⟨p1, List.pairwise_cons.mpr ⟨fun d hd => ?_, List.pairwise_cons.mpr ⟨fun d hd => ?_, p7⟩⟩, fun x hx y hy => ?_⟩)
  · have := h.len
    have e := congrArg List.length s1
    simp only [List.length_append, List.length_cons] at *
    simp only [List.length_nil]
    omega
  · rw [s1]
    simp only [List.mem_append, List.mem_cons, List.not_mem_nil, or_false] at *
    rcases hd with hd | (rfl | rfl) | hd
    · exact .inl hd
    · exact .inr (.inr (.inl rfl))
    · exact .inr (.inl rfl)
    · exact .inr (.inr (.inr hd))
  · rcases List.mem_cons.mp hd with rfl | hd
    · omega
    · exact p6 d hd
  · exact p4 d (List.mem_cons_of_mem _ hd)
  · refine p3 x hx y ?_
    simp only [List.mem_append, List.mem_cons, List.not_mem_nil, or_false] at *
    rcases hy with (rfl | rfl) | hd
    · exact .inr (.inl rfl)
    · exact .inl rfl
    · exact .inr (.inr hd)
theorem eqv_one (a b : Cal) : PyData.eqv (callD a) (callD b) = decide (a = b) := by
  have := eqv_call [a] [b]
  simpa [PyData.eqvAll] using this
theorem call_pd {L : Int} {l : List Cal} (ok : OkC L l) {c : Cal} (hc : c ∈ l) : (callT c).pd = some (callD c) ∧ (callD c).depth ≤ 64 := by
  obtain ⟨d, h⟩ := call_sw0 ok (callT c) (List.mem_map.mpr ⟨c, hc, rfl⟩)
  have e : (callT c).pd = some (callD c) := by simp [Dl.T.pd, Dl.T.pds, callT, callD]
  have e2 := h.is.pd
  rw [e] at e2
  cases e2
  exact ⟨e, Nat.le_trans h.is.s3 (by decide)⟩
end K

set_option maxRecDepth 100000
set_option maxHeartbeats 4000000
set_option synthInstance.maxSize 100000
set_option synthInstance.maxHeartbeats 4000000
namespace K
open PySem PySem.Spec PyProof.Rows L2 Gd
local macro_rules | `(tactic| walk_at "mulok") => `(tactic| first | exact Or.inr ⟨by decide, by decide⟩ | exact Or.inl ⟨by decide, by decide⟩ | exact Or.inr ⟨by omega, by omega⟩ | exact Or.inl ⟨by omega, by omega⟩)
local macro_rules | `(tactic| walk_at "st") => `(tactic| first
  | refine ⟨_, rfl, ?_⟩
  | refine ⟨_, _, rfl, rfl, (by walk_at "mulok"), ?_⟩
  | refine ⟨_, _, rfl, rfl, (by show (0 : Int) < _; decide), ?_⟩
  | refine ⟨_, _, rfl, rfl, ⟨by decide, by decide⟩, ?_⟩
  | refine ⟨_, _, rfl, rfl, ?_⟩)
local macro_rules | `(tactic| walk_at "st0") => `(tactic| simp only [List.map_cons, List.map_nil, List.append_nil, List.cons_append, List.nil_append, List.length_cons, List.length_nil, Nat.reduceSub, Nat.reduceAdd, Nat.sub_self, List.replicate])
local macro_rules | `(tactic| walk_at "rd") => `(tactic| dsimp only [Dl.rRaise, Dl.rEqOD, Dl.rNeOD, Dl.rInOD, Dl.inOD, Dl.rLend, Dl.rBorX, Dl.rLnO, Dl.rBoO, Dl.rStO, Dl.rFmt, Dl.rJn, Dl.rJc, Dl.rJs, Dl.dJoin, Dl.dRepL, Dl.rDispT, Dl.rBor, Dl.rMakeN, Dl.rMakeN0, Dl.rTold, Dl.rTypX, Dl.dTX, Dl.dEqTT, Dl.rDict, Dl.rPin, Dl.pinT, Dl.rWGet, Dl.rMethN, Dl.dRepS, Dl.unp_non, Dl.unp_bl, Dl.unp_int, Dl.unp_str, Dl.unp_wst, Dl.unp_ty, Dl.unp_lst, Dl.unp_tup, Dl.unp_cls, Dl.unp_obj, Dl.unp_far, Dl.unp_dct, Dl.unp_pin, Dl.rRet, Dl.rRetN, Dl.rIfS, Dl.rSeq, Dl.rNext, Dl.rDrop, Dl.rAsg, Dl.rName, Dl.rPar, Dl.rPar3, Dl.rAndV, Dl.rOrV, Dl.rNotV, Dl.dIsi, Dl.dDivmod, Dl.mput, Dl.rUn, Dl.rGset, Dl.rFrz, Dl.rAnd, Dl.rOr, Dl.rNot, Dl.rTest, Dl.rTru, Dl.rIf, Dl.rOp, Dl.rOpL, Dl.rCB, Dl.rCBL, Dl.rCons, Dl.rNil, Dl.rVar, Dl.rC, Dl.rStr, Dl.d1, Dl.fTyp, Dl.fLenS, Dl.fLenQ, Dl.fAll, Dl.fSum, Dl.fRepr, Dl.fTupOf, Dl.dTy, Dl.nb, Dl.dInT, Dl.dIn, Dl.dN, Dl.dEq, Dl.dEqD, Dl.dI0, Dl.dIC, Dl.dCat, Dl.dCatL, Dl.dCatS, Dl.dCatT, Dl.dIxL, Dl.dIxT, Dl.dIxS, Dl.rChain, Dl.rChain3, Dl.rTup, Dl.rLst, Dl.rFroz, Dl.rKeep, Dl.rFld, Dl.rBM, Dl.dAppend, Dl.dReverse, Dl.dClear, Dl.dExtend, Dl.rCK, Dl.fMinD, Dl.rCall, Dl.rCall0, Dl.rMeth, Dl.rMeth0, Dl.rMethN0, Dl.rMake, Dl.rMake0, Dl.rSetF, Dl.rGtup, Dl.rGlst, Dl.dIsB, Dl.rGcons, Dl.rGnil, Dl.rIlst, Dl.rItup, Dl.rIenum, Dl.rIenumT, Dl.rIzip, Dl.rIzip3, Dl.rSlcL, Dl.rSlcT, Dl.rSlcS, Dl.rNoPart, Dl.rPart, Dl.dSS, Dl.dII, Dl.dListOf, Dl.dSortI, Dl.rtD, Dl.rtL, List.map_cons, List.map_nil, List.length_cons, List.length_nil, List.cons_append, List.nil_append, List.append_nil, List.replicate, Nat.reduceSub, Nat.reduceAdd, Nat.sub_self, Nat.sub_zero, List.getElem?_cons_zero, List.getElem?_cons_succ, List.set_cons_zero, List.set_cons_succ, List.take_succ_cons, List.take_zero, List.take_nil, Dl.view, Dl.T.tyn, Dl.T.tyx, Dl.T.isN, Dl.T.sc, Dl.T.flat, Dl.flats])
local macro_rules | `(tactic| walk_at "rs") => `(tactic| dsimp only [Dl.rRaise, Dl.rEqOD, Dl.rNeOD, Dl.rInOD, Dl.inOD, Dl.rLend, Dl.rBorX, Dl.rLnO, Dl.rBoO, Dl.rStO, Dl.rFmt, Dl.rJn, Dl.rJc, Dl.rJs, Dl.dJoin, Dl.dRepL, Dl.rDispT, Dl.rBor, Dl.rMakeN, Dl.rMakeN0, Dl.rTold, Dl.rTypX, Dl.dTX, Dl.dEqTT, Dl.rDict, Dl.rPin, Dl.pinT, Dl.rWGet, Dl.rMethN, Dl.dRepS, Dl.unp_non, Dl.unp_bl, Dl.unp_int, Dl.unp_str, Dl.unp_wst, Dl.unp_ty, Dl.unp_lst, Dl.unp_tup, Dl.unp_cls, Dl.unp_obj, Dl.unp_far, Dl.unp_dct, Dl.unp_pin, Dl.rRet, Dl.rRetN, Dl.rIfS, Dl.rNext, Dl.rDrop, Dl.rAsg, Dl.rName, Dl.rPar, Dl.rPar3, Dl.rAndV, Dl.rOrV, Dl.rNotV, Dl.dIsi, Dl.dDivmod, Dl.mput, Dl.rUn, Dl.rGset, Dl.rFrz, Dl.rAnd, Dl.rOr, Dl.rNot, Dl.rTest, Dl.rTru, Dl.rIf, Dl.rOp, Dl.rOpL, Dl.rCB, Dl.rCBL, Dl.rCons, Dl.rNil, Dl.rVar, Dl.rC, Dl.rStr, Dl.d1, Dl.fTyp, Dl.fLenS, Dl.fLenQ, Dl.fAll, Dl.fSum, Dl.fRepr, Dl.fTupOf, Dl.dTy, Dl.nb, Dl.dInT, Dl.dIn, Dl.dN, Dl.dEq, Dl.dEqD, Dl.dI0, Dl.dIC, Dl.dCat, Dl.dCatL, Dl.dCatS, Dl.dCatT, Dl.dIxL, Dl.dIxT, Dl.dIxS, Dl.rChain, Dl.rChain3, Dl.rTup, Dl.rLst, Dl.rFroz, Dl.rKeep, Dl.rFld, Dl.rBM, Dl.dAppend, Dl.dReverse, Dl.dClear, Dl.dExtend, Dl.rCK, Dl.fMinD, Dl.rCall, Dl.rCall0, Dl.rMeth, Dl.rMeth0, Dl.rMethN0, Dl.rMake, Dl.rMake0, Dl.rSetF, Dl.rGtup, Dl.rGlst, Dl.dIsB, Dl.rGcons, Dl.rGnil, Dl.rIlst, Dl.rItup, Dl.rIenum, Dl.rIenumT, Dl.rIzip, Dl.rIzip3, Dl.rSlcL, Dl.rSlcT, Dl.rSlcS, Dl.rNoPart, Dl.rPart, Dl.dSS, Dl.dII, Dl.dListOf, Dl.dSortI, Dl.rtD, Dl.rtL, List.map_cons, List.map_nil, List.length_cons, List.length_nil, List.cons_append, List.nil_append, List.append_nil, List.replicate, Nat.reduceSub, Nat.reduceAdd, Nat.sub_self, Nat.sub_zero, List.getElem?_cons_zero, List.getElem?_cons_succ, List.set_cons_zero, List.set_cons_succ, List.take_succ_cons, List.take_zero, List.take_nil, Dl.view, Dl.T.tyn, Dl.T.tyx, Dl.T.isN, Dl.T.sc, Dl.T.flat, Dl.flats])
open Dl Rm
def dOther : DSpec := fun ts μ Φ _ => ∃ (n : Nat) (zs : List PySem.Str) (L : Int) (l : List Cal), ts = [.rs 0, .lst (zs.map .str), plnT L l] ∧ μ = [.drw nxt (n + 3)] ∧ zs.length = 6 ∧ (∀ z ∈ zs, nmS z = true) ∧ (∀ z ∈ zs.take 4, zs[4]? ≠ some z) ∧ (∀ c ∈ l, c.2.1 ∈ zs.take 4) ∧ OkC L l ∧
  ∀ (L2 : Int) (l2 : List Cal) (m : Nat), OkC L2 l2 → ¬ (L = L2 ∧ l = l2) → n ≤ m → Φ (plnT L2 l2) [.drw nxt m]
section
variable {P : Program} {w : World} {K : PySem.W.Frag} {mg : PySem.Str → Option Value} {base : Heap}
theorem ok_law_otherwise (T : Txt mg K w.params) : FnOk P w K mg base CX0 3 T.f_law_otherwise T.fd_law_otherwise ["m", "w", "plain"] (liftSp K 3 dOther) := by
  refine FunD.ok0 T.F_law_otherwise sc_law_otherwise lift_len (fun cdv A outer s H vs Q E hr h => ⟨_, pss_cons (ps_asg (pv 2) (pgTK (K := K) rfl (n := 2) (by rfl) (pgs_cons (pg_name (i := 3) sc_law_otherwise.nd rfl (.inl rfl)) (pgs_cons (pg_name (i := 4) sc_law_otherwise.nd rfl (.inl rfl)) (pgs_nil)))))
 (pss_cons (ps_set (i := 5) sc_law_otherwise.nd rfl (.inl rfl) (pe_callX (ok_law_draw T) (hr.mono (by decide)) (by rfl) T.g_law_draw T.F_law_draw.kp (b_law_draw_2 T) pass0 (pa_cons (pv 0) (pa_cons (pe_int) pa_nil))))
 (pss_cons (ps_if (PW.pt (pw_or (pt_cmpR (eqDK (K := K) rfl hr.units) (pv 4) (pe_tup (pa_nil)) (by first | rfl | exact nomark _)) (pw_or1 (PW.pt (pw_and (pt_cmpR op_eq (pv 5) (pe_int) (by first | rfl | exact nomark _)) (pw_and1 (pt_cmpR op_lt (pv 3) (pe_int) (by first | rfl | exact nomark _)))))))) (pss_one (ps_ret (pe_ifExp (pt_cmpR op_lt (pv 3) (pe_int) (by first | rfl | exact nomark _)) (pe_tup (pa_cons (pe_op op_add (pv 3) (pe_int)) (pa_cons (pv 4) pa_nil))) (pe_tup (pa_cons (pe_int) (pa_cons (pv 4) pa_nil)))))) (pss_nil))
 (pss_cons (ps_set (i := 6) sc_law_otherwise.nd rfl (.inl rfl) (pe_callX (ok_law_draw T) (hr.mono (by decide)) (by rfl) T.g_law_draw T.F_law_draw.kp (b_law_draw_2 T) pass0 (pa_cons (pv 0) (pa_cons (pe_callB (lenK (K := K) rfl) (by rfl) T.n_len (by decide +kernel) (pa_cons (pv 4) pa_nil)) pa_nil))))
 (pss_cons (ps_asg (pe_ix (ixtK (K := K) rfl) (pv 4) (pv 6) (fun _ _ => rfl)) (pgTK (K := K) rfl (n := 3) (by rfl) (pgs_cons (pg_name (i := 7) sc_law_otherwise.nd rfl (.inl rfl)) (pgs_cons (pg_name (i := 8) sc_law_otherwise.nd rfl (.inl rfl)) (pgs_cons (pg_name (i := 9) sc_law_otherwise.nd rfl (.inl rfl)) (pgs_nil))))))
 (pss_cons (ps_if (PW.pt (pw_and (pt_cmpR op_eq (pv 5) (pe_int) (by first | rfl | exact nomark _)) (pw_and (pt_cmpR op_gt (pv 6) (pe_int) (by first | rfl | exact nomark _)) (pw_and (pt_cmpR op_eq (pe_ix (ixtK (K := K) rfl) (pe_ix (ixtK (K := K) rfl) (pv 4) (pe_op op_sub (pv 6) (pe_int)) (fun _ _ => rfl)) (pe_int) (fun _ _ => rfl)) (pv 7) (by first | rfl | exact nomark _)) (pw_and1 (pt_cmpR (neDK (K := K) rfl hr.units) (pe_ix (ixtK (K := K) rfl) (pv 4) (pe_op op_sub (pv 6) (pe_int)) (fun _ _ => rfl)) (pe_ix (ixtK (K := K) rfl) (pv 4) (pv 6) (fun _ _ => rfl)) (by first | rfl | exact nomark _))))))) (pss_one (ps_ret (pe_tup (pa_cons (pv 3) (pa_cons (pe_op (catAK (K := K) rfl) (pe_op (catAK (K := K) rfl) (pe_slice (slAK (K := K) rfl) (pv 4) po_none (po_some (pe_op op_sub (pv 6) (pe_int)))) (pe_tup (pa_cons (pe_ix (ixtK (K := K) rfl) (pv 4) (pv 6) (fun _ _ => rfl)) (pa_cons (pe_ix (ixtK (K := K) rfl) (pv 4) (pe_op op_sub (pv 6) (pe_int)) (fun _ _ => rfl)) pa_nil)))) (pe_slice (slAK (K := K) rfl) (pv 4) (po_some (pe_op op_add (pv 6) (pe_int))) po_none)) pa_nil))))) (pss_nil))
 (pss_cons (ps_set (i := 10) sc_law_otherwise.nd rfl (.inl rfl) (pe_lst (pa_cons (pe_tup (pa_cons (pv 7) (pa_cons (pe_ix (ixlK (K := K) rfl) (pv 1) (pe_int) (fun _ _ => rfl)) (pa_cons (pv 9) pa_nil)))) (pa_cons (pe_tup (pa_cons (pv 7) (pa_cons (pv 8) (pa_cons (pe_op op_add (pe_op op_mod (pv 9) (pe_int)) (pe_int)) pa_nil)))) (pa_cons (pe_tup (pa_cons (pe_op op_add (pv 7) (pe_int)) (pa_cons (pv 8) (pa_cons (pv 9) pa_nil)))) (pa_cons (pe_tup (pa_cons (pe_op op_sub (pv 7) (pe_int)) (pa_cons (pv 8) (pa_cons (pv 9) pa_nil)))) pa_nil))))))
 (pss_cons (ps_set (i := 11) sc_law_otherwise.nd rfl (.inl rfl) (pe_ix (ixlK (K := K) rfl) (pv 10) (pe_callX (ok_law_draw T) (hr.mono (by decide)) (by rfl) T.g_law_draw T.F_law_draw.kp (b_law_draw_2 T) pass0 (pa_cons (pv 0) (pa_cons (pe_int) pa_nil))) (fun _ _ => rfl)))
 (pss_cons (ps_set (i := 12) sc_law_otherwise.nd rfl (.inl rfl) (pe_ifExp (pt_cmpR op_gt (pv 6) (pe_int) (by first | rfl | exact nomark _)) (pe_ix (ixtK (K := K) rfl) (pe_ix (ixtK (K := K) rfl) (pv 4) (pe_op op_sub (pv 6) (pe_int)) (fun _ _ => rfl)) (pe_int) (fun _ _ => rfl)) (pe_int)))
 (pss_cons (ps_set (i := 13) sc_law_otherwise.nd rfl (.inl rfl) (pe_ifExp (pt_cmpR op_lt (pe_op op_add (pv 6) (pe_int)) (pe_callB (lenK (K := K) rfl) (by rfl) T.n_len (by decide +kernel) (pa_cons (pv 4) pa_nil)) (by first | rfl | exact nomark _)) (pe_ix (ixtK (K := K) rfl) (pe_ix (ixtK (K := K) rfl) (pv 4) (pe_op op_add (pv 6) (pe_int)) (fun _ _ => rfl)) (pe_int) (fun _ _ => rfl)) (pe_op op_sub (pv 3) (pe_int))))
 (pss_cons (ps_if (PW.pt (pw_and (pt_cmpR op_gt (pv 5) (pe_int) (by first | rfl | exact nomark _)) (pw_and1 (pt_chain op_le op_le (pv 12) (pe_ix (ixtK (K := K) rfl) (pv 11) (pe_int) (fun _ _ => rfl)) (pv 13))))) (pss_one (ps_ret (pe_tup (pa_cons (pv 3) (pa_cons (pe_op (catAK (K := K) rfl) (pe_op (catAK (K := K) rfl) (pe_slice (slAK (K := K) rfl) (pv 4) po_none (po_some (pv 6))) (pe_tup (pa_cons (pv 11) pa_nil))) (pe_slice (slAK (K := K) rfl) (pv 4) (po_some (pe_op op_add (pv 6) (pe_int))) po_none)) pa_nil))))) (pss_nil))
 (pss_one (ps_ret (pe_tup (pa_cons (pv 3) (pa_cons (pe_op (catAK (K := K) rfl) (pe_slice (slAK (K := K) rfl) (pv 4) po_none (po_some (pv 6))) (pe_slice (slAK (K := K) rfl) (pv 4) (po_some (pe_op op_add (pv 6) (pe_int))) po_none)) pa_nil))))))))))))))), body_sim h ?_⟩)
  rintro ts μ Φ xw hl ⟨n, zs, L, l, rfl, rfl, zl, zn, z4, ln, ok, q⟩
  have L1 := ok.l1
  have L2 := ok.l2
  have l12 := ok.len
  walk_at "st0"
  refine rSeq_go ?_
  unfold plnT callsT
  walk_at "rs"
  refine ⟨rfl, ?_⟩
  refine rSeq_go ?_
  walk_at "rs"
  refine ⟨rfl, drawR rfl (by omega) (by decide) (by decide) fun way w0 w1 => ?_⟩
  refine rSeq_cut (fun ρ μ => 0 < l.length ∧ ρ = [some (.rs 0), some (.lst (zs.map .str)), some (.tup [.int L, .tup (l.map callT)]), some (.int L), some (.tup (l.map callT)), some (.int way), none, none, none, none, none, none, none, none] ∧ μ = [.drw nxt (n + 2)]) (fun N hN => ?_) ?_
  · walk_at "rs"
    refine ⟨rfl, by decide, _, _, (calls_pdT ok).1, rfl, (calls_pdT ok).2, by decide, ?_⟩
    have en : PyData.eqv (.tuple (l.map callD)) (.tuple []) = decide (l = []) := eqv_callT l []
    refine iteE en ?_
    by_cases l0 : l = []
    · subst l0
      refine iteT' (by simp) (iteT' rfl ?_)
      by_cases L10 : L < 1000
      · refine iteT' (by simp [L10]) ⟨rfl, by decide, ?_⟩
        exact q (L + 1) [] _ (ok_more ok L10) (fun h => by omega) (by omega)
      · refine iteF' (by simp [L10]) ⟨rfl, by decide, ?_⟩
        exact q 999 [] _ (ok_nil (by decide) (by decide)) (fun h => by omega) (by omega)
    · have lp : 0 < l.length := List.length_pos_iff.mpr l0
      refine iteF' (by simp [l0]) ?_
      by_cases h0 : way = 0
      · refine iteT' (by simp [h0]) ?_
        by_cases L10 : L < 1000
        · refine iteT' (by simp [L10]) (iteT' (by simp [L10]) ⟨rfl, by decide, ?_⟩)
          exact q (L + 1) l _ (ok_more ok L10) (fun h => by omega) (by omega)
        · exact iteF' (by simp [L10]) (hN _ _ ⟨lp, rfl, rfl⟩)
      · exact iteF' (by simp [h0]) (iteF' rfl (hN _ _ ⟨lp, rfl, rfl⟩))
  rintro ρ μ ⟨lp, rfl, rfl⟩
  refine rSeq_go ?_
  walk_at "rs"
  rw [List.length_map]
  refine ⟨rfl, drawR rfl (by omega) (by omega) (by omega) fun jj j0 j1 => ?_⟩
  obtain ⟨j, rfl⟩ : ∃ j : Nat, jj = j := ⟨jj.toNat, by omega⟩
  have jl : j < l.length := by omega
  obtain ⟨x, ex⟩ : ∃ x, l[j]? = some x := ⟨_, List.getElem?_eq_getElem jl⟩
  have xm := List.mem_of_getElem? ex
  obtain ⟨x1, x2, x3, x4, x5⟩ := ok.all x xm
  have ax : ∀ i : Nat, ∀ y, l[i]? = some y → atI (l.map callT) (i : Int) = some (.tup [.int y.1, .str y.2.1, .int y.2.2]) := fun i y e => by
    refine Dl.atI_nat ?_
    rw [List.getElem?_map, e]
    rfl
  refine rSeq_go ?_
  walk_at "rs"
  refine ⟨_, _, rfl, ax j x ex, ?_⟩
  walk_at "rs"
  refine ⟨rfl, ?_⟩
  refine rSeq_cut (fun ρ μ => ρ = [some (.rs 0), some (.lst (zs.map .str)), some (.tup [.int L, .tup (l.map callT)]), some (.int L), some (.tup (l.map callT)), some (.int way), some (.int j), some (.int x.1), some (.str x.2.1), some (.int x.2.2), none, none, none, none] ∧ μ = [.drw nxt (n + 1)]) (fun N hN => ?_) ?_
  · walk_at "rs"
    have no : N [some (.rs 0), some (.lst (zs.map .str)), some (.tup [.int L, .tup (l.map callT)]), some (.int L), some (.tup (l.map callT)), some (.int way), some (.int j), some (.int x.1), some (.str x.2.1), some (.int x.2.2), none, none, none, none] [.drw nxt (n + 1)] := hN _ _ ⟨rfl, rfl⟩
    by_cases h1 : way = 1
    · refine iteT' (by simp [h1]) ?_
      by_cases hj : 0 < j
      · refine iteT' (by simp; omega) ?_
        obtain ⟨y, ey⟩ : ∃ y, l[j - 1]? = some y := ⟨_, List.getElem?_eq_getElem (by omega)⟩
        have ym := List.mem_of_getElem? ey
        have ay := ax (j - 1) y ey
        have ej : (j : Int) - 1 = ((j - 1 : Nat) : Int) := by omega
        rw [ej]
        refine ⟨_, _, rfl, ay, _, _, rfl, rfl, ?_⟩
        show if decide (y.1 = x.1) = true then _ else _
        by_cases h2 : y.1 = x.1
        · refine iteT' (by simp [h2]) ⟨_, _, rfl, ay, _, _, rfl, ax j x ex, callD y, callD x, (call_pd ok ym).1, (call_pd ok xm).1, (call_pd ok ym).2, (call_pd ok xm).2, ?_⟩
          rw [eqv_one]
          by_cases h3 : y = x
          · exact iteF' (by simp [h3]) no
          · refine iteT' (by simp [h3]) ?_
            have c1 : cutT (l.map callT) none (some ((j - 1 : Nat) : Int)) = (l.take (j - 1)).map callT := by
              rw [cut_to (by rw [List.length_map]; omega), List.map_take]
            have c2 : cutT (l.map callT) (some ((j : Int) + 1)) none = (l.drop (j + 1)).map callT := by
              rw [show (j : Int) + 1 = ((j + 1 : Nat) : Int) from by omega, cut_from (by rw [List.length_map]; omega), List.map_drop]
            refine ⟨_, rfl, _, _, rfl, ax j x ex, _, _, rfl, ay, rfl, by decide, _, _, rfl, rfl, ?_, _, rfl, _, _, rfl, rfl, ?_, rfl, by decide, ?_⟩
            · rw [c1, List.length_map, List.length_take]
              simp only [List.length_cons, List.length_nil]
              omega
            · rw [c1, c2]
              simp only [List.length_append, List.length_map, List.length_take, List.length_drop, List.length_cons, List.length_nil]
              omega
            rw [c1, c2]
            have em : (l.take (j - 1)).map callT ++ [Dl.T.tup [.int x.1, .str x.2.1, .int x.2.2], .tup [.int y.1, .str y.2.1, .int y.2.2]] ++ (l.drop (j + 1)).map callT = (l.take (j - 1) ++ [x, y] ++ l.drop (j + 1)).map callT := by
              simp only [List.map_append]
              rfl
            rw [em]
            refine q L _ _ (ok_swap ok hj ey ex h2) (fun h => h3 ?_) (by omega)
            have e9 : (l.take (j - 1) ++ [x, y] ++ l.drop (j + 1))[j - 1]? = some x := by
              rw [List.append_assoc, List.getElem?_append_right (by rw [List.length_take]; omega), List.length_take, show j - 1 - min (j - 1) l.length = 0 from by omega]
              rfl
            rw [← h.2, ey] at e9
            exact Option.some.inj e9
        · exact iteF' (by simp [h2]) (iteF' rfl no)
      · exact iteF' (by simp; omega) (iteF' rfl no)
    · exact iteF' (by simp [h1]) (iteF' rfl no)
  rintro ρ μ ⟨rfl, rfl⟩
  refine rSeq_go ?_
  walk_at "rs"
  obtain ⟨z4', e4⟩ : ∃ z, zs[4]? = some z := ⟨_, List.getElem?_eq_getElem (by omega)⟩
  have e4m := List.mem_of_getElem? e4
  refine ⟨_, .str z4', rfl, (Dl.atI_nat (j := 4) (by rw [List.getElem?_map, e4]; rfl)), rfl, by decide, by decide, rfl, by decide, rfl, by decide, rfl, by decide, rfl, by decide, ?_⟩
  refine rSeq_go ?_
  walk_at "rs"
  refine ⟨rfl, drawR rfl (by omega) (by decide) (by decide) fun v v0 v1 => ?_⟩
  obtain ⟨c, hc, _, ac⟩ := at_in (l := [(x.1, z4', x.2.2), (x.1, x.2.1, x.2.2 % 1000 + 1), (x.1 + 1, x.2.1, x.2.2), (x.1 - 1, x.2.1, x.2.2)]) (i := v) v0 v1
  have ac2 : atI (([(x.1, z4', x.2.2), (x.1, x.2.1, x.2.2 % 1000 + 1), (x.1 + 1, x.2.1, x.2.2), (x.1 - 1, x.2.1, x.2.2)] : List Cal).map callT) v = some (callT c) := by
    refine atI_int v0 ?_
    rw [List.getElem?_map, ‹_[v.toNat]? = some c›]
    rfl
  refine ⟨_, .tup [.int c.1, .str c.2.1, .int c.2.2], rfl, ac2, ?_⟩
  have cx : c ≠ x ∧ nmS c.2.1 = true ∧ 1 ≤ c.2.2 ∧ c.2.2 ≤ 1000 := by
    have nz : z4' ≠ x.2.1 := fun h => z4 x.2.1 (ln x xm) (by rw [e4, h])
    simp only [List.mem_cons, List.not_mem_nil, or_false] at hc
    rcases hc with rfl | rfl | rfl | rfl
    · exact ⟨fun h => nz (congrArg (fun p => p.2.1) h), zn _ e4m, x4, x5⟩
    · refine ⟨fun h => ?_, x3, by show 1 ≤ x.2.2 % 1000 + 1; omega, by show x.2.2 % 1000 + 1 ≤ 1000; omega⟩
      have : x.2.2 % 1000 + 1 = x.2.2 := congrArg (fun p => p.2.2) h
      omega
    · refine ⟨fun h => ?_, x3, x4, x5⟩
      have : x.1 + 1 = x.1 := congrArg (fun p => p.1) h
      omega
    · refine ⟨fun h => ?_, x3, x4, x5⟩
      have : x.1 - 1 = x.1 := congrArg (fun p => p.1) h
      omega
  obtain ⟨cx, cn, ch1, ch2⟩ := cx
  generalize hS : Dl.T.lst [Dl.T.tup [Dl.T.int x.1, Dl.T.str z4', Dl.T.int x.2.2], _, _, _] = S
  refine rSeq_cut (fun ρ μ => ∃ lo : Int, 0 ≤ lo ∧ (∀ y, 0 < j → l[j - 1]? = some y → y.1 = lo) ∧ ρ = [some (.rs 0), some (.lst (zs.map .str)), some (.tup [.int L, .tup (l.map callT)]), some (.int L), some (.tup (l.map callT)), some (.int way), some (.int j), some (.int x.1), some (.str x.2.1), some (.int x.2.2), some S, some (.tup [.int c.1, .str c.2.1, .int c.2.2]), some (.int lo), none] ∧ μ = [.drw nxt n]) (fun N hN => ?_) ?_
  · walk_at "rs"
    by_cases hj : 0 < j
    · refine iteT' (by simp; omega) ?_
      obtain ⟨y, ey⟩ : ∃ y, l[j - 1]? = some y := ⟨_, List.getElem?_eq_getElem (by omega)⟩
      have ym := List.mem_of_getElem? ey
      have ay := ax (j - 1) y ey
      have ej : (j : Int) - 1 = ((j - 1 : Nat) : Int) := by omega
      rw [ej]
      refine ⟨_, _, rfl, ay, _, _, rfl, rfl, hN _ _ ⟨y.1, (ok.all y ym).1, fun y2 _ e2 => ?_, rfl, rfl⟩⟩
      rw [ey] at e2
      cases e2
      rfl
    · exact iteF' (by simp; omega) (hN _ _ ⟨0, by decide, fun y h => absurd h hj, rfl, rfl⟩)
  rintro ρ μ ⟨lo, lo0, hlo, rfl, rfl⟩
  refine rSeq_cut (fun ρ μ => ∃ hi : Int, hi ≤ L - 1 ∧ (∀ y, l[j + 1]? = some y → y.1 = hi) ∧ ρ = [some (.rs 0), some (.lst (zs.map .str)), some (.tup [.int L, .tup (l.map callT)]), some (.int L), some (.tup (l.map callT)), some (.int way), some (.int j), some (.int x.1), some (.str x.2.1), some (.int x.2.2), some S, some (.tup [.int c.1, .str c.2.1, .int c.2.2]), some (.int lo), some (.int hi)] ∧ μ = [.drw nxt n]) (fun N hN => ?_) ?_
  · walk_at "rs"
    rw [List.length_map]
    by_cases hj : j + 1 < l.length
    · refine iteT' (by simp; omega) ?_
      obtain ⟨y, ey⟩ : ∃ y, l[j + 1]? = some y := ⟨_, List.getElem?_eq_getElem (by omega)⟩
      have ym := List.mem_of_getElem? ey
      have ay := ax (j + 1) y ey
      have ej : (j : Int) + 1 = ((j + 1 : Nat) : Int) := by omega
      rw [ej]
      have := (ok.all y ym).2.1
      refine ⟨_, _, rfl, ay, _, _, rfl, rfl, hN _ _ ⟨y.1, by omega, fun y2 e2 => ?_, rfl, rfl⟩⟩
      rw [ey] at e2
      cases e2
      rfl
    · refine iteF' (by simp; omega) (hN _ _ ⟨L - 1, by omega, fun y e => ?_, rfl, rfl⟩)
      exact absurd (List.getElem?_eq_some_iff.mp e).1 hj
  rintro ρ μ ⟨hi, hi0, hhi, rfl, rfl⟩
  have c1 : cutT (l.map callT) none (some (j : Int)) = (l.take j).map callT := by
    rw [cut_to (by rw [List.length_map]; omega), List.map_take]
  have c2 : cutT (l.map callT) (some ((j : Int) + 1)) none = (l.drop (j + 1)).map callT := by
    rw [show (j : Int) + 1 = ((j + 1 : Nat) : Int) from by omega, cut_from (by rw [List.length_map]; omega), List.map_drop]
  refine rSeq_cut (fun ρ μ => ρ = [some (.rs 0), some (.lst (zs.map .str)), some (.tup [.int L, .tup (l.map callT)]), some (.int L), some (.tup (l.map callT)), some (.int way), some (.int j), some (.int x.1), some (.str x.2.1), some (.int x.2.2), some S, some (.tup [.int c.1, .str c.2.1, .int c.2.2]), some (.int lo), some (.int hi)] ∧ μ = [.drw nxt n]) (fun N hN => ?_) ?_
  · walk_at "rs"
    by_cases h1 : 1 < way
    · refine iteT' (by simp [h1]) ⟨_, _, rfl, rfl, ?_⟩
      show if decide (lo ≤ c.1) = true then _ else _
      by_cases h2 : lo ≤ c.1
      · refine iteT' (by simp [h2]) ?_
        show if decide (c.1 ≤ hi) = true then _ else _
        by_cases h3 : c.1 ≤ hi
        · refine iteT' (by simp [h3]) ⟨_, rfl, rfl, by decide, _, _, rfl, rfl, ?_, _, rfl, _, _, rfl, rfl, ?_, rfl, by decide, ?_⟩
          · rw [c1, List.length_map, List.length_take]
            simp only [List.length_cons, List.length_nil]
            omega
          · rw [c1, c2]
            simp only [List.length_append, List.length_map, List.length_take, List.length_drop, List.length_cons, List.length_nil]
            omega
          rw [c1, c2]
          have em : (l.take j).map callT ++ [Dl.T.tup [.int c.1, .str c.2.1, .int c.2.2]] ++ (l.drop (j + 1)).map callT = (l.take j ++ c :: l.drop (j + 1)).map callT := by
            rw [List.append_assoc, List.map_append]
            rfl
          rw [em]
          refine q L _ _ (ok_set ok ex ⟨by omega, by omega, cn, ch1, ch2⟩ (fun y hj ey => ?_) (fun y ey => ?_)) (fun h => cx ?_) (by omega)
          · rw [hlo y hj ey]
            exact h2
          · rw [hhi y ey]
            exact h3
          · have e9 : (l.take j ++ c :: l.drop (j + 1))[j]? = some c := by
              rw [List.getElem?_append_right (by rw [List.length_take]; omega), List.length_take, show j - min j l.length = 0 from by omega]
              rfl
            rw [← h.2, ex] at e9
            exact (Option.some.inj e9).symm
        · exact iteF' (by simp [h3]) (hN _ _ ⟨rfl, rfl⟩)
      · exact iteF' (by simp [h2]) (iteF' rfl (hN _ _ ⟨rfl, rfl⟩))
    · exact iteF' (by simp [h1]) (iteF' rfl (hN _ _ ⟨rfl, rfl⟩))
  rintro ρ μ ⟨rfl, rfl⟩
  walk_at "rs"
  refine ⟨_, rfl, _, rfl, _, _, rfl, rfl, ?_, rfl, by decide, ?_⟩
  · rw [c1, c2]
    simp only [List.length_map, List.length_take, List.length_drop]
    omega
  rw [c1, c2, ← List.map_append]
  refine q L _ _ (ok_del ok ex) (fun h => ?_) (by omega)
  have e9 := congrArg List.length h.2
  simp only [List.length_append, List.length_take, List.length_drop] at e9
  omega
end
end K

set_option maxRecDepth 100000
set_option maxHeartbeats 4000000
set_option synthInstance.maxSize 100000
set_option synthInstance.maxHeartbeats 4000000
namespace K
open PySem PySem.Spec PyProof.Rows L2 Gd
local macro_rules | `(tactic| walk_at "mulok") => `(tactic| first | exact Or.inr ⟨by decide, by decide⟩ | exact Or.inl ⟨by decide, by decide⟩ | exact Or.inr ⟨by omega, by omega⟩ | exact Or.inl ⟨by omega, by omega⟩)
local macro_rules | `(tactic| walk_at "st") => `(tactic| first
  | refine ⟨_, rfl, ?_⟩
  | refine ⟨_, _, rfl, rfl, (by walk_at "mulok"), ?_⟩
  | refine ⟨_, _, rfl, rfl, (by show (0 : Int) < _; decide), ?_⟩
  | refine ⟨_, _, rfl, rfl, ⟨by decide, by decide⟩, ?_⟩
  | refine ⟨_, _, rfl, rfl, ?_⟩)
local macro_rules | `(tactic| walk_at "st0") => `(tactic| simp only [List.map_cons, List.map_nil, List.append_nil, List.cons_append, List.nil_append, List.length_cons, List.length_nil, Nat.reduceSub, Nat.reduceAdd, Nat.sub_self, List.replicate])
local macro_rules | `(tactic| walk_at "rd") => `(tactic| dsimp only [Dl.rRaise, Dl.rEqOD, Dl.rNeOD, Dl.rInOD, Dl.inOD, Dl.rLend, Dl.rBorX, Dl.rLnO, Dl.rBoO, Dl.rStO, Dl.rFmt, Dl.rJn, Dl.rJc, Dl.rJs, Dl.dJoin, Dl.dRepL, Dl.rDispT, Dl.rBor, Dl.rMakeN, Dl.rMakeN0, Dl.rTold, Dl.rTypX, Dl.dTX, Dl.dEqTT, Dl.rDict, Dl.rPin, Dl.pinT, Dl.rWGet, Dl.rMethN, Dl.dRepS, Dl.unp_non, Dl.unp_bl, Dl.unp_int, Dl.unp_str, Dl.unp_wst, Dl.unp_ty, Dl.unp_lst, Dl.unp_tup, Dl.unp_cls, Dl.unp_obj, Dl.unp_far, Dl.unp_dct, Dl.unp_pin, Dl.rRet, Dl.rRetN, Dl.rIfS, Dl.rSeq, Dl.rNext, Dl.rDrop, Dl.rAsg, Dl.rName, Dl.rPar, Dl.rPar3, Dl.rAndV, Dl.rOrV, Dl.rNotV, Dl.dIsi, Dl.dDivmod, Dl.mput, Dl.rUn, Dl.rGset, Dl.rFrz, Dl.rAnd, Dl.rOr, Dl.rNot, Dl.rTest, Dl.rTru, Dl.rIf, Dl.rOp, Dl.rOpL, Dl.rCB, Dl.rCBL, Dl.rCons, Dl.rNil, Dl.rVar, Dl.rC, Dl.rStr, Dl.d1, Dl.fTyp, Dl.fLenS, Dl.fLenQ, Dl.fAll, Dl.fSum, Dl.fRepr, Dl.fTupOf, Dl.dTy, Dl.nb, Dl.dInT, Dl.dIn, Dl.dN, Dl.dEq, Dl.dEqD, Dl.dI0, Dl.dIC, Dl.dCat, Dl.dCatL, Dl.dCatS, Dl.dCatT, Dl.dIxL, Dl.dIxT, Dl.dIxS, Dl.rChain, Dl.rChain3, Dl.rTup, Dl.rLst, Dl.rFroz, Dl.rKeep, Dl.rFld, Dl.rBM, Dl.dAppend, Dl.dReverse, Dl.dClear, Dl.dExtend, Dl.rCK, Dl.fMinD, Dl.rCall, Dl.rCall0, Dl.rMeth, Dl.rMeth0, Dl.rMethN0, Dl.rMake, Dl.rMake0, Dl.rSetF, Dl.rGtup, Dl.rGlst, Dl.dIsB, Dl.rGcons, Dl.rGnil, Dl.rIlst, Dl.rItup, Dl.rIenum, Dl.rIenumT, Dl.rIzip, Dl.rIzip3, Dl.rSlcL, Dl.rSlcT, Dl.rSlcS, Dl.rNoPart, Dl.rPart, Dl.dSS, Dl.dII, Dl.dListOf, Dl.dSortI, Dl.rtD, Dl.rtL, List.map_cons, List.map_nil, List.length_cons, List.length_nil, List.cons_append, List.nil_append, List.append_nil, List.replicate, Nat.reduceSub, Nat.reduceAdd, Nat.sub_self, Nat.sub_zero, List.getElem?_cons_zero, List.getElem?_cons_succ, List.set_cons_zero, List.set_cons_succ, List.take_succ_cons, List.take_zero, List.take_nil, Dl.view, Dl.T.tyn, Dl.T.tyx, Dl.T.isN, Dl.T.sc, Dl.T.flat, Dl.flats])
local macro_rules | `(tactic| walk_at "rs") => `(tactic| dsimp only [Dl.rRaise, Dl.rEqOD, Dl.rNeOD, Dl.rInOD, Dl.inOD, Dl.rLend, Dl.rBorX, Dl.rLnO, Dl.rBoO, Dl.rStO, Dl.rFmt, Dl.rJn, Dl.rJc, Dl.rJs, Dl.dJoin, Dl.dRepL, Dl.rDispT, Dl.rBor, Dl.rMakeN, Dl.rMakeN0, Dl.rTold, Dl.rTypX, Dl.dTX, Dl.dEqTT, Dl.rDict, Dl.rPin, Dl.pinT, Dl.rWGet, Dl.rMethN, Dl.dRepS, Dl.unp_non, Dl.unp_bl, Dl.unp_int, Dl.unp_str, Dl.unp_wst, Dl.unp_ty, Dl.unp_lst, Dl.unp_tup, Dl.unp_cls, Dl.unp_obj, Dl.unp_far, Dl.unp_dct, Dl.unp_pin, Dl.rRet, Dl.rRetN, Dl.rIfS, Dl.rNext, Dl.rDrop, Dl.rAsg, Dl.rName, Dl.rPar, Dl.rPar3, Dl.rAndV, Dl.rOrV, Dl.rNotV, Dl.dIsi, Dl.dDivmod, Dl.mput, Dl.rUn, Dl.rGset, Dl.rFrz, Dl.rAnd, Dl.rOr, Dl.rNot, Dl.rTest, Dl.rTru, Dl.rIf, Dl.rOp, Dl.rOpL, Dl.rCB, Dl.rCBL, Dl.rCons, Dl.rNil, Dl.rVar, Dl.rC, Dl.rStr, Dl.d1, Dl.fTyp, Dl.fLenS, Dl.fLenQ, Dl.fAll, Dl.fSum, Dl.fRepr, Dl.fTupOf, Dl.dTy, Dl.nb, Dl.dInT, Dl.dIn, Dl.dN, Dl.dEq, Dl.dEqD, Dl.dI0, Dl.dIC, Dl.dCat, Dl.dCatL, Dl.dCatS, Dl.dCatT, Dl.dIxL, Dl.dIxT, Dl.dIxS, Dl.rChain, Dl.rChain3, Dl.rTup, Dl.rLst, Dl.rFroz, Dl.rKeep, Dl.rFld, Dl.rBM, Dl.dAppend, Dl.dReverse, Dl.dClear, Dl.dExtend, Dl.rCK, Dl.fMinD, Dl.rCall, Dl.rCall0, Dl.rMeth, Dl.rMeth0, Dl.rMethN0, Dl.rMake, Dl.rMake0, Dl.rSetF, Dl.rGtup, Dl.rGlst, Dl.dIsB, Dl.rGcons, Dl.rGnil, Dl.rIlst, Dl.rItup, Dl.rIenum, Dl.rIenumT, Dl.rIzip, Dl.rIzip3, Dl.rSlcL, Dl.rSlcT, Dl.rSlcS, Dl.rNoPart, Dl.rPart, Dl.dSS, Dl.dII, Dl.dListOf, Dl.dSortI, Dl.rtD, Dl.rtL, List.map_cons, List.map_nil, List.length_cons, List.length_nil, List.cons_append, List.nil_append, List.append_nil, List.replicate, Nat.reduceSub, Nat.reduceAdd, Nat.sub_self, Nat.sub_zero, List.getElem?_cons_zero, List.getElem?_cons_succ, List.set_cons_zero, List.set_cons_succ, List.take_succ_cons, List.take_zero, List.take_nil, Dl.view, Dl.T.tyn, Dl.T.tyx, Dl.T.isN, Dl.T.sc, Dl.T.flat, Dl.flats])
open Dl Rm
def dAlike (C : Addr) : DSpec := fun ts μ Φ _ => ∃ (L L2 : Int) (l l2 : List Cal) (b : Bool), ts = [rndT C L l, rndT C L2 l2, .bl b] ∧ μ = [] ∧ OkC L l ∧ OkC L2 l2 ∧ b = decide (L = L2 ∧ l = l2) ∧ Φ (.bl true) []
theorem callT_inj : ∀ {l l2 : List Cal}, l.map callT = l2.map callT → l = l2
  | [], [], _ => rfl
  | [], _ :: _, h => by cases h
  | _ :: _, [], h => by cases h
  | (a, b, c) :: r, (a2, b2, c2) :: r2, h => by
    simp only [List.map_cons, List.cons.injEq] at h
    obtain ⟨h1, h2⟩ := h
    unfold callT at h1
    simp only [Dl.T.tup.injEq, List.cons.injEq, Dl.T.int.injEq, Dl.T.str.injEq] at h1
    obtain ⟨rfl, rfl, rfl, _⟩ := h1
    rw [callT_inj h2]
theorem pls_call : ∀ l : List Cal, pls (l.map callT) = true
  | [] => rfl
  | c :: r => by simp [pls, Dl.T.pl, callT, pls_call r]
section
variable {K : PySem.W.Frag} {C : Addr} {L L2 : Int} {l l2 : List Cal} {μ : Mu} {Ψ : Bool → Mu → Prop}
theorem eqR_own (ok : OkC L l) (ok2 : OkC L2 l2) (h : Ψ (decide (L = L2 ∧ l = l2)) μ) : eqOwn K [(C, dEqR C)] (rndT C L l) (rndT C L2 l2) μ Ψ :=
  ⟨C, rfs L l, dEqR C, rfl, List.mem_singleton.mpr rfl, .inr ⟨C, _, rfl, .inl rfl⟩, callF rfl ⟨L, l, _, _, rfl, rfl, ok, .inl ⟨L2, l2, rfl, ok2, rfl⟩, ⟨_, rfl, h⟩⟩⟩
theorem eqR_odd (ok : OkC L l) {u : Dl.T} (od : OddT u) (h : Ψ false μ) : eqOwn K [(C, dEqR C)] (rndT C L l) u μ Ψ := by
  have ev : view μ u = unp u := by
    have := od.2
    cases u <;> first | rfl | cases this
  refine ⟨C, rfs L l, dEqR C, rfl, List.mem_singleton.mpr rfl, .inl (by rw [ev]; exact od.1), callF ?_ ⟨L, l, _, _, rfl, rfl, ok, .inr ⟨od, rfl⟩, ⟨_, rfl, h⟩⟩⟩
  show (_ && (u.flat && _)) = true
  rw [od.2]
  rfl
theorem oddR_eq (ok : OkC L l) {u : Dl.T} (od : OddT u) (h : Ψ false μ) : eqOD K [(C, dEqR C)] u (rndT C L l) μ Ψ := by
  have ev : view μ u = unp u := by
    have := od.2
    cases u <;> first | rfl | cases this
  obtain ⟨n, en⟩ := od.1
  refine .inr ⟨n, C, rfs L l, dEqR C, by rw [ev]; exact en, rfl, List.mem_singleton.mpr rfl, callF ?_ ⟨L, l, _, _, rfl, rfl, ok, .inr ⟨od, rfl⟩, ⟨_, rfl, h⟩⟩⟩
  show (_ && (u.flat && _)) = true
  rw [od.2]
  rfl
theorem in_one (ok : OkC L l) (ok2 : OkC L2 l2) (h : Ψ (decide (L = L2 ∧ l = l2)) μ) : inOD K [(C, dEqR C)] (rndT C L l) [rndT C L2 l2] μ Ψ := by
  have sym : decide (L2 = L ∧ l2 = l) = decide (L = L2 ∧ l = l2) := decide_eq_decide.mpr ⟨fun h => ⟨h.1.symm, h.2.symm⟩, fun h => ⟨h.1.symm, h.2.symm⟩⟩
  by_cases e : L = L2 ∧ l = l2
  · rw [decide_eq_true e] at h sym
    refine ⟨.inl (eqR_own ok2 ok ?_), .inr h⟩
    rw [sym]
    exact h
  · rw [decide_eq_false e] at h sym
    refine ⟨.inl (eqR_own ok2 ok ?_), .inl ⟨C, _, C, _, rfl, rfl, .inr ?_⟩⟩
    · rw [sym]
      exact h
    · by_cases e1 : L = L2
      · refine ⟨Str.ofString "_calls", _, _, lk_calls, lk_calls, ?_, ?_, fun z => e ⟨e1, ?_⟩⟩
        · unfold Dl.T.pl
          exact pls_call _
        · unfold Dl.T.pl
          exact pls_call _
        · cases callT_inj (Dl.T.tup.inj z)
          rfl
      · refine ⟨Str.ofString "_length", _, _, lk_len, lk_len, ?_, ?_, fun z => e1 ?_⟩
        · unfold Dl.T.pl; rfl
        · unfold Dl.T.pl; rfl
        · cases z
          rfl
end
def toldL (L : Int) (l : List Cal) : List Dl.T := [.int L, .int (tot l), .lst (l.map callT), .bl (decide (tot l ≤ L)), .int l.length, .bl (!decide (l = [])), .str (shownC L l)]
theorem told_sw {L : Int} {l : List Cal} (ok : OkC L l) : ∃ d, (Dl.T.lst (toldL L l)).pd = some d ∧ Shw d := by
  obtain ⟨ds, hs⟩ := Sws.all (call_sw0 ok)
  have t := ok.tot
  have l1 := ok.l1
  have l2 := ok.l2
  have b := shownC_len ok
  have l12 := ok.len
  have e0 : (l.map callT).length = l.length := List.length_map ..
  have sw := (Sws.cons (.int (i := L) (by omega)) (.cons (.int (i := tot l) (by omega)) (.cons hs.l (.cons (.bl (decide (tot l ≤ L))) (.cons (.int (i := (l.length : Int)) (by omega)) (.cons (.bl (!decide (l = []))) (.cons (.str (shownC_ok ok)) .nil))))))).l
  exact ⟨_, sw.is.pd, sw.shw (by decide) (by rw [e0]; omega)⟩
theorem set_rep {n : Nat} {a b : Res} : (List.replicate n Res.gone ++ [a]).set n b = List.replicate n Res.gone ++ [b] := by
  rw [List.set_append]
  simp
theorem all_rep (n : Nat) : (List.replicate n Res.gone ++ [Res.gone]).all Res.gd = true := by
  simp [Res.gd]
def dToldR (C : Addr) : DSpec := fun ts μ Φ _ => ∃ (L : Int) (l : List Cal), ts = [rndT C L l, plnT L l] ∧ μ = [] ∧ OkC L l ∧ Φ (.bl true) []
section
variable {P : Program} {w : World} {K : PySem.W.Frag} {mg : PySem.Str → Option Value} {base : Heap}
theorem ok_law_alike (T : Txt mg K w.params) : FnG P w K mg base 5 T.f_law_alike T.fd_law_alike ["this", "that", "is_due"] (liftSp K 3 (dAlike T.C_Round)) := by
  refine FunD.okG T.F_law_alike sc_law_alike lift_len (fun cdv A outer s H vs Q E hA hr h => ⟨_, pss_cons (ps_set (i := 3) sc_law_alike.nd rfl (.inl rfl) (pe_lst (pa_cons (pe_cmpR (Dl.eqOK (K := K) (k := 2) rfl (eql_cons rfl (ok_Round_eq T) (by decide) (b_Round_eq_2 T) T.eo_Round eql_nil) (hr.mono (by decide))) (pv 0) (pv 1) (by first | rfl | exact nomark _)) (pa_cons (pe_cmpR (Dl.eqOK (K := K) (k := 2) rfl (eql_cons rfl (ok_Round_eq T) (by decide) (b_Round_eq_2 T) T.eo_Round eql_nil) (hr.mono (by decide))) (pv 1) (pv 0) (by first | rfl | exact nomark _)) (pa_cons (pe_not (pe_cmpR (Dl.neOK (K := K) (k := 2) rfl (eql_cons rfl (ok_Round_eq T) (by decide) (b_Round_eq_2 T) T.eo_Round eql_nil) (hr.mono (by decide))) (pv 0) (pv 1) (by first | rfl | exact nomark _))) (pa_cons (pe_not (pe_cmpR (Dl.neOK (K := K) (k := 2) rfl (eql_cons rfl (ok_Round_eq T) (by decide) (b_Round_eq_2 T) T.eo_Round eql_nil) (hr.mono (by decide))) (pv 1) (pv 0) (by first | rfl | exact nomark _))) (pa_cons (pe_cmpR (Dl.inOK (K := K) (k := 2) rfl (eql_cons rfl (ok_Round_eq T) (by decide) (b_Round_eq_2 T) T.eo_Round eql_nil) (hr.mono (by decide))) (pv 0) (pe_lst (pa_cons (pv 1) pa_nil)) (by first | rfl | exact nomark _)) pa_nil)))))))
 (pss_one (ps_ret (pe_cmpR op_eq (pe_callB (reprK (K := K) rfl hA hr.units) (by rfl) T.n_repr (by decide +kernel) (pa_cons (pv 3) pa_nil)) (pe_callB (reprK (K := K) rfl hA hr.units) (by rfl) T.n_repr (by decide +kernel) (pa_cons (pe_op op_rep (pe_lst (pa_cons (pv 2) pa_nil)) (pe_int)) pa_nil)) (by first | rfl | exact nomark _)))), body_sim h ?_⟩)
  rintro ts μ Φ xw hl ⟨L, L2, l, l2, b, rfl, rfl, ok, ok2, rfl, q⟩
  walk_at "st0"
  refine rSeq_go ?_
  walk_at "rs"
  have sym : decide (L2 = L ∧ l2 = l) = decide (L = L2 ∧ l = l2) := decide_eq_decide.mpr ⟨fun h => ⟨h.1.symm, h.2.symm⟩, fun h => ⟨h.1.symm, h.2.symm⟩⟩
  refine .inl (eqR_own ok ok2 (.inl (eqR_own ok2 ok (eqR_own ok ok2 (eqR_own ok2 ok ⟨rfl, by decide, _, rfl, in_one ok ok2 ?_⟩)))))
  rw [sym]
  generalize decide (L = L2 ∧ l = l2) = b
  obtain ⟨d, hd, hs⟩ : ∃ d, (Dl.T.lst [Dl.T.bl b, Dl.T.bl b, Dl.T.bl b, Dl.T.bl b, Dl.T.bl b]).pd = some d ∧ Shw d := by
    have sw := (Sws.cons (.bl b) (.cons (.bl b) (.cons (.bl b) (.cons (.bl b) (.cons (.bl b) .nil))))).l
    exact ⟨_, sw.is.pd, sw.shw (by decide) (by decide)⟩
  refine ⟨rfl, by decide, d, by rw [Bool.not_not]; exact hd, hs, rfl, by decide, _, rfl, by decide, by decide, by show 1 * 5 ≤ 1000000; decide, d, hd, hs, rfl, ?_⟩
  rw [decide_eq_true rfl]
  exact q
theorem ok_law_told_right (T : Txt mg K w.params) : FnG P w K mg base 5 T.f_law_told_right T.fd_law_told_right ["circle", "plain"] (liftSp K 2 (dToldR T.C_Round)) := by
  refine FunD.okG T.F_law_told_right sc_law_told_right lift_len (fun cdv A outer s H vs Q E hA hr h => ⟨_, pss_cons (ps_asg (pv 1) (pgTK (K := K) rfl (n := 2) (by rfl) (pgs_cons (pg_name (i := 2) sc_law_told_right.nd rfl (.inl rfl)) (pgs_cons (pg_name (i := 3) sc_law_told_right.nd rfl (.inl rfl)) (pgs_nil)))))
 (pss_cons (ps_set (i := 4) sc_law_told_right.nd rfl (.inl rfl) (pe_callB (sumK (K := K) rfl rfl) (by rfl) T.n_sum (by decide +kernel) (pa_cons (pe_lc (own := [("row", 9)]) (g := gName 9) (tt := tYes) (by rfl) sc_law_told_right.nd (piTK (K := K) rfl (pv 3)) (blkOk_by (own := [("row", 9)]) (N := ["circle", "plain", "span", "rows", "work", "due", "turn", "found", "told", "row"]) (sc := defScope s_law_told_right) (by decide +kernel)) (fun _ _ _ _ _ => pg_name (i := 9) sc_law_told_right.nd rfl (Or.inl rfl)) (fun _ _ _ _ _ => pts_nil) (fun _ _ _ _ _ => pe_ix (ixtK (K := K) rfl) (pv 9) (pe_int) (fun _ _ => rfl))) pa_nil)))
 (pss_cons (ps_set (i := 5) sc_law_told_right.nd rfl (.inl rfl) (pe_callB (reprK (K := K) rfl hA hr.units) (by rfl) T.n_repr (by decide +kernel) (pa_cons (pe_lst (pa_cons (pv 2) (pa_cons (pv 4) (pa_cons (pe_callTy (listOfK (K := K) rfl) (by rfl) T.n_list (by decide +kernel) (pa_cons (pv 3) pa_nil)) (pa_cons (pe_cmpR op_le (pv 4) (pv 2) (by first | rfl | exact nomark _)) (pa_cons (pe_callB (lenK (K := K) rfl) (by rfl) T.n_len (by decide +kernel) (pa_cons (pv 3) pa_nil)) (pa_cons (pe_cmpR (neDK (K := K) rfl hr.units) (pv 3) (pe_tup (pa_nil)) (by first | rfl | exact nomark _)) (pa_cons (pe_callX (ok_law_text T) (hr.mono (by decide)) (by rfl) T.g_law_text T.F_law_text.kp (b_law_text_1 T) pass0 (pa_cons (pv 1) pa_nil)) pa_nil)))))))) pa_nil)))
 (pss_cons (ps_for PassesOwn.never rfl (pi_range1 (by rfl) T.n_range (pa_cons (pe_int) pa_nil)) (pg_name (i := 6) sc_law_told_right.nd rfl (.inl rfl)) (pss_cons (ps_set (i := 7) sc_law_told_right.nd rfl (.inl rfl) (Dl.pe_keep (pe_methX0 (pv 0) T.cl_Round T.m_Round_calls (ok_Round_calls T) (hr.mono (by decide)) (b_Round_calls_1 T) pass0)))
 (Dl.pss_lend 7 (pss_cons (ps_set (i := 8) sc_law_told_right.nd rfl (.inl rfl) (pe_lst (pa_cons (pe_methX0 (pv 0) T.cl_Round T.m_Round_length (ok_Round_length T) (hr.mono (by decide)) (b_Round_length_1 T) pass0) (pa_cons (pe_methX0 (pv 0) T.cl_Round T.m_Round_total (ok_Round_total T) (hr.mono (by decide)) (b_Round_total_1 T) pass0) (pa_cons (pv 7) (pa_cons (pe_methX0 (pv 0) T.cl_Round T.m_Round_keeps_up (ok_Round_keeps_up T) (hr.mono (by decide)) (b_Round_keeps_up_1 T) pass0) (pa_cons (pe_callB (call_lenD (ok_Round_len T) (hr.mono (by decide)) (b_Round_len_1 T) T.m_Round_len) (by rfl) T.n_len (by decide +kernel) (pa_cons (pv 0) pa_nil)) (pa_cons (pe_callTy (call_boolD (ok_Round_len T) (hr.mono (by decide)) (b_Round_len_1 T) T.m_Round_len T.nb_Round) (by rfl) T.n_bool (by decide +kernel) (pa_cons (pv 0) pa_nil)) (pa_cons (pe_callTy (call_strD (ok_Round_str T) (hr.mono (by decide)) (b_Round_str_1 T) T.m_Round_str) (by rfl) T.n_str (by decide +kernel) (pa_cons (pv 0) pa_nil)) pa_nil)))))))))
 (pss_cons (ps_if (pt_cmpR op_ne (pe_callB (reprK (K := K) rfl hA hr.units) (by rfl) T.n_repr (by decide +kernel) (pa_cons (pv 8) pa_nil)) (pv 5) (by first | rfl | exact nomark _)) (pss_one (ps_ret (pe_bl))) (pss_nil))
 (pss_one (ps_expr (bmK (K := K) rfl PySem.F.plainAttrs_list PySem.F.slot_list_append PySem.F.type_list_append mt_append (pv 7) (pa_cons (pe_tup (pa_cons (pe_int) (pa_cons (pe_str) (pa_cons (pe_int) pa_nil)))) pa_nil)))))))))
 (pss_one (ps_ret (pe_bl)))))), body_sim h ?_⟩)
  rintro ts μ Φ xw hl ⟨L, l, rfl, rfl, ok, q⟩
  have l12 := ok.len
  walk_at "st0"
  refine rSeq_go ?_
  unfold plnT callsT
  walk_at "rs"
  refine ⟨rfl, ?_⟩
  refine rSeq_go ?_
  walk_at "rs"
  refine rLc_map (fun t => match t with | .tup [_, _, h] => h | _ => .non) (by simp) (by rw [List.length_map]; omega) ?_ ?_
  · intro t ht
    obtain ⟨c, hc, rfl⟩ := List.mem_map.mp ht
    exact ⟨rfl, fun Ψ hΨ => ⟨_, _, rfl, rfl, hΨ⟩⟩
  rw [List.map_map]
  refine ⟨_, l.map fun c => c.2.2, rfl, ?_, ?_⟩
  · exact ints_mapf (α := Cal) (fun c => c.2.2) l
  rw [tot_sum]
  obtain ⟨d, hd, hs⟩ := told_sw ok
  refine rSeq_go ?_
  walk_at "rs"
  have en : PyData.eqv (.tuple (l.map callD)) (.tuple []) = decide (l = []) := eqv_callT l []
  have eb : ((l.length : Int) != 0) = !decide (l = []) := by
    cases l with
    | nil => rfl
    | cons a r => simp; omega
  refine ⟨rfl, by decide, _, _, (calls_pdT ok).1, rfl, (calls_pdT ok).2, by decide, rfl, callF rfl ⟨L, l, rfl, rfl, ok, ?_⟩⟩
  rw [en, List.length_map]
  refine ⟨rfl, by decide, d, hd, hs, ?_⟩
  refine rSeq_go ?_
  unfold rFor
  dsimp only
  walk_at "rs"
  refine ⟨by decide, by decide, fun i ρ μ => ∃ a b c x, ρ = [some (rndT T.C_Round L l), some (.tup [.int L, .tup (l.map callT)]), some (.int L), some (.tup (l.map callT)), some (.int (tot l)), some (.wst d.shown), a, b, c, x], ⟨_, _, _, _, rfl⟩, ?_, ?_⟩
  · rintro i t ρ μ et ⟨a, b, c, x, rfl⟩
    walk_at "rs"
    refine rSeq_go ?_
    walk_at "rs"
    refine ⟨⟨_, rfl, rfl⟩, rfl, callF rfl ⟨L, l, rfl, rfl, ok, ?_⟩⟩
    refine rSeq_go ?_
    walk_at "rs"
    have one : ∀ {f : Int → List Cal → Dl.T} {Ψ : Dl.T → Mu → Prop} {μ : Mu} {xw : XW}, Ψ (f L l) μ → CallD (dOne f T.C_Round) [rndT T.C_Round L l] μ Ψ xw := fun h => callF rfl ⟨L, l, rfl, rfl, ok, h⟩
    refine ⟨l.map callT, List.replicate μ.length .gone ++ [Res.lst (l.map callT)], (Fg.gone μ).app (.keep .nil), by simp, ⟨_, rfl, rfl⟩, rfl, one ⟨⟨_, rfl, rfl⟩, rfl, one ⟨⟨_, rfl, rfl⟩, rfl, one ⟨_, _, rfl, rfl, one ⟨_, rfl, by omega, _, _, rfl, rfl, one ⟨_, rfl, by omega, _, _, rfl, rfl, one ⟨_, rfl, ?_⟩⟩⟩⟩⟩⟩⟩
    rw [eb, set_rep, set_rep]
    refine ⟨rfl, by decide, d, hd, hs, rfl, by simp, all_rep _, by simp [Dl.T.mty, Dl.view, seeR], ?_⟩
    exact ⟨by decide +kernel, rfl, by decide, l.map callT, by simp, rfl, by rw [List.length_map]; omega, _, _, _, _, rfl⟩
  · rintro ρ μ ⟨a, b, c, x, rfl⟩
    exact q
end
end K

set_option maxRecDepth 100000
set_option maxHeartbeats 4000000
set_option synthInstance.maxSize 100000
set_option synthInstance.maxHeartbeats 4000000
namespace K
open PySem PySem.Spec PyProof.Rows L2 Gd
local macro_rules | `(tactic| walk_at "mulok") => `(tactic| first | exact Or.inr ⟨by decide, by decide⟩ | exact Or.inl ⟨by decide, by decide⟩ | exact Or.inr ⟨by omega, by omega⟩ | exact Or.inl ⟨by omega, by omega⟩)
local macro_rules | `(tactic| walk_at "st") => `(tactic| first
  | refine ⟨_, rfl, ?_⟩
  | refine ⟨_, _, rfl, rfl, (by walk_at "mulok"), ?_⟩
  | refine ⟨_, _, rfl, rfl, (by show (0 : Int) < _; decide), ?_⟩
  | refine ⟨_, _, rfl, rfl, ⟨by decide, by decide⟩, ?_⟩
  | refine ⟨_, _, rfl, rfl, ?_⟩)
local macro_rules | `(tactic| walk_at "st0") => `(tactic| simp only [List.map_cons, List.map_nil, List.append_nil, List.cons_append, List.nil_append, List.length_cons, List.length_nil, Nat.reduceSub, Nat.reduceAdd, Nat.sub_self, List.replicate])
local macro_rules | `(tactic| walk_at "rd") => `(tactic| dsimp only [Dl.rRaise, Dl.rEqOD, Dl.rNeOD, Dl.rInOD, Dl.inOD, Dl.rLend, Dl.rBorX, Dl.rLnO, Dl.rBoO, Dl.rStO, Dl.rFmt, Dl.rJn, Dl.rJc, Dl.rJs, Dl.dJoin, Dl.dRepL, Dl.rDispT, Dl.rBor, Dl.rMakeN, Dl.rMakeN0, Dl.rTold, Dl.rTypX, Dl.dTX, Dl.dEqTT, Dl.rDict, Dl.rPin, Dl.pinT, Dl.rWGet, Dl.rMethN, Dl.dRepS, Dl.unp_non, Dl.unp_bl, Dl.unp_int, Dl.unp_str, Dl.unp_wst, Dl.unp_ty, Dl.unp_lst, Dl.unp_tup, Dl.unp_cls, Dl.unp_obj, Dl.unp_far, Dl.unp_dct, Dl.unp_pin, Dl.rRet, Dl.rRetN, Dl.rIfS, Dl.rSeq, Dl.rNext, Dl.rDrop, Dl.rAsg, Dl.rName, Dl.rPar, Dl.rPar3, Dl.rAndV, Dl.rOrV, Dl.rNotV, Dl.dIsi, Dl.dDivmod, Dl.mput, Dl.rUn, Dl.rGset, Dl.rFrz, Dl.rAnd, Dl.rOr, Dl.rNot, Dl.rTest, Dl.rTru, Dl.rIf, Dl.rOp, Dl.rOpL, Dl.rCB, Dl.rCBL, Dl.rCons, Dl.rNil, Dl.rVar, Dl.rC, Dl.rStr, Dl.d1, Dl.fTyp, Dl.fLenS, Dl.fLenQ, Dl.fAll, Dl.fSum, Dl.fRepr, Dl.fTupOf, Dl.dTy, Dl.nb, Dl.dInT, Dl.dIn, Dl.dN, Dl.dEq, Dl.dEqD, Dl.dI0, Dl.dIC, Dl.dCat, Dl.dCatL, Dl.dCatS, Dl.dCatT, Dl.dIxL, Dl.dIxT, Dl.dIxS, Dl.rChain, Dl.rChain3, Dl.rTup, Dl.rLst, Dl.rFroz, Dl.rKeep, Dl.rFld, Dl.rBM, Dl.dAppend, Dl.dReverse, Dl.dClear, Dl.dExtend, Dl.rCK, Dl.fMinD, Dl.rCall, Dl.rCall0, Dl.rMeth, Dl.rMeth0, Dl.rMethN0, Dl.rMake, Dl.rMake0, Dl.rSetF, Dl.rGtup, Dl.rGlst, Dl.dIsB, Dl.rGcons, Dl.rGnil, Dl.rIlst, Dl.rItup, Dl.rIenum, Dl.rIenumT, Dl.rIzip, Dl.rIzip3, Dl.rSlcL, Dl.rSlcT, Dl.rSlcS, Dl.rNoPart, Dl.rPart, Dl.dSS, Dl.dII, Dl.dListOf, Dl.dSortI, Dl.rtD, Dl.rtL, List.map_cons, List.map_nil, List.length_cons, List.length_nil, List.cons_append, List.nil_append, List.append_nil, List.replicate, Nat.reduceSub, Nat.reduceAdd, Nat.sub_self, Nat.sub_zero, List.getElem?_cons_zero, List.getElem?_cons_succ, List.set_cons_zero, List.set_cons_succ, List.take_succ_cons, List.take_zero, List.take_nil, Dl.view, Dl.T.tyn, Dl.T.tyx, Dl.T.isN, Dl.T.sc, Dl.T.flat, Dl.flats])
local macro_rules | `(tactic| walk_at "rs") => `(tactic| dsimp only [Dl.rRaise, Dl.rEqOD, Dl.rNeOD, Dl.rInOD, Dl.inOD, Dl.rLend, Dl.rBorX, Dl.rLnO, Dl.rBoO, Dl.rStO, Dl.rFmt, Dl.rJn, Dl.rJc, Dl.rJs, Dl.dJoin, Dl.dRepL, Dl.rDispT, Dl.rBor, Dl.rMakeN, Dl.rMakeN0, Dl.rTold, Dl.rTypX, Dl.dTX, Dl.dEqTT, Dl.rDict, Dl.rPin, Dl.pinT, Dl.rWGet, Dl.rMethN, Dl.dRepS, Dl.unp_non, Dl.unp_bl, Dl.unp_int, Dl.unp_str, Dl.unp_wst, Dl.unp_ty, Dl.unp_lst, Dl.unp_tup, Dl.unp_cls, Dl.unp_obj, Dl.unp_far, Dl.unp_dct, Dl.unp_pin, Dl.rRet, Dl.rRetN, Dl.rIfS, Dl.rNext, Dl.rDrop, Dl.rAsg, Dl.rName, Dl.rPar, Dl.rPar3, Dl.rAndV, Dl.rOrV, Dl.rNotV, Dl.dIsi, Dl.dDivmod, Dl.mput, Dl.rUn, Dl.rGset, Dl.rFrz, Dl.rAnd, Dl.rOr, Dl.rNot, Dl.rTest, Dl.rTru, Dl.rIf, Dl.rOp, Dl.rOpL, Dl.rCB, Dl.rCBL, Dl.rCons, Dl.rNil, Dl.rVar, Dl.rC, Dl.rStr, Dl.d1, Dl.fTyp, Dl.fLenS, Dl.fLenQ, Dl.fAll, Dl.fSum, Dl.fRepr, Dl.fTupOf, Dl.dTy, Dl.nb, Dl.dInT, Dl.dIn, Dl.dN, Dl.dEq, Dl.dEqD, Dl.dI0, Dl.dIC, Dl.dCat, Dl.dCatL, Dl.dCatS, Dl.dCatT, Dl.dIxL, Dl.dIxT, Dl.dIxS, Dl.rChain, Dl.rChain3, Dl.rTup, Dl.rLst, Dl.rFroz, Dl.rKeep, Dl.rFld, Dl.rBM, Dl.dAppend, Dl.dReverse, Dl.dClear, Dl.dExtend, Dl.rCK, Dl.fMinD, Dl.rCall, Dl.rCall0, Dl.rMeth, Dl.rMeth0, Dl.rMethN0, Dl.rMake, Dl.rMake0, Dl.rSetF, Dl.rGtup, Dl.rGlst, Dl.dIsB, Dl.rGcons, Dl.rGnil, Dl.rIlst, Dl.rItup, Dl.rIenum, Dl.rIenumT, Dl.rIzip, Dl.rIzip3, Dl.rSlcL, Dl.rSlcT, Dl.rSlcS, Dl.rNoPart, Dl.rPart, Dl.dSS, Dl.dII, Dl.dListOf, Dl.dSortI, Dl.rtD, Dl.rtL, List.map_cons, List.map_nil, List.length_cons, List.length_nil, List.cons_append, List.nil_append, List.append_nil, List.replicate, Nat.reduceSub, Nat.reduceAdd, Nat.sub_self, Nat.sub_zero, List.getElem?_cons_zero, List.getElem?_cons_succ, List.set_cons_zero, List.set_cons_succ, List.take_succ_cons, List.take_zero, List.take_nil, Dl.view, Dl.T.tyn, Dl.T.tyx, Dl.T.isN, Dl.T.sc, Dl.T.flat, Dl.flats])
open Dl Rm
def dMadeR (C : Addr) : DSpec := fun ts μ Φ _ => ∃ (L : Int) (l : List Cal), ts = [plnT L l] ∧ μ = [] ∧ OkC L l ∧ Φ (.bl true) []
section
variable {C : Addr} {L : Int} {l : List Cal} {μ : Mu} {Ψ : Dl.T → Mu → Prop} {xw : XW}
/-- Round(..), as it is made -/
theorem mk_rnd (ok : OkC L l) {u : Dl.T} (ca : CallsA l u []) (fl : u.flat = true) (h : Ψ .non (μ ++ [.obj C (rfs L l)])) : CallD (dInit C) [.rs μ.length, .int L, u] (μ ++ [.obj C []]) Ψ xw := by
  have e : mput (μ ++ [Res.obj C []]) [μ.length] [.obj C (rfs L l)] = μ ++ [.obj C (rfs L l)] := by simp [mput]
  refine callR (by simp) (by show (_ && (u.flat && _)) = true; rw [fl]; rfl) ⟨L, l, u, [], rfl, rfl, ca, ok, ?_⟩
  show Ψ .non (mput _ _ _)
  rw [e]
  exact h
/-- Round(..) of a list that is lent -/
theorem mk_rndL (ok : OkC L l) {k : Nat} (hk : μ[k]? = some (.lst (l.map callT))) (h : Ψ .non (μ ++ [.obj C (rfs L l)])) : CallD (dInit C) [.rs μ.length, .int L, .rs k] (μ ++ [.obj C []]) Ψ xw := by
  have lt := (List.getElem?_eq_some_iff.mp hk).1
  have e : mput (μ ++ [Res.obj C []]) [μ.length, k] [.obj C (rfs L l), .lst (l.map callT)] = μ ++ [.obj C (rfs L l)] := by
    have e0 : (μ ++ [Res.obj C []]).set k (.lst (l.map callT)) = μ ++ [Res.obj C []] := by
      refine List.ext_getElem? fun i => ?_
      by_cases z : k = i
      · subst z
        rw [List.getElem?_set_self (by rw [List.length_append]; omega), List.getElem?_append_left lt, hk]
      · rw [List.getElem?_set_ne z]
    simp only [mput, e0]
    simp
  refine callR2 (k1 := μ.length) (k2 := k) (by omega) (by simp) (by rw [List.getElem?_append_left lt]; exact hk) rfl ⟨L, l, .rs 1, _, rfl, rfl, .inr ⟨rfl, rfl⟩, ok, ?_⟩
  show Ψ .non (mput _ _ _)
  rw [e]
  exact h
end
section
variable {P : Program} {w : World} {K : PySem.W.Frag} {mg : PySem.Str → Option Value} {base : Heap}
theorem ok_law_made_right (T : Txt mg K w.params) : FnG P w K mg base 7 T.f_law_made_right T.fd_law_made_right ["plain"] (liftSp K 1 (dMadeR T.C_Round)) := by
  refine FunD.okG T.F_law_made_right sc_law_made_right lift_len (fun cdv A outer s H vs Q E hA hr h => ⟨_, pss_cons (ps_asg (pv 0) (pgTK (K := K) rfl (n := 2) (by rfl) (pgs_cons (pg_name (i := 1) sc_law_made_right.nd rfl (.inl rfl)) (pgs_cons (pg_name (i := 2) sc_law_made_right.nd rfl (.inl rfl)) (pgs_nil)))))
 (pss_cons (ps_set (i := 3) sc_law_made_right.nd rfl (.inl rfl) (Dl.pe_keep (pe_callTy (listOfK (K := K) rfl) (by rfl) T.n_list (by decide +kernel) (pa_cons (pv 2) pa_nil))))
 (pss_cons (ps_set (i := 4) sc_law_made_right.nd rfl (.inl rfl) (pe_lst (pa_cons (pe_makeX T.mk_Round (ok_Round_init T) (hr.mono (by decide)) (by rfl) T.g_Round (b_Round_init_3 T) pass0 (pa_cons (pv 1) (pa_cons (pv 3) pa_nil))) (pa_cons (pe_makeKX T.mk_Round (ok_Round_init T) (hr.mono (by decide)) (by rfl) T.g_Round (kb_Round_init_2_calls T) pass0 (pa_cons (pv 1) pa_nil) (pk_cons (pv 2) (pk_nil))) (pa_cons (pe_makeKX0 T.mk_Round (ok_Round_init T) (hr.mono (by decide)) (by rfl) T.g_Round (kb_Round_init_1_calls_length T) pass0 (pk_cons (pe_callTy (listOfK (K := K) rfl) (by rfl) T.n_list (by decide +kernel) (pa_cons (pv 2) pa_nil)) (pk_cons (pv 1) (pk_nil)))) pa_nil)))))
 (pss_cons (ps_if (pt_cmpR (neDK (K := K) rfl hr.units) (pv 3) (pe_callTy (listOfK (K := K) rfl) (by rfl) T.n_list (by decide +kernel) (pa_cons (pv 2) pa_nil)) (by first | rfl | exact nomark _)) (pss_one (ps_ret (pe_bl))) (pss_nil))
 (pss_cons (ps_if (pt_cmpR (eqDK (K := K) rfl hr.units) (pv 2) (pe_tup (pa_nil)) (by first | rfl | exact nomark _)) (pss_one (ps_set (i := 4) sc_law_made_right.nd rfl (.inl rfl) (pe_op op_cat (pv 4) (pe_lst (pa_cons (pe_makeX T.mk_Round (ok_Round_init T) (hr.mono (by decide)) (by rfl) T.g_Round (b_Round_init_2 T) pass0 (pa_cons (pv 1) pa_nil)) (pa_cons (pe_makeKX0 T.mk_Round (ok_Round_init T) (hr.mono (by decide)) (by rfl) T.g_Round (kb_Round_init_1_length_calls T) pass0 (pk_cons (pv 1) (pk_cons (pe_non) (pk_nil)))) pa_nil)))))) (pss_nil))
 (pss_cons (ps_expr (bmK (K := K) rfl PySem.F.plainAttrs_list PySem.F.slot_list_append PySem.F.type_list_append mt_append (pv 3) (pa_cons (pe_tup (pa_cons (pe_int) (pa_cons (pe_str) (pa_cons (pe_int) pa_nil)))) pa_nil)))
 (pss_cons (ps_for PassesOwn.never rfl (piLK (K := K) rfl (pv 4)) (pg_name (i := 5) sc_law_made_right.nd rfl (.inl rfl)) (pss_one (ps_if (PW.pt (pw_or (pt_not (pt_val (pe_callGX (ok_law_told_right T) hA (hr.mono (by decide)) (by rfl) T.g_law_told_right T.F_law_told_right.kp (b_law_told_right_2 T) (pa_cons (pv 5) (pa_cons (pv 0) pa_nil))))) (pw_or1 (pt_not (pt_val (pe_callGX (ok_law_alike T) hA (hr.mono (by decide)) (by rfl) T.g_law_alike T.F_law_alike.kp (b_law_alike_3 T) (pa_cons (pv 5) (pa_cons (pe_ix (ixlK (K := K) rfl) (pv 4) (pe_int) (fun _ _ => rfl)) (pa_cons (pe_bl) pa_nil))))))))) (pss_one (ps_ret (pe_bl))) (pss_nil))))
 (pss_cons (ps_expr (bm0K (K := K) rfl PySem.F.plainAttrs_list PySem.F.slot_list_clear PySem.F.type_list_clear (mtR_clear) (pv 3)))
 (pss_one (ps_ret (pe_callGX (ok_law_told_right T) hA (hr.mono (by decide)) (by rfl) T.g_law_told_right T.F_law_told_right.kp (b_law_told_right_2 T) (pa_cons (pe_ix (ixlK (K := K) rfl) (pv 4) (pe_int) (fun _ _ => rfl)) (pa_cons (pv 0) pa_nil)))))))))))), body_sim h ?_⟩)
  rintro ts μ Φ xw hl ⟨L, l, rfl, rfl, ok, q⟩
  have l12 := ok.len
  walk_at "st0"
  refine rSeq_go ?_
  unfold plnT callsT
  walk_at "rs"
  refine ⟨rfl, ?_⟩
  refine rSeq_go ?_
  walk_at "rs"
  refine rSeq_go ?_
  walk_at "rs"
  refine ⟨cok_Round T, rfl, ?_⟩
  have lrow : ∀ k : Nat, ∀ {α : Type} (x : α), (List.replicate k x).length = k := fun k α x => List.length_replicate ..
  refine mk_rndL (μ := [Res.lst (l.map callT)]) (k := 0) ok rfl ?_
  refine ⟨rfl, rfl, rfs L l, rfl, rfl, rfl, cok_Round T, rfl, ?_⟩
  refine mk_rnd (μ := [Res.lst (l.map callT)]) ok (.inl ⟨rfl, .inl (.inl rfl)⟩) rfl ?_
  refine ⟨rfl, rfl, rfs L l, rfl, ?_⟩
  refine ⟨rfl, rfl, cok_Round T, rfl, ?_⟩
  refine mk_rnd (μ := [Res.lst (l.map callT)]) ok (.inl ⟨rfl, .inl (.inr rfl)⟩) rfl ?_
  refine ⟨rfl, rfl, rfs L l, rfl, rfl, by decide, ?_⟩
  refine rSeq_cut (fun ρ μ => ρ = [some (.tup [.int L, .tup (l.map callT)]), some (.int L), some (.tup (l.map callT)), some (.rs 0), some (.lst (List.replicate 3 (rndT T.C_Round L l))), none] ∧ μ = [.lst (l.map callT)]) (fun N hN => ?_) ?_
  · walk_at "rs"
    refine ⟨_, _, (calls_pdL ok).1, (calls_pdL ok).1, (calls_pdL ok).2, (calls_pdL ok).2, ?_⟩
    rw [eqv_callL]
    exact iteF' (by simp) (hN _ _ ⟨rfl, rfl⟩)
  rintro ρ μ ⟨rfl, rfl⟩
  refine rSeq_cut (fun ρ μ => ∃ k, 1 ≤ k ∧ ρ = [some (.tup [.int L, .tup (l.map callT)]), some (.int L), some (.tup (l.map callT)), some (.rs 0), some (.lst (List.replicate k (rndT T.C_Round L l))), none] ∧ μ = [.lst (l.map callT)]) (fun N hN => ?_) ?_
  · walk_at "rs"
    refine ⟨rfl, by decide, _, _, (calls_pdT ok).1, rfl, (calls_pdT ok).2, by decide, ?_⟩
    have en : PyData.eqv (.tuple (l.map callD)) (.tuple []) = decide (l = []) := eqv_callT l []
    rw [en]
    by_cases l0 : l = []
    · subst l0
      refine iteT' (by simp) ⟨cok_Round T, rfl, ?_⟩
      refine mk_rnd (μ := [Res.lst (([] : List Cal).map callT)]) ok (.inl ⟨rfl, .inr ⟨rfl, rfl⟩⟩) rfl ?_
      refine ⟨rfl, rfl, rfs L [], rfl, rfl, rfl, cok_Round T, rfl, ?_⟩
      refine mk_rnd (μ := [Res.lst (([] : List Cal).map callT)]) ok (.inl ⟨rfl, .inr ⟨rfl, rfl⟩⟩) rfl ?_
      refine ⟨rfl, rfl, rfs L [], rfl, rfl, by decide, _, _, rfl, rfl, by show 3 + 2 ≤ 1000000; decide, ?_⟩
      exact hN _ _ ⟨5, by decide, rfl, rfl⟩
    · exact iteF' (by simp [l0]) (hN _ _ ⟨3, by decide, rfl, rfl⟩)
  rintro ρ μ ⟨k, k1, rfl, rfl⟩
  refine rSeq_go ?_
  walk_at "rs"
  refine ⟨rfl, by decide +kernel, rfl, by decide, _, rfl, rfl, by rw [List.length_map]; omega, ?_⟩
  have e0 : atI (List.replicate k (rndT T.C_Round L l)) 0 = some (rndT T.C_Round L l) := by
    refine Dl.atI_nat (j := 0) ?_
    rw [List.getElem?_replicate_of_lt (by omega)]
  have told : ∀ {Ψ : Dl.T → Mu → Prop} {μ : Mu} {xw : XW}, Ψ (.bl true) μ → CallD (dToldR T.C_Round) [rndT T.C_Round L l, .tup [.int L, .tup (l.map callT)]] μ Ψ xw := fun h => callF rfl ⟨L, l, rfl, rfl, ok, h⟩
  refine rSeq_go ?_
  unfold rFor
  walk_at "rs"
  refine ⟨fun i ρ μ => ∃ a, ρ = [some (.tup [.int L, .tup (l.map callT)]), some (.int L), some (.tup (l.map callT)), some (.rs 0), some (.lst (List.replicate k (rndT T.C_Round L l))), a] ∧ ∃ l1, μ = [Res.lst l1], ⟨_, rfl, _, rfl⟩, ?_, ?_⟩
  · rintro i t ρ μ et ⟨a, rfl, l1, rfl⟩
    have et2 : t = rndT T.C_Round L l := by
      have lt := (List.getElem?_eq_some_iff.mp et).1
      rw [List.length_replicate] at lt
      rw [List.getElem?_replicate_of_lt lt] at et
      exact (Option.some.inj et).symm
    subst et2
    walk_at "rs"
    refine ⟨rfl, told (iteF' rfl ⟨_, _, rfl, e0, rfl, callF rfl ⟨L, L, l, l, true, rfl, rfl, ok, ok, by simp, iteF' rfl ⟨_, rfl, _, rfl⟩⟩⟩)⟩
  · rintro ρ μ ⟨a, rfl, l1, rfl⟩
    refine rSeq_go ?_
    walk_at "rs"
    exact ⟨rfl, _, rfl, _, _, rfl, e0, rfl, told q⟩
end
end K

set_option maxRecDepth 100000
set_option maxHeartbeats 4000000
set_option synthInstance.maxSize 100000
set_option synthInstance.maxHeartbeats 4000000
namespace K
open PySem PySem.Spec PyProof.Rows L2 Gd
local macro_rules | `(tactic| walk_at "mulok") => `(tactic| first | exact Or.inr ⟨by decide, by decide⟩ | exact Or.inl ⟨by decide, by decide⟩ | exact Or.inr ⟨by omega, by omega⟩ | exact Or.inl ⟨by omega, by omega⟩)
local macro_rules | `(tactic| walk_at "st") => `(tactic| first
  | refine ⟨_, rfl, ?_⟩
  | refine ⟨_, _, rfl, rfl, (by walk_at "mulok"), ?_⟩
  | refine ⟨_, _, rfl, rfl, (by show (0 : Int) < _; decide), ?_⟩
  | refine ⟨_, _, rfl, rfl, ⟨by decide, by decide⟩, ?_⟩
  | refine ⟨_, _, rfl, rfl, ?_⟩)
local macro_rules | `(tactic| walk_at "st0") => `(tactic| simp only [List.map_cons, List.map_nil, List.append_nil, List.cons_append, List.nil_append, List.length_cons, List.length_nil, Nat.reduceSub, Nat.reduceAdd, Nat.sub_self, List.replicate])
local macro_rules | `(tactic| walk_at "rd") => `(tactic| dsimp only [Dl.rRaise, Dl.rEqOD, Dl.rNeOD, Dl.rInOD, Dl.inOD, Dl.rLend, Dl.rBorX, Dl.rLnO, Dl.rBoO, Dl.rStO, Dl.rFmt, Dl.rJn, Dl.rJc, Dl.rJs, Dl.dJoin, Dl.dRepL, Dl.rDispT, Dl.rBor, Dl.rMakeN, Dl.rMakeN0, Dl.rTold, Dl.rTypX, Dl.dTX, Dl.dEqTT, Dl.rDict, Dl.rPin, Dl.pinT, Dl.rWGet, Dl.rMethN, Dl.dRepS, Dl.unp_non, Dl.unp_bl, Dl.unp_int, Dl.unp_str, Dl.unp_wst, Dl.unp_ty, Dl.unp_lst, Dl.unp_tup, Dl.unp_cls, Dl.unp_obj, Dl.unp_far, Dl.unp_dct, Dl.unp_pin, Dl.rRet, Dl.rRetN, Dl.rIfS, Dl.rSeq, Dl.rNext, Dl.rDrop, Dl.rAsg, Dl.rName, Dl.rPar, Dl.rPar3, Dl.rAndV, Dl.rOrV, Dl.rNotV, Dl.dIsi, Dl.dDivmod, Dl.mput, Dl.rUn, Dl.rGset, Dl.rFrz, Dl.rAnd, Dl.rOr, Dl.rNot, Dl.rTest, Dl.rTru, Dl.rIf, Dl.rOp, Dl.rOpL, Dl.rCB, Dl.rCBL, Dl.rCons, Dl.rNil, Dl.rVar, Dl.rC, Dl.rStr, Dl.d1, Dl.fTyp, Dl.fLenS, Dl.fLenQ, Dl.fAll, Dl.fSum, Dl.fRepr, Dl.fTupOf, Dl.dTy, Dl.nb, Dl.dInT, Dl.dIn, Dl.dN, Dl.dEq, Dl.dEqD, Dl.dI0, Dl.dIC, Dl.dCat, Dl.dCatL, Dl.dCatS, Dl.dCatT, Dl.dIxL, Dl.dIxT, Dl.dIxS, Dl.rChain, Dl.rChain3, Dl.rTup, Dl.rLst, Dl.rFroz, Dl.rKeep, Dl.rFld, Dl.rBM, Dl.dAppend, Dl.dReverse, Dl.dClear, Dl.dExtend, Dl.rCK, Dl.fMinD, Dl.rCall, Dl.rCall0, Dl.rMeth, Dl.rMeth0, Dl.rMethN0, Dl.rMake, Dl.rMake0, Dl.rSetF, Dl.rGtup, Dl.rGlst, Dl.dIsB, Dl.rGcons, Dl.rGnil, Dl.rIlst, Dl.rItup, Dl.rIenum, Dl.rIenumT, Dl.rIzip, Dl.rIzip3, Dl.rSlcL, Dl.rSlcT, Dl.rSlcS, Dl.rNoPart, Dl.rPart, Dl.dSS, Dl.dII, Dl.dListOf, Dl.dSortI, Dl.rtD, Dl.rtL, List.map_cons, List.map_nil, List.length_cons, List.length_nil, List.cons_append, List.nil_append, List.append_nil, List.replicate, Nat.reduceSub, Nat.reduceAdd, Nat.sub_self, Nat.sub_zero, List.getElem?_cons_zero, List.getElem?_cons_succ, List.set_cons_zero, List.set_cons_succ, List.take_succ_cons, List.take_zero, List.take_nil, Dl.view, Dl.T.tyn, Dl.T.tyx, Dl.T.isN, Dl.T.sc, Dl.T.flat, Dl.flats])
local macro_rules | `(tactic| walk_at "rs") => `(tactic| dsimp only [Dl.rRaise, Dl.rEqOD, Dl.rNeOD, Dl.rInOD, Dl.inOD, Dl.rLend, Dl.rBorX, Dl.rLnO, Dl.rBoO, Dl.rStO, Dl.rFmt, Dl.rJn, Dl.rJc, Dl.rJs, Dl.dJoin, Dl.dRepL, Dl.rDispT, Dl.rBor, Dl.rMakeN, Dl.rMakeN0, Dl.rTold, Dl.rTypX, Dl.dTX, Dl.dEqTT, Dl.rDict, Dl.rPin, Dl.pinT, Dl.rWGet, Dl.rMethN, Dl.dRepS, Dl.unp_non, Dl.unp_bl, Dl.unp_int, Dl.unp_str, Dl.unp_wst, Dl.unp_ty, Dl.unp_lst, Dl.unp_tup, Dl.unp_cls, Dl.unp_obj, Dl.unp_far, Dl.unp_dct, Dl.unp_pin, Dl.rRet, Dl.rRetN, Dl.rIfS, Dl.rNext, Dl.rDrop, Dl.rAsg, Dl.rName, Dl.rPar, Dl.rPar3, Dl.rAndV, Dl.rOrV, Dl.rNotV, Dl.dIsi, Dl.dDivmod, Dl.mput, Dl.rUn, Dl.rGset, Dl.rFrz, Dl.rAnd, Dl.rOr, Dl.rNot, Dl.rTest, Dl.rTru, Dl.rIf, Dl.rOp, Dl.rOpL, Dl.rCB, Dl.rCBL, Dl.rCons, Dl.rNil, Dl.rVar, Dl.rC, Dl.rStr, Dl.d1, Dl.fTyp, Dl.fLenS, Dl.fLenQ, Dl.fAll, Dl.fSum, Dl.fRepr, Dl.fTupOf, Dl.dTy, Dl.nb, Dl.dInT, Dl.dIn, Dl.dN, Dl.dEq, Dl.dEqD, Dl.dI0, Dl.dIC, Dl.dCat, Dl.dCatL, Dl.dCatS, Dl.dCatT, Dl.dIxL, Dl.dIxT, Dl.dIxS, Dl.rChain, Dl.rChain3, Dl.rTup, Dl.rLst, Dl.rFroz, Dl.rKeep, Dl.rFld, Dl.rBM, Dl.dAppend, Dl.dReverse, Dl.dClear, Dl.dExtend, Dl.rCK, Dl.fMinD, Dl.rCall, Dl.rCall0, Dl.rMeth, Dl.rMeth0, Dl.rMethN0, Dl.rMake, Dl.rMake0, Dl.rSetF, Dl.rGtup, Dl.rGlst, Dl.dIsB, Dl.rGcons, Dl.rGnil, Dl.rIlst, Dl.rItup, Dl.rIenum, Dl.rIenumT, Dl.rIzip, Dl.rIzip3, Dl.rSlcL, Dl.rSlcT, Dl.rSlcS, Dl.rNoPart, Dl.rPart, Dl.dSS, Dl.dII, Dl.dListOf, Dl.dSortI, Dl.rtD, Dl.rtL, List.map_cons, List.map_nil, List.length_cons, List.length_nil, List.cons_append, List.nil_append, List.append_nil, List.replicate, Nat.reduceSub, Nat.reduceAdd, Nat.sub_self, Nat.sub_zero, List.getElem?_cons_zero, List.getElem?_cons_succ, List.set_cons_zero, List.set_cons_succ, List.take_succ_cons, List.take_zero, List.take_nil, Dl.view, Dl.T.tyn, Dl.T.tyx, Dl.T.isN, Dl.T.sc, Dl.T.flat, Dl.flats])
open Dl Rm
def dUnl (C : Addr) : DSpec := fun ts μ Φ _ => ∃ (n : Nat) (zs : List PySem.Str) (L : Int) (l : List Cal), ts = [.rs 0, .lst (zs.map .str), plnT L l] ∧ μ = [.drw nxt (n + 3)] ∧ zs.length = 6 ∧ (∀ z ∈ zs, nmS z = true) ∧ (∀ z ∈ zs.take 4, zs[4]? ≠ some z) ∧ (∀ c ∈ l, c.2.1 ∈ zs.take 4) ∧ OkC L l ∧ ∀ m : Nat, n ≤ m → Φ (.bl true) [.drw nxt m]
theorem shown_b : Shw (.list [.bool false, .bool true, .bool false]) ∧ (PyData.list [.bool false, .bool true, .bool false]).shown = Str.ofString "[False, True, False]" := by
  have sw := (Sws.cons (.bl false) (.cons (.bl true) (.cons (.bl false) .nil))).l
  exact ⟨sw.shw (by decide) (by decide), by decide +kernel⟩
section
variable {P : Program} {w : World} {K : PySem.W.Frag} {mg : PySem.Str → Option Value} {base : Heap}
theorem ok_law_unlike_right (T : Txt mg K w.params) : FnG P w K mg base 7 T.f_law_unlike_right T.fd_law_unlike_right ["m", "w", "plain"] (liftSp K 3 (dUnl T.C_Round)) := by
  refine FunD.okG T.F_law_unlike_right sc_law_unlike_right lift_len (fun cdv A outer s H vs Q E hA hr h => ⟨_, pss_cons (ps_par (i := 3) (j := 4) (by rfl) sc_law_unlike_right.nd rfl rfl (by decide) rfl rfl (pa_cons (pe_makeX T.mk_Round (ok_Round_init T) (hr.mono (by decide)) (by rfl) T.g_Round (b_Round_init_3 T) pass0 (pa_cons (pe_ix (ixtK (K := K) rfl) (pv 2) (pe_int) (fun _ _ => rfl)) (pa_cons (pe_ix (ixtK (K := K) rfl) (pv 2) (pe_int) (fun _ _ => rfl)) pa_nil))) (pa_cons (pe_callX (ok_law_otherwise T) (hr.mono (by decide)) (by rfl) T.g_law_otherwise T.F_law_otherwise.kp (b_law_otherwise_3 T) pass0 (pa_cons (pv 0) (pa_cons (pv 1) (pa_cons (pv 2) pa_nil)))) pa_nil)) (by rfl))
 (pss_cons (ps_if (PW.pt (pw_or (pt_not (pt_val (pe_callGX (ok_law_alike T) hA (hr.mono (by decide)) (by rfl) T.g_law_alike T.F_law_alike.kp (b_law_alike_3 T) (pa_cons (pv 3) (pa_cons (pe_makeX T.mk_Round (ok_Round_init T) (hr.mono (by decide)) (by rfl) T.g_Round (b_Round_init_3 T) pass0 (pa_cons (pe_ix (ixtK (K := K) rfl) (pv 4) (pe_int) (fun _ _ => rfl)) (pa_cons (pe_ix (ixtK (K := K) rfl) (pv 4) (pe_int) (fun _ _ => rfl)) pa_nil))) (pa_cons (pe_bl) pa_nil)))))) (pw_or1 (pt_not (pt_val (pe_callGX (ok_law_told_right T) hA (hr.mono (by decide)) (by rfl) T.g_law_told_right T.F_law_told_right.kp (b_law_told_right_2 T) (pa_cons (pv 3) (pa_cons (pv 2) pa_nil)))))))) (pss_one (ps_ret (pe_bl))) (pss_nil))
 (pss_cons (ps_for PassesOwn.never rfl (piTK (K := K) rfl (pe_tup (pa_cons (pe_non) (pa_cons (pe_ix (ixtK (K := K) rfl) (pv 2) (pe_int) (fun _ _ => rfl)) (pa_cons (pe_ix (ixtK (K := K) rfl) (pv 2) (pe_int) (fun _ _ => rfl)) (pa_cons (pe_callTy (listOfK (K := K) rfl) (by rfl) T.n_list (by decide +kernel) (pa_cons (pe_ix (ixtK (K := K) rfl) (pv 2) (pe_int) (fun _ _ => rfl)) pa_nil)) (pa_cons (pe_methX0 (pv 3) T.cl_Round T.m_Round_calls (ok_Round_calls T) (hr.mono (by decide)) (b_Round_calls_1 T) pass0) (pa_cons (pe_callX (ok_law_text T) (hr.mono (by decide)) (by rfl) T.g_law_text T.F_law_text.kp (b_law_text_1 T) pass0 (pa_cons (pv 2) pa_nil)) (pa_cons (pv 2) (pa_cons (pe_dnewK) pa_nil)))))))))) (pg_name (i := 5) sc_law_unlike_right.nd rfl (.inl rfl)) (pss_one (ps_if (pt_cmpR op_ne (pe_callB (reprK (K := K) rfl hA hr.units) (by rfl) T.n_repr (by decide +kernel) (pa_cons (pe_lst (pa_cons (pe_cmpR (Dl.eqOK (K := K) (k := 2) rfl (eql_cons rfl (ok_Round_eq T) (by decide) (b_Round_eq_2 T) T.eo_Round eql_nil) (hr.mono (by decide))) (pv 3) (pv 5) (by first | rfl | exact nomark _)) (pa_cons (pe_cmpR (Dl.neOK (K := K) (k := 2) rfl (eql_cons rfl (ok_Round_eq T) (by decide) (b_Round_eq_2 T) T.eo_Round eql_nil) (hr.mono (by decide))) (pv 3) (pv 5) (by first | rfl | exact nomark _)) (pa_cons (pe_cmpR (Dl.eqOK (K := K) (k := 2) rfl (eql_cons rfl (ok_Round_eq T) (by decide) (b_Round_eq_2 T) T.eo_Round eql_nil) (hr.mono (by decide))) (pv 5) (pv 3) (by first | rfl | exact nomark _)) pa_nil)))) pa_nil)) (pe_str) (by first | rfl | exact nomark _)) (pss_one (ps_ret (pe_bl))) (pss_nil))))
 (pss_one (ps_ret (pe_bl))))), body_sim h ?_⟩)
  rintro ts μ Φ xw hl ⟨n, zs, L, l, rfl, rfl, zl, zn, z4, ln, ok, q⟩
  have l12 := ok.len
  walk_at "st0"
  refine rSeq_go ?_
  unfold plnT callsT
  walk_at "rs"
  refine ⟨_, _, rfl, rfl, _, _, rfl, rfl, cok_Round T, rfl, ?_⟩
  refine mk_rnd (μ := [Res.drw nxt (n + 3)]) ok (.inl ⟨rfl, .inl (.inl rfl)⟩) rfl ?_
  refine ⟨rfl, rfl, rfs L l, rfl, rfl, ?_⟩
  refine callR (k := 0) rfl rfl ⟨n, zs, L, l, rfl, rfl, zl, zn, z4, ln, ok, fun L2 l2 m ok2 ne nm => ?_⟩
  unfold plnT callsT
  refine rSeq_cut (fun ρ μ => ρ = [some (.rs 0), some (.lst (zs.map .str)), some (.tup [.int L, .tup (l.map callT)]), some (rndT T.C_Round L l), some (.tup [.int L2, .tup (l2.map callT)]), none] ∧ μ = [.drw nxt m]) (fun N hN => ?_) ?_
  · walk_at "rs"
    refine ⟨_, _, rfl, rfl, _, _, rfl, rfl, cok_Round T, rfl, ?_⟩
    refine mk_rnd (μ := [Res.drw nxt m]) ok2 (.inl ⟨rfl, .inl (.inl rfl)⟩) rfl ?_
    refine ⟨rfl, rfl, rfs L2 l2, rfl, rfl, callF rfl ⟨L, L2, l, l2, false, rfl, rfl, ok, ok2, (decide_eq_false ne).symm, iteF' rfl ⟨rfl, callF rfl ⟨L, l, rfl, rfl, ok, iteF' rfl (hN _ _ ⟨rfl, rfl⟩)⟩⟩⟩⟩
  rintro ρ μ ⟨rfl, rfl⟩
  refine rSeq_go ?_
  unfold rFor
  walk_at "rs"
  refine ⟨_, _, rfl, rfl, _, _, rfl, rfl, _, _, rfl, rfl, ?_⟩
  dsimp only [unp_tup]
  refine ⟨⟨_, rfl, rfl⟩, rfl, callF rfl ⟨L, l, rfl, rfl, ok, rfl, callF rfl ⟨L, l, rfl, rfl, ok, fun a => ⟨rfl, by decide, ?_⟩⟩⟩⟩
  refine ⟨fun i ρ μ => ∃ a, ρ = [some (.rs 0), some (.lst (zs.map .str)), some (.tup [.int L, .tup (l.map callT)]), some (rndT T.C_Round L l), some (.tup [.int L2, .tup (l2.map callT)]), a] ∧ μ = [.drw nxt m], ⟨_, rfl, rfl⟩, ?_, ?_⟩
  · rintro i t ρ μ et ⟨a, rfl, rfl⟩
    have od : OddT t := by
      have hm := List.mem_of_getElem? et
      simp only [List.mem_cons, List.not_mem_nil, or_false] at hm
      rcases hm with rfl | rfl | rfl | rfl | rfl | rfl | rfl | rfl <;> exact ⟨⟨_, rfl⟩, rfl⟩
    walk_at "rs"
    refine .inl (eqR_odd ok od (eqR_odd ok od (oddR_eq ok od ?_)))
    refine ⟨rfl, by decide, .list [.bool false, .bool true, .bool false], rfl, shown_b.1, by decide +kernel, rfl, iteF' (by simp [shown_b.2]) ⟨_, rfl, rfl⟩⟩
  · rintro ρ μ ⟨a, rfl, rfl⟩
    exact q _ nm
end
end K

set_option maxRecDepth 100000
set_option maxHeartbeats 4000000
set_option synthInstance.maxSize 100000
set_option synthInstance.maxHeartbeats 4000000
namespace K
open PySem PySem.Spec PyProof.Rows L2 Gd
local macro_rules | `(tactic| walk_at "mulok") => `(tactic| first | exact Or.inr ⟨by decide, by decide⟩ | exact Or.inl ⟨by decide, by decide⟩ | exact Or.inr ⟨by omega, by omega⟩ | exact Or.inl ⟨by omega, by omega⟩)
local macro_rules | `(tactic| walk_at "st") => `(tactic| first
  | refine ⟨_, rfl, ?_⟩
  | refine ⟨_, _, rfl, rfl, (by walk_at "mulok"), ?_⟩
  | refine ⟨_, _, rfl, rfl, (by show (0 : Int) < _; decide), ?_⟩
  | refine ⟨_, _, rfl, rfl, ⟨by decide, by decide⟩, ?_⟩
  | refine ⟨_, _, rfl, rfl, ?_⟩)
local macro_rules | `(tactic| walk_at "st0") => `(tactic| simp only [List.map_cons, List.map_nil, List.append_nil, List.cons_append, List.nil_append, List.length_cons, List.length_nil, Nat.reduceSub, Nat.reduceAdd, Nat.sub_self, List.replicate])
local macro_rules | `(tactic| walk_at "rd") => `(tactic| dsimp only [Dl.rRaise, Dl.rEqOD, Dl.rNeOD, Dl.rInOD, Dl.inOD, Dl.rLend, Dl.rBorX, Dl.rLnO, Dl.rBoO, Dl.rStO, Dl.rFmt, Dl.rJn, Dl.rJc, Dl.rJs, Dl.dJoin, Dl.dRepL, Dl.rDispT, Dl.rBor, Dl.rMakeN, Dl.rMakeN0, Dl.rTold, Dl.rTypX, Dl.dTX, Dl.dEqTT, Dl.rDict, Dl.rPin, Dl.pinT, Dl.rWGet, Dl.rMethN, Dl.dRepS, Dl.unp_non, Dl.unp_bl, Dl.unp_int, Dl.unp_str, Dl.unp_wst, Dl.unp_ty, Dl.unp_lst, Dl.unp_tup, Dl.unp_cls, Dl.unp_obj, Dl.unp_far, Dl.unp_dct, Dl.unp_pin, Dl.rRet, Dl.rRetN, Dl.rIfS, Dl.rSeq, Dl.rNext, Dl.rDrop, Dl.rAsg, Dl.rName, Dl.rPar, Dl.rPar3, Dl.rAndV, Dl.rOrV, Dl.rNotV, Dl.dIsi, Dl.dDivmod, Dl.mput, Dl.rUn, Dl.rGset, Dl.rFrz, Dl.rAnd, Dl.rOr, Dl.rNot, Dl.rTest, Dl.rTru, Dl.rIf, Dl.rOp, Dl.rOpL, Dl.rCB, Dl.rCBL, Dl.rCons, Dl.rNil, Dl.rVar, Dl.rC, Dl.rStr, Dl.d1, Dl.fTyp, Dl.fLenS, Dl.fLenQ, Dl.fAll, Dl.fSum, Dl.fRepr, Dl.fTupOf, Dl.dTy, Dl.nb, Dl.dInT, Dl.dIn, Dl.dN, Dl.dEq, Dl.dEqD, Dl.dI0, Dl.dIC, Dl.dCat, Dl.dCatL, Dl.dCatS, Dl.dCatT, Dl.dIxL, Dl.dIxT, Dl.dIxS, Dl.rChain, Dl.rChain3, Dl.rTup, Dl.rLst, Dl.rFroz, Dl.rKeep, Dl.rFld, Dl.rBM, Dl.dAppend, Dl.dReverse, Dl.dClear, Dl.dExtend, Dl.rCK, Dl.fMinD, Dl.rCall, Dl.rCall0, Dl.rMeth, Dl.rMeth0, Dl.rMethN0, Dl.rMake, Dl.rMake0, Dl.rSetF, Dl.rGtup, Dl.rGlst, Dl.dIsB, Dl.rGcons, Dl.rGnil, Dl.rIlst, Dl.rItup, Dl.rIenum, Dl.rIenumT, Dl.rIzip, Dl.rIzip3, Dl.rSlcL, Dl.rSlcT, Dl.rSlcS, Dl.rNoPart, Dl.rPart, Dl.dSS, Dl.dII, Dl.dListOf, Dl.dSortI, Dl.rtD, Dl.rtL, List.map_cons, List.map_nil, List.length_cons, List.length_nil, List.cons_append, List.nil_append, List.append_nil, List.replicate, Nat.reduceSub, Nat.reduceAdd, Nat.sub_self, Nat.sub_zero, List.getElem?_cons_zero, List.getElem?_cons_succ, List.set_cons_zero, List.set_cons_succ, List.take_succ_cons, List.take_zero, List.take_nil, Dl.view, Dl.T.tyn, Dl.T.tyx, Dl.T.isN, Dl.T.sc, Dl.T.flat, Dl.flats])
local macro_rules | `(tactic| walk_at "rs") => `(tactic| dsimp only [Dl.rRaise, Dl.rEqOD, Dl.rNeOD, Dl.rInOD, Dl.inOD, Dl.rLend, Dl.rBorX, Dl.rLnO, Dl.rBoO, Dl.rStO, Dl.rFmt, Dl.rJn, Dl.rJc, Dl.rJs, Dl.dJoin, Dl.dRepL, Dl.rDispT, Dl.rBor, Dl.rMakeN, Dl.rMakeN0, Dl.rTold, Dl.rTypX, Dl.dTX, Dl.dEqTT, Dl.rDict, Dl.rPin, Dl.pinT, Dl.rWGet, Dl.rMethN, Dl.dRepS, Dl.unp_non, Dl.unp_bl, Dl.unp_int, Dl.unp_str, Dl.unp_wst, Dl.unp_ty, Dl.unp_lst, Dl.unp_tup, Dl.unp_cls, Dl.unp_obj, Dl.unp_far, Dl.unp_dct, Dl.unp_pin, Dl.rRet, Dl.rRetN, Dl.rIfS, Dl.rNext, Dl.rDrop, Dl.rAsg, Dl.rName, Dl.rPar, Dl.rPar3, Dl.rAndV, Dl.rOrV, Dl.rNotV, Dl.dIsi, Dl.dDivmod, Dl.mput, Dl.rUn, Dl.rGset, Dl.rFrz, Dl.rAnd, Dl.rOr, Dl.rNot, Dl.rTest, Dl.rTru, Dl.rIf, Dl.rOp, Dl.rOpL, Dl.rCB, Dl.rCBL, Dl.rCons, Dl.rNil, Dl.rVar, Dl.rC, Dl.rStr, Dl.d1, Dl.fTyp, Dl.fLenS, Dl.fLenQ, Dl.fAll, Dl.fSum, Dl.fRepr, Dl.fTupOf, Dl.dTy, Dl.nb, Dl.dInT, Dl.dIn, Dl.dN, Dl.dEq, Dl.dEqD, Dl.dI0, Dl.dIC, Dl.dCat, Dl.dCatL, Dl.dCatS, Dl.dCatT, Dl.dIxL, Dl.dIxT, Dl.dIxS, Dl.rChain, Dl.rChain3, Dl.rTup, Dl.rLst, Dl.rFroz, Dl.rKeep, Dl.rFld, Dl.rBM, Dl.dAppend, Dl.dReverse, Dl.dClear, Dl.dExtend, Dl.rCK, Dl.fMinD, Dl.rCall, Dl.rCall0, Dl.rMeth, Dl.rMeth0, Dl.rMethN0, Dl.rMake, Dl.rMake0, Dl.rSetF, Dl.rGtup, Dl.rGlst, Dl.dIsB, Dl.rGcons, Dl.rGnil, Dl.rIlst, Dl.rItup, Dl.rIenum, Dl.rIenumT, Dl.rIzip, Dl.rIzip3, Dl.rSlcL, Dl.rSlcT, Dl.rSlcS, Dl.rNoPart, Dl.rPart, Dl.dSS, Dl.dII, Dl.dListOf, Dl.dSortI, Dl.rtD, Dl.rtL, List.map_cons, List.map_nil, List.length_cons, List.length_nil, List.cons_append, List.nil_append, List.append_nil, List.replicate, Nat.reduceSub, Nat.reduceAdd, Nat.sub_self, Nat.sub_zero, List.getElem?_cons_zero, List.getElem?_cons_succ, List.set_cons_zero, List.set_cons_succ, List.take_succ_cons, List.take_zero, List.take_nil, Dl.view, Dl.T.tyn, Dl.T.tyx, Dl.T.isN, Dl.T.sc, Dl.T.flat, Dl.flats])
open Dl Rm
section
variable {P : Program} {w : World} {K : PySem.W.Frag} {mg : PySem.Str → Option Value} {base : Heap}
theorem ok_law (T : Txt mg K w.params) : FnG P w K mg base 9 T.f_law T.fd_law ["script"] (spLawD K) := by
  refine FunD.okG T.F_law sc_law law_len (fun cdv A outer s H vs Q E hA hr h => ⟨_, pss_cons (ps_set (i := 1) sc_law.nd rfl (.inl rfl) (pe_callX (ok_law_begun T) (hr.mono (by decide)) (by rfl) T.g_law_begun T.F_law_begun.kp (b_law_begun_1 T) pass0 (pa_cons (pv 0) pa_nil)))
 (pss_cons (ps_for PassesOwn.never rfl (pi_range1 (by rfl) T.n_range (pa_cons (pe_int) pa_nil)) (pg_name (i := 2) sc_law.nd rfl (.inl rfl)) (pss_cons (ps_set (i := 3) sc_law.nd rfl (.inl rfl) (pe_callX (ok_law_called T) (hr.mono (by decide)) (by rfl) T.g_law_called T.F_law_called.kp (b_law_called_2 T) pass0 (pa_cons (pv 1) (pa_cons (pe_int) pa_nil))))
 (pss_cons (ps_set (i := 4) sc_law.nd rfl (.inl rfl) (pe_callX (ok_law_plain T) (hr.mono (by decide)) (by rfl) T.g_law_plain T.F_law_plain.kp (b_law_plain_3 T) pass0 (pa_cons (pv 1) (pa_cons (pv 3) (pa_cons (pe_int) pa_nil)))))
 (pss_one (ps_if (PW.pt (pw_or (pt_not (pt_val (pe_callGX (ok_law_made_right T) hA (hr.mono (by decide)) (by rfl) T.g_law_made_right T.F_law_made_right.kp (b_law_made_right_1 T) (pa_cons (pv 4) pa_nil)))) (pw_or1 (pt_not (pt_val (pe_callGX (ok_law_unlike_right T) hA (hr.mono (by decide)) (by rfl) T.g_law_unlike_right T.F_law_unlike_right.kp (b_law_unlike_right_3 T) (pa_cons (pv 1) (pa_cons (pv 3) (pa_cons (pv 4) pa_nil))))))))) (pss_one (ps_ret (pe_bl))) (pss_nil))))))
 (pss_one (ps_ret (pe_bl)))), law_sim h (by decide) ?_⟩)
  walk_at "st0"
  refine rSeq_go ?_
  unfold rFor
  dsimp only
  walk_at "rs"
  refine ⟨by decide, by decide, fun i ρ μ => ∃ (a b c d : Option Dl.T) (n : Nat), ρ = [a, some (.rs 0), b, c, d] ∧ μ = [.drw nxt n] ∧ 1000000 ≤ n + i * 200, ⟨_, _, _, _, _, rfl, rfl, by omega⟩, ?_, ?_⟩
  · rintro i t ρ μ et ⟨a, b, c, d, n, rfl, rfl, hn⟩
    obtain ⟨i4, rfl⟩ := range_at et
    have i4 : i < 4 := i4
    walk_at "rs"
    refine rSeq_go ?_
    walk_at "rs"
    obtain ⟨n1, rfl⟩ : ∃ n1, n = n1 + 3 + 6 * 8 := ⟨n - 51, by omega⟩
    refine ⟨rfl, callR (k := 0) rfl rfl ⟨n1, 6, rfl, rfl, by decide, fun zs m zl zn z4 hm => ?_⟩⟩
    walk_at "rs"
    refine rSeq_go ?_
    walk_at "rs"
    obtain ⟨n2, rfl⟩ : ∃ n2, m = n2 + 100 := ⟨m - 100, by omega⟩
    refine ⟨rfl, callR (k := 0) rfl rfl ⟨n2, zs, 1000, rfl, rfl, zl, zn, by decide, by decide, fun L l m2 ok ln h2 => ?_⟩⟩
    walk_at "rs"
    refine ⟨rfl, callF rfl ⟨L, l, rfl, rfl, ok, ?_⟩⟩
    walk_at "rs"
    obtain ⟨n3, rfl⟩ : ∃ n3, m2 = n3 + 3 := ⟨m2 - 3, by omega⟩
    refine iteF' rfl ⟨rfl, callR (k := 0) rfl rfl ⟨n3, zs, L, l, rfl, rfl, zl, zn, z4, ln, ok, fun m3 h3 => ?_⟩⟩
    exact iteF' rfl ⟨_, _, _, _, m3, rfl, rfl, by omega⟩
  · rintro ρ μ ⟨a, b, c, d, n, rfl, rfl, hn⟩
    rfl
end
end K

set_option maxRecDepth 100000
set_option maxHeartbeats 4000000
set_option synthInstance.maxSize 100000
set_option synthInstance.maxHeartbeats 4000000
namespace K
open PySem PySem.Spec PyProof.Rows L2 Gd
open Dl
def txt_mk {K : PySem.W.Frag} {h : Heap} {mg : PySem.Str → Option Value} {prm : Params} (X : K.In h) (G : h.Ns mainGlobals mg)
    {C_Round : Addr}
    {t_MOST_LETTERS : Tok}
    {a_NO_NAMES : Addr} {t_NO_NAMES_0 t_NO_NAMES_1 t_NO_NAMES_2 t_NO_NAMES_3 t_NO_NAMES_4 t_NO_NAMES_5 t_NO_NAMES_6 t_NO_NAMES_7 t_NO_NAMES_8 t_NO_NAMES_9 : Tok} {dd_NO_NAMES : Option Addr} {nn_NO_NAMES : Nat} {sl_NO_NAMES : Array (Option Value)}
    {t_MOST_LENGTH : Tok}
    {t_MOST_CALLS : Tok}
    {t_MOST_CALL_HOURS : Tok}
    {f_is_whole : Addr} {od_is_whole an_is_whole : Option Addr} {sl_is_whole : Array (Option Value)} {oc_is_whole kV_is_whole dc_is_whole pm_is_whole cd_is_whole ct_is_whole : Value}
    {D_is_whole : Addr} {u_is_whole_0 : Tok} {dd_is_whole : Option Addr} {nn_is_whole : Nat} {sd_is_whole : Array (Option Value)} {oc2_is_whole : Value}
    {f_is_name : Addr} {od_is_name an_is_name : Option Addr} {sl_is_name : Array (Option Value)} {oc_is_name kV_is_name dc_is_name pm_is_name cd_is_name ct_is_name : Value}
    {f_are_calls : Addr} {od_are_calls an_are_calls : Option Addr} {sl_are_calls : Array (Option Value)} {oc_are_calls kV_are_calls dc_are_calls pm_are_calls cd_are_calls ct_are_calls : Value}
    {f_Round_init : Addr} {od_Round_init an_Round_init : Option Addr} {sl_Round_init : Array (Option Value)} {oc_Round_init kV_Round_init dc_Round_init pm_Round_init cd_Round_init ct_Round_init : Value}
    {D_Round_init : Addr}  {dd_Round_init : Option Addr} {nn_Round_init : Nat} {sd_Round_init : Array (Option Value)} {oc2_Round_init : Value}
    {f_Round__first_begins : Addr} {od_Round__first_begins an_Round__first_begins : Option Addr} {sl_Round__first_begins : Array (Option Value)} {oc_Round__first_begins kV_Round__first_begins dc_Round__first_begins pm_Round__first_begins cd_Round__first_begins ct_Round__first_begins : Value}
    {f_Round_length : Addr} {od_Round_length an_Round_length : Option Addr} {sl_Round_length : Array (Option Value)} {oc_Round_length kV_Round_length dc_Round_length pm_Round_length cd_Round_length ct_Round_length : Value}
    {f_Round_total : Addr} {od_Round_total an_Round_total : Option Addr} {sl_Round_total : Array (Option Value)} {oc_Round_total kV_Round_total dc_Round_total pm_Round_total cd_Round_total ct_Round_total : Value}
    {f_Round_calls : Addr} {od_Round_calls an_Round_calls : Option Addr} {sl_Round_calls : Array (Option Value)} {oc_Round_calls kV_Round_calls dc_Round_calls pm_Round_calls cd_Round_calls ct_Round_calls : Value}
    {f_Round_keeps_up : Addr} {od_Round_keeps_up an_Round_keeps_up : Option Addr} {sl_Round_keeps_up : Array (Option Value)} {oc_Round_keeps_up kV_Round_keeps_up dc_Round_keeps_up pm_Round_keeps_up cd_Round_keeps_up ct_Round_keeps_up : Value}
    {f_Round_eq : Addr} {od_Round_eq an_Round_eq : Option Addr} {sl_Round_eq : Array (Option Value)} {oc_Round_eq kV_Round_eq dc_Round_eq pm_Round_eq cd_Round_eq ct_Round_eq : Value}
    {f_Round_len : Addr} {od_Round_len an_Round_len : Option Addr} {sl_Round_len : Array (Option Value)} {oc_Round_len kV_Round_len dc_Round_len pm_Round_len cd_Round_len ct_Round_len : Value}
    {f_Round_str : Addr} {od_Round_str an_Round_str : Option Addr} {sl_Round_str : Array (Option Value)} {oc_Round_str kV_Round_str dc_Round_str pm_Round_str cd_Round_str ct_Round_str : Value}
    {f_law_mixed : Addr} {od_law_mixed an_law_mixed : Option Addr} {sl_law_mixed : Array (Option Value)} {oc_law_mixed kV_law_mixed dc_law_mixed pm_law_mixed cd_law_mixed ct_law_mixed : Value}
    {f_law_folded : Addr} {od_law_folded an_law_folded : Option Addr} {sl_law_folded : Array (Option Value)} {oc_law_folded kV_law_folded dc_law_folded pm_law_folded cd_law_folded ct_law_folded : Value}
    {f_law_draw : Addr} {od_law_draw an_law_draw : Option Addr} {sl_law_draw : Array (Option Value)} {oc_law_draw kV_law_draw dc_law_draw pm_law_draw cd_law_draw ct_law_draw : Value}
    {f_law_begun : Addr} {od_law_begun an_law_begun : Option Addr} {sl_law_begun : Array (Option Value)} {oc_law_begun kV_law_begun dc_law_begun pm_law_begun cd_law_begun ct_law_begun : Value}
    {f_law_called : Addr} {od_law_called an_law_called : Option Addr} {sl_law_called : Array (Option Value)} {oc_law_called kV_law_called dc_law_called pm_law_called cd_law_called ct_law_called : Value}
    {f_law_plain : Addr} {od_law_plain an_law_plain : Option Addr} {sl_law_plain : Array (Option Value)} {oc_law_plain kV_law_plain dc_law_plain pm_law_plain cd_law_plain ct_law_plain : Value}
    {f_law_text : Addr} {od_law_text an_law_text : Option Addr} {sl_law_text : Array (Option Value)} {oc_law_text kV_law_text dc_law_text pm_law_text cd_law_text ct_law_text : Value}
    {f_law_otherwise : Addr} {od_law_otherwise an_law_otherwise : Option Addr} {sl_law_otherwise : Array (Option Value)} {oc_law_otherwise kV_law_otherwise dc_law_otherwise pm_law_otherwise cd_law_otherwise ct_law_otherwise : Value}
    {f_law_alike : Addr} {od_law_alike an_law_alike : Option Addr} {sl_law_alike : Array (Option Value)} {oc_law_alike kV_law_alike dc_law_alike pm_law_alike cd_law_alike ct_law_alike : Value}
    {f_law_told_right : Addr} {od_law_told_right an_law_told_right : Option Addr} {sl_law_told_right : Array (Option Value)} {oc_law_told_right kV_law_told_right dc_law_told_right pm_law_told_right cd_law_told_right ct_law_told_right : Value}
    {f_law_made_right : Addr} {od_law_made_right an_law_made_right : Option Addr} {sl_law_made_right : Array (Option Value)} {oc_law_made_right kV_law_made_right dc_law_made_right pm_law_made_right cd_law_made_right ct_law_made_right : Value}
    {f_law_unlike_right : Addr} {od_law_unlike_right an_law_unlike_right : Option Addr} {sl_law_unlike_right : Array (Option Value)} {oc_law_unlike_right kV_law_unlike_right dc_law_unlike_right pm_law_unlike_right cd_law_unlike_right ct_law_unlike_right : Value}
    {f_law : Addr} {od_law an_law : Option Addr} {sl_law : Array (Option Value)} {oc_law kV_law dc_law pm_law cd_law ct_law : Value}
    (a_Round : PySem.W.nsIn K mainGlobals "Round" = some (some (.ref C_Round)))
    (z_all : PySem.W.nsIn K mainGlobals "all" = some none)
    (z_bool : PySem.W.nsIn K mainGlobals "bool" = some none)
    (z_enumerate : PySem.W.nsIn K mainGlobals "enumerate" = some none)
    (z_int : PySem.W.nsIn K mainGlobals "int" = some none)
    (z_len : PySem.W.nsIn K mainGlobals "len" = some none)
    (z_list : PySem.W.nsIn K mainGlobals "list" = some none)
    (z_max : PySem.W.nsIn K mainGlobals "max" = some none)
    (z_min : PySem.W.nsIn K mainGlobals "min" = some none)
    (z_range : PySem.W.nsIn K mainGlobals "range" = some none)
    (z_repr : PySem.W.nsIn K mainGlobals "repr" = some none)
    (z_sorted : PySem.W.nsIn K mainGlobals "sorted" = some none)
    (z_str : PySem.W.nsIn K mainGlobals "str" = some none)
    (z_sum : PySem.W.nsIn K mainGlobals "sum" = some none)
    (z_tuple : PySem.W.nsIn K mainGlobals "tuple" = some none)
    (z_type : PySem.W.nsIn K mainGlobals "type" = some none)
    (z_zip : PySem.W.nsIn K mainGlobals "zip" = some none)
    (y_MOST_LETTERS : PySem.W.nsIn K mainGlobals "MOST_LETTERS" = some (some (.int 8 t_MOST_LETTERS)))
    (y_NO_NAMES : PySem.W.nsIn K mainGlobals "NO_NAMES" = some (some (.ref a_NO_NAMES)))
    (x_NO_NAMES : K.lookup a_NO_NAMES = some ⟨.type "tuple", dd_NO_NAMES, .seq #[.str "style" t_NO_NAMES_0, .str "job" t_NO_NAMES_1, .str "round" t_NO_NAMES_2, .str "sew" t_NO_NAMES_3, .str "glue" t_NO_NAMES_4, .str "cover" t_NO_NAMES_5, .str "letter" t_NO_NAMES_6, .str "press" t_NO_NAMES_7, .str "hand" t_NO_NAMES_8, .str "haste" t_NO_NAMES_9] nn_NO_NAMES, sl_NO_NAMES⟩)
    (y_MOST_LENGTH : PySem.W.nsIn K mainGlobals "MOST_LENGTH" = some (some (.int 1000 t_MOST_LENGTH)))
    (y_MOST_CALLS : PySem.W.nsIn K mainGlobals "MOST_CALLS" = some (some (.int 12 t_MOST_CALLS)))
    (y_MOST_CALL_HOURS : PySem.W.nsIn K mainGlobals "MOST_CALL_HOURS" = some (some (.int 1000 t_MOST_CALL_HOURS)))
    (a_is_whole : PySem.W.nsIn K mainGlobals "is_whole" = some (some (.ref f_is_whole)))
    (l_is_whole : K.lookup f_is_whole = some ⟨oc_is_whole, od_is_whole, .func (PySem.W.fnOf "is_whole" "is_whole" (defArgs s_is_whole) (defBody s_is_whole) (defScope s_is_whole) (.ref D_is_whole) kV_is_whole dc_is_whole pm_is_whole an_is_whole cd_is_whole ct_is_whole), sl_is_whole⟩)
    (c_is_whole : PySem.W.codeIn K cd_is_whole "is_whole" = true)
    (k_is_whole : PySem.W.keepIn K (.ref f_is_whole) = true)
    (x_is_whole : K.lookup D_is_whole = some ⟨oc2_is_whole, dd_is_whole, .seq #[.int 1000000 u_is_whole_0] nn_is_whole, sd_is_whole⟩)
    (a_is_name : PySem.W.nsIn K mainGlobals "is_name" = some (some (.ref f_is_name)))
    (l_is_name : K.lookup f_is_name = some ⟨oc_is_name, od_is_name, .func (PySem.W.fnOf "is_name" "is_name" (defArgs s_is_name) (defBody s_is_name) (defScope s_is_name) .none kV_is_name dc_is_name pm_is_name an_is_name cd_is_name ct_is_name), sl_is_name⟩)
    (c_is_name : PySem.W.codeIn K cd_is_name "is_name" = true)
    (k_is_name : PySem.W.keepIn K (.ref f_is_name) = true)
    (a_are_calls : PySem.W.nsIn K mainGlobals "_are_calls" = some (some (.ref f_are_calls)))
    (l_are_calls : K.lookup f_are_calls = some ⟨oc_are_calls, od_are_calls, .func (PySem.W.fnOf "_are_calls" "_are_calls" (defArgs s_are_calls) (defBody s_are_calls) (defScope s_are_calls) .none kV_are_calls dc_are_calls pm_are_calls an_are_calls cd_are_calls ct_are_calls), sl_are_calls⟩)
    (c_are_calls : PySem.W.codeIn K cd_are_calls "_are_calls" = true)
    (k_are_calls : PySem.W.keepIn K (.ref f_are_calls) = true)
    (b_Round : PySem.W.findIn K (.ref C_Round) "__init__" = some (some (.ref f_Round_init)))
    (l_Round_init : K.lookup f_Round_init = some ⟨oc_Round_init, od_Round_init, .func (PySem.W.fnOf "__init__" "Round.__init__" (defArgs s_Round_init) (defBody s_Round_init) (defScope s_Round_init) (.ref D_Round_init) kV_Round_init dc_Round_init pm_Round_init an_Round_init cd_Round_init ct_Round_init), sl_Round_init⟩)
    (c_Round_init : PySem.W.codeIn K cd_Round_init "Round.__init__" = true)
    (k_Round_init : PySem.W.keepIn K (.ref f_Round_init) = true)
    (x_Round_init : K.lookup D_Round_init = some ⟨oc2_Round_init, dd_Round_init, .seq #[.none] nn_Round_init, sd_Round_init⟩)
    (b_Round__first_begins : PySem.W.findIn K (.ref C_Round) "_first_begins" = some (some (.ref f_Round__first_begins)))
    (l_Round__first_begins : K.lookup f_Round__first_begins = some ⟨oc_Round__first_begins, od_Round__first_begins, .func (PySem.W.fnOf "_first_begins" "Round._first_begins" (defArgs s_Round__first_begins) (defBody s_Round__first_begins) (defScope s_Round__first_begins) .none kV_Round__first_begins dc_Round__first_begins pm_Round__first_begins an_Round__first_begins cd_Round__first_begins ct_Round__first_begins), sl_Round__first_begins⟩)
    (c_Round__first_begins : PySem.W.codeIn K cd_Round__first_begins "Round._first_begins" = true)
    (k_Round__first_begins : PySem.W.keepIn K (.ref f_Round__first_begins) = true)
    (b_Round_length : PySem.W.findIn K (.ref C_Round) "length" = some (some (.ref f_Round_length)))
    (l_Round_length : K.lookup f_Round_length = some ⟨oc_Round_length, od_Round_length, .func (PySem.W.fnOf "length" "Round.length" (defArgs s_Round_length) (defBody s_Round_length) (defScope s_Round_length) .none kV_Round_length dc_Round_length pm_Round_length an_Round_length cd_Round_length ct_Round_length), sl_Round_length⟩)
    (c_Round_length : PySem.W.codeIn K cd_Round_length "Round.length" = true)
    (k_Round_length : PySem.W.keepIn K (.ref f_Round_length) = true)
    (b_Round_total : PySem.W.findIn K (.ref C_Round) "total" = some (some (.ref f_Round_total)))
    (l_Round_total : K.lookup f_Round_total = some ⟨oc_Round_total, od_Round_total, .func (PySem.W.fnOf "total" "Round.total" (defArgs s_Round_total) (defBody s_Round_total) (defScope s_Round_total) .none kV_Round_total dc_Round_total pm_Round_total an_Round_total cd_Round_total ct_Round_total), sl_Round_total⟩)
    (c_Round_total : PySem.W.codeIn K cd_Round_total "Round.total" = true)
    (k_Round_total : PySem.W.keepIn K (.ref f_Round_total) = true)
    (b_Round_calls : PySem.W.findIn K (.ref C_Round) "calls" = some (some (.ref f_Round_calls)))
    (l_Round_calls : K.lookup f_Round_calls = some ⟨oc_Round_calls, od_Round_calls, .func (PySem.W.fnOf "calls" "Round.calls" (defArgs s_Round_calls) (defBody s_Round_calls) (defScope s_Round_calls) .none kV_Round_calls dc_Round_calls pm_Round_calls an_Round_calls cd_Round_calls ct_Round_calls), sl_Round_calls⟩)
    (c_Round_calls : PySem.W.codeIn K cd_Round_calls "Round.calls" = true)
    (k_Round_calls : PySem.W.keepIn K (.ref f_Round_calls) = true)
    (b_Round_keeps_up : PySem.W.findIn K (.ref C_Round) "keeps_up" = some (some (.ref f_Round_keeps_up)))
    (l_Round_keeps_up : K.lookup f_Round_keeps_up = some ⟨oc_Round_keeps_up, od_Round_keeps_up, .func (PySem.W.fnOf "keeps_up" "Round.keeps_up" (defArgs s_Round_keeps_up) (defBody s_Round_keeps_up) (defScope s_Round_keeps_up) .none kV_Round_keeps_up dc_Round_keeps_up pm_Round_keeps_up an_Round_keeps_up cd_Round_keeps_up ct_Round_keeps_up), sl_Round_keeps_up⟩)
    (c_Round_keeps_up : PySem.W.codeIn K cd_Round_keeps_up "Round.keeps_up" = true)
    (k_Round_keeps_up : PySem.W.keepIn K (.ref f_Round_keeps_up) = true)
    (b_Round_eq : PySem.W.findIn K (.ref C_Round) "__eq__" = some (some (.ref f_Round_eq)))
    (l_Round_eq : K.lookup f_Round_eq = some ⟨oc_Round_eq, od_Round_eq, .func (PySem.W.fnOf "__eq__" "Round.__eq__" (defArgs s_Round_eq) (defBody s_Round_eq) (defScope s_Round_eq) .none kV_Round_eq dc_Round_eq pm_Round_eq an_Round_eq cd_Round_eq ct_Round_eq), sl_Round_eq⟩)
    (c_Round_eq : PySem.W.codeIn K cd_Round_eq "Round.__eq__" = true)
    (k_Round_eq : PySem.W.keepIn K (.ref f_Round_eq) = true)
    (b_Round_len : PySem.W.findIn K (.ref C_Round) "__len__" = some (some (.ref f_Round_len)))
    (l_Round_len : K.lookup f_Round_len = some ⟨oc_Round_len, od_Round_len, .func (PySem.W.fnOf "__len__" "Round.__len__" (defArgs s_Round_len) (defBody s_Round_len) (defScope s_Round_len) .none kV_Round_len dc_Round_len pm_Round_len an_Round_len cd_Round_len ct_Round_len), sl_Round_len⟩)
    (c_Round_len : PySem.W.codeIn K cd_Round_len "Round.__len__" = true)
    (k_Round_len : PySem.W.keepIn K (.ref f_Round_len) = true)
    (b_Round_str : PySem.W.findIn K (.ref C_Round) "__str__" = some (some (.ref f_Round_str)))
    (l_Round_str : K.lookup f_Round_str = some ⟨oc_Round_str, od_Round_str, .func (PySem.W.fnOf "__str__" "Round.__str__" (defArgs s_Round_str) (defBody s_Round_str) (defScope s_Round_str) .none kV_Round_str dc_Round_str pm_Round_str an_Round_str cd_Round_str ct_Round_str), sl_Round_str⟩)
    (c_Round_str : PySem.W.codeIn K cd_Round_str "Round.__str__" = true)
    (k_Round_str : PySem.W.keepIn K (.ref f_Round_str) = true)
    (a_law_mixed : PySem.W.nsIn K mainGlobals "_law_mixed" = some (some (.ref f_law_mixed)))
    (l_law_mixed : K.lookup f_law_mixed = some ⟨oc_law_mixed, od_law_mixed, .func (PySem.W.fnOf "_law_mixed" "_law_mixed" (defArgs s_law_mixed) (defBody s_law_mixed) (defScope s_law_mixed) .none kV_law_mixed dc_law_mixed pm_law_mixed an_law_mixed cd_law_mixed ct_law_mixed), sl_law_mixed⟩)
    (c_law_mixed : PySem.W.codeIn K cd_law_mixed "_law_mixed" = true)
    (k_law_mixed : PySem.W.keepIn K (.ref f_law_mixed) = true)
    (a_law_folded : PySem.W.nsIn K mainGlobals "_law_folded" = some (some (.ref f_law_folded)))
    (l_law_folded : K.lookup f_law_folded = some ⟨oc_law_folded, od_law_folded, .func (PySem.W.fnOf "_law_folded" "_law_folded" (defArgs s_law_folded) (defBody s_law_folded) (defScope s_law_folded) .none kV_law_folded dc_law_folded pm_law_folded an_law_folded cd_law_folded ct_law_folded), sl_law_folded⟩)
    (c_law_folded : PySem.W.codeIn K cd_law_folded "_law_folded" = true)
    (k_law_folded : PySem.W.keepIn K (.ref f_law_folded) = true)
    (a_law_draw : PySem.W.nsIn K mainGlobals "_law_draw" = some (some (.ref f_law_draw)))
    (l_law_draw : K.lookup f_law_draw = some ⟨oc_law_draw, od_law_draw, .func (PySem.W.fnOf "_law_draw" "_law_draw" (defArgs s_law_draw) (defBody s_law_draw) (defScope s_law_draw) .none kV_law_draw dc_law_draw pm_law_draw an_law_draw cd_law_draw ct_law_draw), sl_law_draw⟩)
    (c_law_draw : PySem.W.codeIn K cd_law_draw "_law_draw" = true)
    (k_law_draw : PySem.W.keepIn K (.ref f_law_draw) = true)
    (a_law_begun : PySem.W.nsIn K mainGlobals "_law_begun" = some (some (.ref f_law_begun)))
    (l_law_begun : K.lookup f_law_begun = some ⟨oc_law_begun, od_law_begun, .func (PySem.W.fnOf "_law_begun" "_law_begun" (defArgs s_law_begun) (defBody s_law_begun) (defScope s_law_begun) .none kV_law_begun dc_law_begun pm_law_begun an_law_begun cd_law_begun ct_law_begun), sl_law_begun⟩)
    (c_law_begun : PySem.W.codeIn K cd_law_begun "_law_begun" = true)
    (k_law_begun : PySem.W.keepIn K (.ref f_law_begun) = true)
    (a_law_called : PySem.W.nsIn K mainGlobals "_law_called" = some (some (.ref f_law_called)))
    (l_law_called : K.lookup f_law_called = some ⟨oc_law_called, od_law_called, .func (PySem.W.fnOf "_law_called" "_law_called" (defArgs s_law_called) (defBody s_law_called) (defScope s_law_called) .none kV_law_called dc_law_called pm_law_called an_law_called cd_law_called ct_law_called), sl_law_called⟩)
    (c_law_called : PySem.W.codeIn K cd_law_called "_law_called" = true)
    (k_law_called : PySem.W.keepIn K (.ref f_law_called) = true)
    (a_law_plain : PySem.W.nsIn K mainGlobals "_law_plain" = some (some (.ref f_law_plain)))
    (l_law_plain : K.lookup f_law_plain = some ⟨oc_law_plain, od_law_plain, .func (PySem.W.fnOf "_law_plain" "_law_plain" (defArgs s_law_plain) (defBody s_law_plain) (defScope s_law_plain) .none kV_law_plain dc_law_plain pm_law_plain an_law_plain cd_law_plain ct_law_plain), sl_law_plain⟩)
    (c_law_plain : PySem.W.codeIn K cd_law_plain "_law_plain" = true)
    (k_law_plain : PySem.W.keepIn K (.ref f_law_plain) = true)
    (a_law_text : PySem.W.nsIn K mainGlobals "_law_text" = some (some (.ref f_law_text)))
    (l_law_text : K.lookup f_law_text = some ⟨oc_law_text, od_law_text, .func (PySem.W.fnOf "_law_text" "_law_text" (defArgs s_law_text) (defBody s_law_text) (defScope s_law_text) .none kV_law_text dc_law_text pm_law_text an_law_text cd_law_text ct_law_text), sl_law_text⟩)
    (c_law_text : PySem.W.codeIn K cd_law_text "_law_text" = true)
    (k_law_text : PySem.W.keepIn K (.ref f_law_text) = true)
    (a_law_otherwise : PySem.W.nsIn K mainGlobals "_law_otherwise" = some (some (.ref f_law_otherwise)))
    (l_law_otherwise : K.lookup f_law_otherwise = some ⟨oc_law_otherwise, od_law_otherwise, .func (PySem.W.fnOf "_law_otherwise" "_law_otherwise" (defArgs s_law_otherwise) (defBody s_law_otherwise) (defScope s_law_otherwise) .none kV_law_otherwise dc_law_otherwise pm_law_otherwise an_law_otherwise cd_law_otherwise ct_law_otherwise), sl_law_otherwise⟩)
    (c_law_otherwise : PySem.W.codeIn K cd_law_otherwise "_law_otherwise" = true)
    (k_law_otherwise : PySem.W.keepIn K (.ref f_law_otherwise) = true)
    (a_law_alike : PySem.W.nsIn K mainGlobals "_law_alike" = some (some (.ref f_law_alike)))
    (l_law_alike : K.lookup f_law_alike = some ⟨oc_law_alike, od_law_alike, .func (PySem.W.fnOf "_law_alike" "_law_alike" (defArgs s_law_alike) (defBody s_law_alike) (defScope s_law_alike) .none kV_law_alike dc_law_alike pm_law_alike an_law_alike cd_law_alike ct_law_alike), sl_law_alike⟩)
    (c_law_alike : PySem.W.codeIn K cd_law_alike "_law_alike" = true)
    (k_law_alike : PySem.W.keepIn K (.ref f_law_alike) = true)
    (a_law_told_right : PySem.W.nsIn K mainGlobals "_law_told_right" = some (some (.ref f_law_told_right)))
    (l_law_told_right : K.lookup f_law_told_right = some ⟨oc_law_told_right, od_law_told_right, .func (PySem.W.fnOf "_law_told_right" "_law_told_right" (defArgs s_law_told_right) (defBody s_law_told_right) (defScope s_law_told_right) .none kV_law_told_right dc_law_told_right pm_law_told_right an_law_told_right cd_law_told_right ct_law_told_right), sl_law_told_right⟩)
    (c_law_told_right : PySem.W.codeIn K cd_law_told_right "_law_told_right" = true)
    (k_law_told_right : PySem.W.keepIn K (.ref f_law_told_right) = true)
    (a_law_made_right : PySem.W.nsIn K mainGlobals "_law_made_right" = some (some (.ref f_law_made_right)))
    (l_law_made_right : K.lookup f_law_made_right = some ⟨oc_law_made_right, od_law_made_right, .func (PySem.W.fnOf "_law_made_right" "_law_made_right" (defArgs s_law_made_right) (defBody s_law_made_right) (defScope s_law_made_right) .none kV_law_made_right dc_law_made_right pm_law_made_right an_law_made_right cd_law_made_right ct_law_made_right), sl_law_made_right⟩)
    (c_law_made_right : PySem.W.codeIn K cd_law_made_right "_law_made_right" = true)
    (k_law_made_right : PySem.W.keepIn K (.ref f_law_made_right) = true)
    (a_law_unlike_right : PySem.W.nsIn K mainGlobals "_law_unlike_right" = some (some (.ref f_law_unlike_right)))
    (l_law_unlike_right : K.lookup f_law_unlike_right = some ⟨oc_law_unlike_right, od_law_unlike_right, .func (PySem.W.fnOf "_law_unlike_right" "_law_unlike_right" (defArgs s_law_unlike_right) (defBody s_law_unlike_right) (defScope s_law_unlike_right) .none kV_law_unlike_right dc_law_unlike_right pm_law_unlike_right an_law_unlike_right cd_law_unlike_right ct_law_unlike_right), sl_law_unlike_right⟩)
    (c_law_unlike_right : PySem.W.codeIn K cd_law_unlike_right "_law_unlike_right" = true)
    (k_law_unlike_right : PySem.W.keepIn K (.ref f_law_unlike_right) = true)
    (a_law : PySem.W.nsIn K mainGlobals "law" = some (some (.ref f_law)))
    (l_law : K.lookup f_law = some ⟨oc_law, od_law, .func (PySem.W.fnOf "law" "law" (defArgs s_law) (defBody s_law) (defScope s_law) .none kV_law dc_law pm_law an_law cd_law ct_law), sl_law⟩)
    (c_law : PySem.W.codeIn K cd_law "law" = true)
    (k_law : PySem.W.keepIn K (.ref f_law) = true)
    (hc_Round_0 : PySem.W.plainGet K C_Round Str.empty = true)
    (hc_Round_1 : PySem.W.hasDictIn K C_Round = true)
    (hc_Round_2 : PySem.W.plainOver K C_Round = true)
    (hc_Round_3 : PySem.W.findIn K (.ref C_Round) "__setattr__" = some (some (.builtin "object.__setattr__")))
    (no_Round__length' : PySem.W.findIn K (.ref C_Round) "_length" = some none)
    (no_Round__calls' : PySem.W.findIn K (.ref C_Round) "_calls" = some none)
    (no_Round__total' : PySem.W.findIn K (.ref C_Round) "_total" = some none)
    (no_Round__step' : PySem.W.findIn K (.ref C_Round) "_step" = some none)
    (no_Round__begins' : PySem.W.findIn K (.ref C_Round) "_begins" = some none)
    (hm_Round_0 : PySem.W.makesIn K C_Round = true)
    (hm_Round_1 : PySem.W.findIn K (.ref C_Round) "__init__" = some (some (.ref f_Round_init)))
    (hm_Round_2 : PySem.W.isFn K (.ref f_Round_init) = true)
    (hm_Round_3 : PySem.W.keepIn K (.ref C_Round) = true)
    (hf_Round__first_begins_0 : PySem.W.findIn K (.ref C_Round) "_first_begins" = some (some (.ref f_Round__first_begins)))
    (hf_Round__first_begins_1 : PySem.W.isFn K (.ref f_Round__first_begins) = true)
    (hf_Round__first_begins_2 : PySem.W.keepIn K (.ref f_Round__first_begins) = true)
    (hf_Round_length_0 : PySem.W.findIn K (.ref C_Round) "length" = some (some (.ref f_Round_length)))
    (hf_Round_length_1 : PySem.W.isFn K (.ref f_Round_length) = true)
    (hf_Round_length_2 : PySem.W.keepIn K (.ref f_Round_length) = true)
    (hf_Round_total_0 : PySem.W.findIn K (.ref C_Round) "total" = some (some (.ref f_Round_total)))
    (hf_Round_total_1 : PySem.W.isFn K (.ref f_Round_total) = true)
    (hf_Round_total_2 : PySem.W.keepIn K (.ref f_Round_total) = true)
    (hf_Round_calls_0 : PySem.W.findIn K (.ref C_Round) "calls" = some (some (.ref f_Round_calls)))
    (hf_Round_calls_1 : PySem.W.isFn K (.ref f_Round_calls) = true)
    (hf_Round_calls_2 : PySem.W.keepIn K (.ref f_Round_calls) = true)
    (hf_Round_keeps_up_0 : PySem.W.findIn K (.ref C_Round) "keeps_up" = some (some (.ref f_Round_keeps_up)))
    (hf_Round_keeps_up_1 : PySem.W.isFn K (.ref f_Round_keeps_up) = true)
    (hf_Round_keeps_up_2 : PySem.W.keepIn K (.ref f_Round_keeps_up) = true)
    (hf_Round_eq_0 : PySem.W.findIn K (.ref C_Round) "__eq__" = some (some (.ref f_Round_eq)))
    (hf_Round_eq_1 : PySem.W.isFn K (.ref f_Round_eq) = true)
    (hf_Round_eq_2 : PySem.W.keepIn K (.ref f_Round_eq) = true)
    (ti_Round_eq' : PySem.W.typeIn K (.ref f_Round_eq) = some (.type "function"))
    (hf_Round_len_0 : PySem.W.findIn K (.ref C_Round) "__len__" = some (some (.ref f_Round_len)))
    (hf_Round_len_1 : PySem.W.isFn K (.ref f_Round_len) = true)
    (hf_Round_len_2 : PySem.W.keepIn K (.ref f_Round_len) = true)
    (ti_Round_len' : PySem.W.typeIn K (.ref f_Round_len) = some (.type "function"))
    (hf_Round_str_0 : PySem.W.findIn K (.ref C_Round) "__str__" = some (some (.ref f_Round_str)))
    (hf_Round_str_1 : PySem.W.isFn K (.ref f_Round_str) = true)
    (hf_Round_str_2 : PySem.W.keepIn K (.ref f_Round_str) = true)
    (ti_Round_str' : PySem.W.typeIn K (.ref f_Round_str) = some (.type "function"))
    (nb_Round' : PySem.W.findIn K (.ref C_Round) "__bool__" = some none)
    (eo_Round_0 : PySem.W.findIn K (.ref C_Round) "__eq__" = some (some (.ref f_Round_eq)))
    (eo_Round_1 : PySem.W.isFn K (.ref f_Round_eq) = true)
    (eo_Round_2 : PySem.W.keepIn K (.ref f_Round_eq) = true)
    (eo_Round_3 : PySem.W.findIn K (.ref C_Round) "__ne__" = some (some (.builtin "object.__ne__")))
    (eo_Round_4 : PySem.W.mroIn K C_Round (.type "object") = some true)
    (eo_Round_5 : PySem.W.mroIn K C_Round (.type "NoneType") = some false)
    (eo_Round_6 : PySem.W.mroIn K C_Round (.type "bool") = some false)
    (eo_Round_7 : PySem.W.mroIn K C_Round (.type "int") = some false)
    (eo_Round_8 : PySem.W.mroIn K C_Round (.type "str") = some false)
    (eo_Round_9 : PySem.W.mroIn K C_Round (.type "list") = some false)
    (eo_Round_10 : PySem.W.mroIn K C_Round (.type "tuple") = some false)
    (eo_Round_11 : PySem.W.mroIn K C_Round (.type "dict") = some false) : Txt mg K prm :=
  { n_all := PySem.W.mg_none_of X G z_all,
    n_bool := PySem.W.mg_none_of X G z_bool,
    n_enumerate := PySem.W.mg_none_of X G z_enumerate,
    n_int := PySem.W.mg_none_of X G z_int,
    n_len := PySem.W.mg_none_of X G z_len,
    n_list := PySem.W.mg_none_of X G z_list,
    n_max := PySem.W.mg_none_of X G z_max,
    n_min := PySem.W.mg_none_of X G z_min,
    n_range := PySem.W.mg_none_of X G z_range,
    n_repr := PySem.W.mg_none_of X G z_repr,
    n_sorted := PySem.W.mg_none_of X G z_sorted,
    n_str := PySem.W.mg_none_of X G z_str,
    n_sum := PySem.W.mg_none_of X G z_sum,
    n_tuple := PySem.W.mg_none_of X G z_tuple,
    n_type := PySem.W.mg_none_of X G z_type,
    n_zip := PySem.W.mg_none_of X G z_zip,
    t_MOST_LETTERS := t_MOST_LETTERS,
    c_MOST_LETTERS := PySem.W.mg_of X G y_MOST_LETTERS,
    a_NO_NAMES := a_NO_NAMES,
    c_NO_NAMES := PySem.W.mg_of X G y_NO_NAMES,
    q_NO_NAMES := fun H => .inr ⟨_, _, _, x_NO_NAMES, rfl, rfl, by show 10 ≤ sizeLine; decide, .cons ⟨t_NO_NAMES_0, rfl⟩ (.cons ⟨t_NO_NAMES_1, rfl⟩ (.cons ⟨t_NO_NAMES_2, rfl⟩ (.cons ⟨t_NO_NAMES_3, rfl⟩ (.cons ⟨t_NO_NAMES_4, rfl⟩ (.cons ⟨t_NO_NAMES_5, rfl⟩ (.cons ⟨t_NO_NAMES_6, rfl⟩ (.cons ⟨t_NO_NAMES_7, rfl⟩ (.cons ⟨t_NO_NAMES_8, rfl⟩ (.cons ⟨t_NO_NAMES_9, rfl⟩ (.nil))))))))))⟩,
    t_MOST_LENGTH := t_MOST_LENGTH,
    c_MOST_LENGTH := PySem.W.mg_of X G y_MOST_LENGTH,
    t_MOST_CALLS := t_MOST_CALLS,
    c_MOST_CALLS := PySem.W.mg_of X G y_MOST_CALLS,
    t_MOST_CALL_HOURS := t_MOST_CALL_HOURS,
    c_MOST_CALL_HOURS := PySem.W.mg_of X G y_MOST_CALL_HOURS,
    f_is_whole := f_is_whole,
    fd_is_whole := PySem.W.fnOf "is_whole" "is_whole" (defArgs s_is_whole) (defBody s_is_whole) (defScope s_is_whole) (.ref D_is_whole) kV_is_whole dc_is_whole pm_is_whole an_is_whole cd_is_whole ct_is_whole,
    F_is_whole := ⟨⟨oc_is_whole, od_is_whole, _, kV_is_whole, dc_is_whole, pm_is_whole, an_is_whole, cd_is_whole, ct_is_whole, sl_is_whole, rfl, l_is_whole, c_is_whole, .inr ⟨by simp, D_is_whole, _, _, _, rfl, x_is_whole, rfl, .cons ⟨u_is_whole_0, rfl⟩ (.nil)⟩, .inl rfl⟩, k_is_whole⟩,
    g_is_whole := PySem.W.mg_of X G a_is_whole,
    f_is_name := f_is_name,
    fd_is_name := PySem.W.fnOf "is_name" "is_name" (defArgs s_is_name) (defBody s_is_name) (defScope s_is_name) .none kV_is_name dc_is_name pm_is_name an_is_name cd_is_name ct_is_name,
    F_is_name := ⟨⟨oc_is_name, od_is_name, .none, kV_is_name, dc_is_name, pm_is_name, an_is_name, cd_is_name, ct_is_name, sl_is_name, rfl, l_is_name, c_is_name, .inl ⟨rfl, rfl⟩, .inl rfl⟩, k_is_name⟩,
    g_is_name := PySem.W.mg_of X G a_is_name,
    f_are_calls := f_are_calls,
    fd_are_calls := PySem.W.fnOf "_are_calls" "_are_calls" (defArgs s_are_calls) (defBody s_are_calls) (defScope s_are_calls) .none kV_are_calls dc_are_calls pm_are_calls an_are_calls cd_are_calls ct_are_calls,
    F_are_calls := ⟨⟨oc_are_calls, od_are_calls, .none, kV_are_calls, dc_are_calls, pm_are_calls, an_are_calls, cd_are_calls, ct_are_calls, sl_are_calls, rfl, l_are_calls, c_are_calls, .inl ⟨rfl, rfl⟩, .inl rfl⟩, k_are_calls⟩,
    g_are_calls := PySem.W.mg_of X G a_are_calls,
    f_Round_init := f_Round_init,
    fd_Round_init := PySem.W.fnOf "__init__" "Round.__init__" (defArgs s_Round_init) (defBody s_Round_init) (defScope s_Round_init) (.ref D_Round_init) kV_Round_init dc_Round_init pm_Round_init an_Round_init cd_Round_init ct_Round_init,
    F_Round_init := ⟨⟨oc_Round_init, od_Round_init, _, kV_Round_init, dc_Round_init, pm_Round_init, an_Round_init, cd_Round_init, ct_Round_init, sl_Round_init, rfl, l_Round_init, c_Round_init, .inr ⟨by simp, D_Round_init, _, _, _, rfl, x_Round_init, rfl, .cons rfl (.nil)⟩, .inl rfl⟩, k_Round_init⟩,
    f_Round__first_begins := f_Round__first_begins,
    fd_Round__first_begins := PySem.W.fnOf "_first_begins" "Round._first_begins" (defArgs s_Round__first_begins) (defBody s_Round__first_begins) (defScope s_Round__first_begins) .none kV_Round__first_begins dc_Round__first_begins pm_Round__first_begins an_Round__first_begins cd_Round__first_begins ct_Round__first_begins,
    F_Round__first_begins := ⟨⟨oc_Round__first_begins, od_Round__first_begins, .none, kV_Round__first_begins, dc_Round__first_begins, pm_Round__first_begins, an_Round__first_begins, cd_Round__first_begins, ct_Round__first_begins, sl_Round__first_begins, rfl, l_Round__first_begins, c_Round__first_begins, .inl ⟨rfl, rfl⟩, .inl rfl⟩, k_Round__first_begins⟩,
    f_Round_length := f_Round_length,
    fd_Round_length := PySem.W.fnOf "length" "Round.length" (defArgs s_Round_length) (defBody s_Round_length) (defScope s_Round_length) .none kV_Round_length dc_Round_length pm_Round_length an_Round_length cd_Round_length ct_Round_length,
    F_Round_length := ⟨⟨oc_Round_length, od_Round_length, .none, kV_Round_length, dc_Round_length, pm_Round_length, an_Round_length, cd_Round_length, ct_Round_length, sl_Round_length, rfl, l_Round_length, c_Round_length, .inl ⟨rfl, rfl⟩, .inl rfl⟩, k_Round_length⟩,
    f_Round_total := f_Round_total,
    fd_Round_total := PySem.W.fnOf "total" "Round.total" (defArgs s_Round_total) (defBody s_Round_total) (defScope s_Round_total) .none kV_Round_total dc_Round_total pm_Round_total an_Round_total cd_Round_total ct_Round_total,
    F_Round_total := ⟨⟨oc_Round_total, od_Round_total, .none, kV_Round_total, dc_Round_total, pm_Round_total, an_Round_total, cd_Round_total, ct_Round_total, sl_Round_total, rfl, l_Round_total, c_Round_total, .inl ⟨rfl, rfl⟩, .inl rfl⟩, k_Round_total⟩,
    f_Round_calls := f_Round_calls,
    fd_Round_calls := PySem.W.fnOf "calls" "Round.calls" (defArgs s_Round_calls) (defBody s_Round_calls) (defScope s_Round_calls) .none kV_Round_calls dc_Round_calls pm_Round_calls an_Round_calls cd_Round_calls ct_Round_calls,
    F_Round_calls := ⟨⟨oc_Round_calls, od_Round_calls, .none, kV_Round_calls, dc_Round_calls, pm_Round_calls, an_Round_calls, cd_Round_calls, ct_Round_calls, sl_Round_calls, rfl, l_Round_calls, c_Round_calls, .inl ⟨rfl, rfl⟩, .inl rfl⟩, k_Round_calls⟩,
    f_Round_keeps_up := f_Round_keeps_up,
    fd_Round_keeps_up := PySem.W.fnOf "keeps_up" "Round.keeps_up" (defArgs s_Round_keeps_up) (defBody s_Round_keeps_up) (defScope s_Round_keeps_up) .none kV_Round_keeps_up dc_Round_keeps_up pm_Round_keeps_up an_Round_keeps_up cd_Round_keeps_up ct_Round_keeps_up,
    F_Round_keeps_up := ⟨⟨oc_Round_keeps_up, od_Round_keeps_up, .none, kV_Round_keeps_up, dc_Round_keeps_up, pm_Round_keeps_up, an_Round_keeps_up, cd_Round_keeps_up, ct_Round_keeps_up, sl_Round_keeps_up, rfl, l_Round_keeps_up, c_Round_keeps_up, .inl ⟨rfl, rfl⟩, .inl rfl⟩, k_Round_keeps_up⟩,
    f_Round_eq := f_Round_eq,
    fd_Round_eq := PySem.W.fnOf "__eq__" "Round.__eq__" (defArgs s_Round_eq) (defBody s_Round_eq) (defScope s_Round_eq) .none kV_Round_eq dc_Round_eq pm_Round_eq an_Round_eq cd_Round_eq ct_Round_eq,
    F_Round_eq := ⟨⟨oc_Round_eq, od_Round_eq, .none, kV_Round_eq, dc_Round_eq, pm_Round_eq, an_Round_eq, cd_Round_eq, ct_Round_eq, sl_Round_eq, rfl, l_Round_eq, c_Round_eq, .inl ⟨rfl, rfl⟩, .inl rfl⟩, k_Round_eq⟩,
    f_Round_len := f_Round_len,
    fd_Round_len := PySem.W.fnOf "__len__" "Round.__len__" (defArgs s_Round_len) (defBody s_Round_len) (defScope s_Round_len) .none kV_Round_len dc_Round_len pm_Round_len an_Round_len cd_Round_len ct_Round_len,
    F_Round_len := ⟨⟨oc_Round_len, od_Round_len, .none, kV_Round_len, dc_Round_len, pm_Round_len, an_Round_len, cd_Round_len, ct_Round_len, sl_Round_len, rfl, l_Round_len, c_Round_len, .inl ⟨rfl, rfl⟩, .inl rfl⟩, k_Round_len⟩,
    f_Round_str := f_Round_str,
    fd_Round_str := PySem.W.fnOf "__str__" "Round.__str__" (defArgs s_Round_str) (defBody s_Round_str) (defScope s_Round_str) .none kV_Round_str dc_Round_str pm_Round_str an_Round_str cd_Round_str ct_Round_str,
    F_Round_str := ⟨⟨oc_Round_str, od_Round_str, .none, kV_Round_str, dc_Round_str, pm_Round_str, an_Round_str, cd_Round_str, ct_Round_str, sl_Round_str, rfl, l_Round_str, c_Round_str, .inl ⟨rfl, rfl⟩, .inl rfl⟩, k_Round_str⟩,
    f_law_mixed := f_law_mixed,
    fd_law_mixed := PySem.W.fnOf "_law_mixed" "_law_mixed" (defArgs s_law_mixed) (defBody s_law_mixed) (defScope s_law_mixed) .none kV_law_mixed dc_law_mixed pm_law_mixed an_law_mixed cd_law_mixed ct_law_mixed,
    F_law_mixed := ⟨⟨oc_law_mixed, od_law_mixed, .none, kV_law_mixed, dc_law_mixed, pm_law_mixed, an_law_mixed, cd_law_mixed, ct_law_mixed, sl_law_mixed, rfl, l_law_mixed, c_law_mixed, .inl ⟨rfl, rfl⟩, .inl rfl⟩, k_law_mixed⟩,
    g_law_mixed := PySem.W.mg_of X G a_law_mixed,
    f_law_folded := f_law_folded,
    fd_law_folded := PySem.W.fnOf "_law_folded" "_law_folded" (defArgs s_law_folded) (defBody s_law_folded) (defScope s_law_folded) .none kV_law_folded dc_law_folded pm_law_folded an_law_folded cd_law_folded ct_law_folded,
    F_law_folded := ⟨⟨oc_law_folded, od_law_folded, .none, kV_law_folded, dc_law_folded, pm_law_folded, an_law_folded, cd_law_folded, ct_law_folded, sl_law_folded, rfl, l_law_folded, c_law_folded, .inl ⟨rfl, rfl⟩, .inl rfl⟩, k_law_folded⟩,
    g_law_folded := PySem.W.mg_of X G a_law_folded,
    f_law_draw := f_law_draw,
    fd_law_draw := PySem.W.fnOf "_law_draw" "_law_draw" (defArgs s_law_draw) (defBody s_law_draw) (defScope s_law_draw) .none kV_law_draw dc_law_draw pm_law_draw an_law_draw cd_law_draw ct_law_draw,
    F_law_draw := ⟨⟨oc_law_draw, od_law_draw, .none, kV_law_draw, dc_law_draw, pm_law_draw, an_law_draw, cd_law_draw, ct_law_draw, sl_law_draw, rfl, l_law_draw, c_law_draw, .inl ⟨rfl, rfl⟩, .inl rfl⟩, k_law_draw⟩,
    g_law_draw := PySem.W.mg_of X G a_law_draw,
    f_law_begun := f_law_begun,
    fd_law_begun := PySem.W.fnOf "_law_begun" "_law_begun" (defArgs s_law_begun) (defBody s_law_begun) (defScope s_law_begun) .none kV_law_begun dc_law_begun pm_law_begun an_law_begun cd_law_begun ct_law_begun,
    F_law_begun := ⟨⟨oc_law_begun, od_law_begun, .none, kV_law_begun, dc_law_begun, pm_law_begun, an_law_begun, cd_law_begun, ct_law_begun, sl_law_begun, rfl, l_law_begun, c_law_begun, .inl ⟨rfl, rfl⟩, .inl rfl⟩, k_law_begun⟩,
    g_law_begun := PySem.W.mg_of X G a_law_begun,
    f_law_called := f_law_called,
    fd_law_called := PySem.W.fnOf "_law_called" "_law_called" (defArgs s_law_called) (defBody s_law_called) (defScope s_law_called) .none kV_law_called dc_law_called pm_law_called an_law_called cd_law_called ct_law_called,
    F_law_called := ⟨⟨oc_law_called, od_law_called, .none, kV_law_called, dc_law_called, pm_law_called, an_law_called, cd_law_called, ct_law_called, sl_law_called, rfl, l_law_called, c_law_called, .inl ⟨rfl, rfl⟩, .inl rfl⟩, k_law_called⟩,
    g_law_called := PySem.W.mg_of X G a_law_called,
    f_law_plain := f_law_plain,
    fd_law_plain := PySem.W.fnOf "_law_plain" "_law_plain" (defArgs s_law_plain) (defBody s_law_plain) (defScope s_law_plain) .none kV_law_plain dc_law_plain pm_law_plain an_law_plain cd_law_plain ct_law_plain,
    F_law_plain := ⟨⟨oc_law_plain, od_law_plain, .none, kV_law_plain, dc_law_plain, pm_law_plain, an_law_plain, cd_law_plain, ct_law_plain, sl_law_plain, rfl, l_law_plain, c_law_plain, .inl ⟨rfl, rfl⟩, .inl rfl⟩, k_law_plain⟩,
    g_law_plain := PySem.W.mg_of X G a_law_plain,
    f_law_text := f_law_text,
    fd_law_text := PySem.W.fnOf "_law_text" "_law_text" (defArgs s_law_text) (defBody s_law_text) (defScope s_law_text) .none kV_law_text dc_law_text pm_law_text an_law_text cd_law_text ct_law_text,
    F_law_text := ⟨⟨oc_law_text, od_law_text, .none, kV_law_text, dc_law_text, pm_law_text, an_law_text, cd_law_text, ct_law_text, sl_law_text, rfl, l_law_text, c_law_text, .inl ⟨rfl, rfl⟩, .inl rfl⟩, k_law_text⟩,
    g_law_text := PySem.W.mg_of X G a_law_text,
    f_law_otherwise := f_law_otherwise,
    fd_law_otherwise := PySem.W.fnOf "_law_otherwise" "_law_otherwise" (defArgs s_law_otherwise) (defBody s_law_otherwise) (defScope s_law_otherwise) .none kV_law_otherwise dc_law_otherwise pm_law_otherwise an_law_otherwise cd_law_otherwise ct_law_otherwise,
    F_law_otherwise := ⟨⟨oc_law_otherwise, od_law_otherwise, .none, kV_law_otherwise, dc_law_otherwise, pm_law_otherwise, an_law_otherwise, cd_law_otherwise, ct_law_otherwise, sl_law_otherwise, rfl, l_law_otherwise, c_law_otherwise, .inl ⟨rfl, rfl⟩, .inl rfl⟩, k_law_otherwise⟩,
    g_law_otherwise := PySem.W.mg_of X G a_law_otherwise,
    f_law_alike := f_law_alike,
    fd_law_alike := PySem.W.fnOf "_law_alike" "_law_alike" (defArgs s_law_alike) (defBody s_law_alike) (defScope s_law_alike) .none kV_law_alike dc_law_alike pm_law_alike an_law_alike cd_law_alike ct_law_alike,
    F_law_alike := ⟨⟨oc_law_alike, od_law_alike, .none, kV_law_alike, dc_law_alike, pm_law_alike, an_law_alike, cd_law_alike, ct_law_alike, sl_law_alike, rfl, l_law_alike, c_law_alike, .inl ⟨rfl, rfl⟩, .inl rfl⟩, k_law_alike⟩,
    g_law_alike := PySem.W.mg_of X G a_law_alike,
    f_law_told_right := f_law_told_right,
    fd_law_told_right := PySem.W.fnOf "_law_told_right" "_law_told_right" (defArgs s_law_told_right) (defBody s_law_told_right) (defScope s_law_told_right) .none kV_law_told_right dc_law_told_right pm_law_told_right an_law_told_right cd_law_told_right ct_law_told_right,
    F_law_told_right := ⟨⟨oc_law_told_right, od_law_told_right, .none, kV_law_told_right, dc_law_told_right, pm_law_told_right, an_law_told_right, cd_law_told_right, ct_law_told_right, sl_law_told_right, rfl, l_law_told_right, c_law_told_right, .inl ⟨rfl, rfl⟩, .inl rfl⟩, k_law_told_right⟩,
    g_law_told_right := PySem.W.mg_of X G a_law_told_right,
    f_law_made_right := f_law_made_right,
    fd_law_made_right := PySem.W.fnOf "_law_made_right" "_law_made_right" (defArgs s_law_made_right) (defBody s_law_made_right) (defScope s_law_made_right) .none kV_law_made_right dc_law_made_right pm_law_made_right an_law_made_right cd_law_made_right ct_law_made_right,
    F_law_made_right := ⟨⟨oc_law_made_right, od_law_made_right, .none, kV_law_made_right, dc_law_made_right, pm_law_made_right, an_law_made_right, cd_law_made_right, ct_law_made_right, sl_law_made_right, rfl, l_law_made_right, c_law_made_right, .inl ⟨rfl, rfl⟩, .inl rfl⟩, k_law_made_right⟩,
    g_law_made_right := PySem.W.mg_of X G a_law_made_right,
    f_law_unlike_right := f_law_unlike_right,
    fd_law_unlike_right := PySem.W.fnOf "_law_unlike_right" "_law_unlike_right" (defArgs s_law_unlike_right) (defBody s_law_unlike_right) (defScope s_law_unlike_right) .none kV_law_unlike_right dc_law_unlike_right pm_law_unlike_right an_law_unlike_right cd_law_unlike_right ct_law_unlike_right,
    F_law_unlike_right := ⟨⟨oc_law_unlike_right, od_law_unlike_right, .none, kV_law_unlike_right, dc_law_unlike_right, pm_law_unlike_right, an_law_unlike_right, cd_law_unlike_right, ct_law_unlike_right, sl_law_unlike_right, rfl, l_law_unlike_right, c_law_unlike_right, .inl ⟨rfl, rfl⟩, .inl rfl⟩, k_law_unlike_right⟩,
    g_law_unlike_right := PySem.W.mg_of X G a_law_unlike_right,
    f_law := f_law,
    fd_law := PySem.W.fnOf "law" "law" (defArgs s_law) (defBody s_law) (defScope s_law) .none kV_law dc_law pm_law an_law cd_law ct_law,
    F_law := ⟨⟨oc_law, od_law, .none, kV_law, dc_law, pm_law, an_law, cd_law, ct_law, sl_law, rfl, l_law, c_law, .inl ⟨rfl, rfl⟩, .inl rfl⟩, k_law⟩,
    g_law := PySem.W.mg_of X G a_law,
    C_Round := C_Round,
    g_Round := PySem.W.mg_of X G a_Round,
    cl_Round := ⟨hc_Round_0, hc_Round_1, hc_Round_2, hc_Round_3⟩,
    no_Round__length := no_Round__length',
    no_Round__calls := no_Round__calls',
    no_Round__total := no_Round__total',
    no_Round__step := no_Round__step',
    no_Round__begins := no_Round__begins',
    mk_Round := ⟨hm_Round_0, hm_Round_1, hm_Round_2, hm_Round_3⟩,
    m_Round__first_begins := ⟨hf_Round__first_begins_0, hf_Round__first_begins_1, hf_Round__first_begins_2⟩,
    m_Round_length := ⟨hf_Round_length_0, hf_Round_length_1, hf_Round_length_2⟩,
    m_Round_total := ⟨hf_Round_total_0, hf_Round_total_1, hf_Round_total_2⟩,
    m_Round_calls := ⟨hf_Round_calls_0, hf_Round_calls_1, hf_Round_calls_2⟩,
    m_Round_keeps_up := ⟨hf_Round_keeps_up_0, hf_Round_keeps_up_1, hf_Round_keeps_up_2⟩,
    m_Round_eq := ⟨hf_Round_eq_0, hf_Round_eq_1, hf_Round_eq_2⟩,
    ti_Round_eq := ti_Round_eq',
    m_Round_len := ⟨hf_Round_len_0, hf_Round_len_1, hf_Round_len_2⟩,
    ti_Round_len := ti_Round_len',
    m_Round_str := ⟨hf_Round_str_0, hf_Round_str_1, hf_Round_str_2⟩,
    ti_Round_str := ti_Round_str',
    nb_Round := nb_Round',
    eo_Round := EqO.mk ⟨eo_Round_0, eo_Round_1, eo_Round_2⟩ eo_Round_3 eo_Round_4 eo_Round_5 eo_Round_6 eo_Round_7 eo_Round_8 eo_Round_9 eo_Round_10 eo_Round_11 }

theorem law_fin {l : PySem.W.OpenLaw} {w : World} {K : PySem.W.Frag} {mg : PySem.Str → Option Value} {fa : Addr} (hfa : mg "law" = some (.ref fa)) (T : Txt mg K w.params) :
    ∃ fd : FuncData, (∀ (s : Shared) (u : Value), BindsTo s fd ⟨[u], []⟩ [("script", u)]) ∧ ∀ base : Heap, K.In base → base.Ns mainGlobals mg → FnG l.prog w K mg base 9 fa fd ["script"] (spLawD K) := by
  have e := hfa.symm.trans T.g_law
  cases e
  refine ⟨T.fd_law, fun s u => ?_, fun base _ _ => ok_law T⟩
  exact FunD.bindsA (ps := ["script"]) T.F_law (fun kV doc pm an cdv ct us hl => match us, hl with | [a0], _ => rfl) s [u] rfl
end K
open PySem PySem.W PyProof.Rows in
set_option maxRecDepth 100000 in
set_option maxHeartbeats 0 in
theorem PySem.Challenge.cw_bindbench_k30_rounds_made_holds : PySem.Challenge.rw_bindbench_k30_rounds_made.Holds := by
  w_on; o_law; k_head; (case hw => w_witness2)
  k_fill
  refine Gd.walkG (l := PySem.Challenge.rw_bindbench_k30_rounds_made) (n := 63) (k := 9) (x := "script") (sp := fun w => Dl.spLawD _) rfl (by decide) rfl ⟨rfl, by decide, by decide⟩ (fun w h Y => PySem.W.kIn_of Y) ?F (fun _ _ a ns hl hS _ => ⟨a, ns, rfl, hS, hl, fun _ => rfl⟩)
  case F =>
    intro w mg fa h KX G hmg
    refine' K.law_fin hmg (K.txt_mk (prm := w.params) KX G ?a_Round ?z_all ?z_bool ?z_enumerate ?z_int ?z_len ?z_list ?z_max ?z_min ?z_range ?z_repr ?z_sorted ?z_str ?z_sum ?z_tuple ?z_type ?z_zip ?y_MOST_LETTERS ?y_NO_NAMES ?x_NO_NAMES ?y_MOST_LENGTH ?y_MOST_CALLS ?y_MOST_CALL_HOURS ?a_is_whole ?l_is_whole ?c_is_whole ?k_is_whole ?x_is_whole ?a_is_name ?l_is_name ?c_is_name ?k_is_name ?a_are_calls ?l_are_calls ?c_are_calls ?k_are_calls ?b_Round ?l_Round_init ?c_Round_init ?k_Round_init ?x_Round_init ?b_Round__first_begins ?l_Round__first_begins ?c_Round__first_begins ?k_Round__first_begins ?b_Round_length ?l_Round_length ?c_Round_length ?k_Round_length ?b_Round_total ?l_Round_total ?c_Round_total ?k_Round_total ?b_Round_calls ?l_Round_calls ?c_Round_calls ?k_Round_calls ?b_Round_keeps_up ?l_Round_keeps_up ?c_Round_keeps_up ?k_Round_keeps_up ?b_Round_eq ?l_Round_eq ?c_Round_eq ?k_Round_eq ?b_Round_len ?l_Round_len ?c_Round_len ?k_Round_len ?b_Round_str ?l_Round_str ?c_Round_str ?k_Round_str ?a_law_mixed ?l_law_mixed ?c_law_mixed ?k_law_mixed ?a_law_folded ?l_law_folded ?c_law_folded ?k_law_folded ?a_law_draw ?l_law_draw ?c_law_draw ?k_law_draw ?a_law_begun ?l_law_begun ?c_law_begun ?k_law_begun ?a_law_called ?l_law_called ?c_law_called ?k_law_called ?a_law_plain ?l_law_plain ?c_law_plain ?k_law_plain ?a_law_text ?l_law_text ?c_law_text ?k_law_text ?a_law_otherwise ?l_law_otherwise ?c_law_otherwise ?k_law_otherwise ?a_law_alike ?l_law_alike ?c_law_alike ?k_law_alike ?a_law_told_right ?l_law_told_right ?c_law_told_right ?k_law_told_right ?a_law_made_right ?l_law_made_right ?c_law_made_right ?k_law_made_right ?a_law_unlike_right ?l_law_unlike_right ?c_law_unlike_right ?k_law_unlike_right ?a_law ?l_law ?c_law ?k_law ?hc_Round_0 ?hc_Round_1 ?hc_Round_2 ?hc_Round_3 ?no_Round__length' ?no_Round__calls' ?no_Round__total' ?no_Round__step' ?no_Round__begins' ?hm_Round_0 ?hm_Round_1 ?hm_Round_2 ?hm_Round_3 ?hf_Round__first_begins_0 ?hf_Round__first_begins_1 ?hf_Round__first_begins_2 ?hf_Round_length_0 ?hf_Round_length_1 ?hf_Round_length_2 ?hf_Round_total_0 ?hf_Round_total_1 ?hf_Round_total_2 ?hf_Round_calls_0 ?hf_Round_calls_1 ?hf_Round_calls_2 ?hf_Round_keeps_up_0 ?hf_Round_keeps_up_1 ?hf_Round_keeps_up_2 ?hf_Round_eq_0 ?hf_Round_eq_1 ?hf_Round_eq_2 ?ti_Round_eq' ?hf_Round_len_0 ?hf_Round_len_1 ?hf_Round_len_2 ?ti_Round_len' ?hf_Round_str_0 ?hf_Round_str_1 ?hf_Round_str_2 ?ti_Round_str' ?nb_Round' ?eo_Round_0 ?eo_Round_1 ?eo_Round_2 ?eo_Round_3 ?eo_Round_4 ?eo_Round_5 ?eo_Round_6 ?eo_Round_7 ?eo_Round_8 ?eo_Round_9 ?eo_Round_10 ?eo_Round_11)
    (case a_Round => first | k_is | rfl | kernel_rfl | decide +kernel)
    (case z_all => first | k_is | rfl | kernel_rfl | decide +kernel)
    (case z_bool => first | k_is | rfl | kernel_rfl | decide +kernel)
    (case z_enumerate => first | k_is | rfl | kernel_rfl | decide +kernel)
    (case z_int => first | k_is | rfl | kernel_rfl | decide +kernel)
    (case z_len => first | k_is | rfl | kernel_rfl | decide +kernel)
    (case z_list => first | k_is | rfl | kernel_rfl | decide +kernel)
    (case z_max => first | k_is | rfl | kernel_rfl | decide +kernel)
    (case z_min => first | k_is | rfl | kernel_rfl | decide +kernel)
    (case z_range => first | k_is | rfl | kernel_rfl | decide +kernel)
    (case z_repr => first | k_is | rfl | kernel_rfl | decide +kernel)
    (case z_sorted => first | k_is | rfl | kernel_rfl | decide +kernel)
    (case z_str => first | k_is | rfl | kernel_rfl | decide +kernel)
    (case z_sum => first | k_is | rfl | kernel_rfl | decide +kernel)
    (case z_tuple => first | k_is | rfl | kernel_rfl | decide +kernel)
    (case z_type => first | k_is | rfl | kernel_rfl | decide +kernel)
    (case z_zip => first | k_is | rfl | kernel_rfl | decide +kernel)
    (case y_MOST_LETTERS => first | k_is | rfl | kernel_rfl | decide +kernel)
    (case y_NO_NAMES => first | k_is | rfl | kernel_rfl | decide +kernel)
    (case x_NO_NAMES => first | k_is | rfl | kernel_rfl | decide +kernel)
    (case y_MOST_LENGTH => first | k_is | rfl | kernel_rfl | decide +kernel)
    (case y_MOST_CALLS => first | k_is | rfl | kernel_rfl | decide +kernel)
    (case y_MOST_CALL_HOURS => first | k_is | rfl | kernel_rfl | decide +kernel)
    (case a_is_whole => first | k_is | rfl | kernel_rfl | decide +kernel)
    (case l_is_whole => first | k_is | rfl | kernel_rfl | decide +kernel)
    (case c_is_whole => first | k_is | rfl | kernel_rfl | decide +kernel)
    (case k_is_whole => first | k_is | rfl | kernel_rfl | decide +kernel)
    (case x_is_whole => first | k_is | rfl | kernel_rfl | decide +kernel)
    (case a_is_name => first | k_is | rfl | kernel_rfl | decide +kernel)
    (case l_is_name => first | k_is | rfl | kernel_rfl | decide +kernel)
    (case c_is_name => first | k_is | rfl | kernel_rfl | decide +kernel)
    (case k_is_name => first | k_is | rfl | kernel_rfl | decide +kernel)
    (case a_are_calls => first | k_is | rfl | kernel_rfl | decide +kernel)
    (case l_are_calls => first | k_is | rfl | kernel_rfl | decide +kernel)
    (case c_are_calls => first | k_is | rfl | kernel_rfl | decide +kernel)
    (case k_are_calls => first | k_is | rfl | kernel_rfl | decide +kernel)
    (case b_Round => first | k_is | rfl | kernel_rfl | decide +kernel)
    (case l_Round_init => first | k_is | rfl | kernel_rfl | decide +kernel)
    (case c_Round_init => first | k_is | rfl | kernel_rfl | decide +kernel)
    (case k_Round_init => first | k_is | rfl | kernel_rfl | decide +kernel)
    (case x_Round_init => first | k_is | rfl | kernel_rfl | decide +kernel)
    (case b_Round__first_begins => first | k_is | rfl | kernel_rfl | decide +kernel)
    (case l_Round__first_begins => first | k_is | rfl | kernel_rfl | decide +kernel)
    (case c_Round__first_begins => first | k_is | rfl | kernel_rfl | decide +kernel)
    (case k_Round__first_begins => first | k_is | rfl | kernel_rfl | decide +kernel)
    (case b_Round_length => first | k_is | rfl | kernel_rfl | decide +kernel)
    (case l_Round_length => first | k_is | rfl | kernel_rfl | decide +kernel)
    (case c_Round_length => first | k_is | rfl | kernel_rfl | decide +kernel)
    (case k_Round_length => first | k_is | rfl | kernel_rfl | decide +kernel)
    (case b_Round_total => first | k_is | rfl | kernel_rfl | decide +kernel)
    (case l_Round_total => first | k_is | rfl | kernel_rfl | decide +kernel)
    (case c_Round_total => first | k_is | rfl | kernel_rfl | decide +kernel)
    (case k_Round_total => first | k_is | rfl | kernel_rfl | decide +kernel)
    (case b_Round_calls => first | k_is | rfl | kernel_rfl | decide +kernel)
    (case l_Round_calls => first | k_is | rfl | kernel_rfl | decide +kernel)
    (case c_Round_calls => first | k_is | rfl | kernel_rfl | decide +kernel)
    (case k_Round_calls => first | k_is | rfl | kernel_rfl | decide +kernel)
    (case b_Round_keeps_up => first | k_is | rfl | kernel_rfl | decide +kernel)
    (case l_Round_keeps_up => first | k_is | rfl | kernel_rfl | decide +kernel)
    (case c_Round_keeps_up => first | k_is | rfl | kernel_rfl | decide +kernel)
    (case k_Round_keeps_up => first | k_is | rfl | kernel_rfl | decide +kernel)
    (case b_Round_eq => first | k_is | rfl | kernel_rfl | decide +kernel)
    (case l_Round_eq => first | k_is | rfl | kernel_rfl | decide +kernel)
    (case c_Round_eq => first | k_is | rfl | kernel_rfl | decide +kernel)
    (case k_Round_eq => first | k_is | rfl | kernel_rfl | decide +kernel)
    (case b_Round_len => first | k_is | rfl | kernel_rfl | decide +kernel)
    (case l_Round_len => first | k_is | rfl | kernel_rfl | decide +kernel)
    (case c_Round_len => first | k_is | rfl | kernel_rfl | decide +kernel)
    (case k_Round_len => first | k_is | rfl | kernel_rfl | decide +kernel)
    (case b_Round_str => first | k_is | rfl | kernel_rfl | decide +kernel)
    (case l_Round_str => first | k_is | rfl | kernel_rfl | decide +kernel)
    (case c_Round_str => first | k_is | rfl | kernel_rfl | decide +kernel)
    (case k_Round_str => first | k_is | rfl | kernel_rfl | decide +kernel)
    (case a_law_mixed => first | k_is | rfl | kernel_rfl | decide +kernel)
    (case l_law_mixed => first | k_is | rfl | kernel_rfl | decide +kernel)
    (case c_law_mixed => first | k_is | rfl | kernel_rfl | decide +kernel)
    (case k_law_mixed => first | k_is | rfl | kernel_rfl | decide +kernel)
    (case a_law_folded => first | k_is | rfl | kernel_rfl | decide +kernel)
    (case l_law_folded => first | k_is | rfl | kernel_rfl | decide +kernel)
    (case c_law_folded => first | k_is | rfl | kernel_rfl | decide +kernel)
    (case k_law_folded => first | k_is | rfl | kernel_rfl | decide +kernel)
    (case a_law_draw => first | k_is | rfl | kernel_rfl | decide +kernel)
    (case l_law_draw => first | k_is | rfl | kernel_rfl | decide +kernel)
    (case c_law_draw => first | k_is | rfl | kernel_rfl | decide +kernel)
    (case k_law_draw => first | k_is | rfl | kernel_rfl | decide +kernel)
    (case a_law_begun => first | k_is | rfl | kernel_rfl | decide +kernel)
    (case l_law_begun => first | k_is | rfl | kernel_rfl | decide +kernel)
    (case c_law_begun => first | k_is | rfl | kernel_rfl | decide +kernel)
    (case k_law_begun => first | k_is | rfl | kernel_rfl | decide +kernel)
    (case a_law_called => first | k_is | rfl | kernel_rfl | decide +kernel)
    (case l_law_called => first | k_is | rfl | kernel_rfl | decide +kernel)
    (case c_law_called => first | k_is | rfl | kernel_rfl | decide +kernel)
    (case k_law_called => first | k_is | rfl | kernel_rfl | decide +kernel)
    (case a_law_plain => first | k_is | rfl | kernel_rfl | decide +kernel)
    (case l_law_plain => first | k_is | rfl | kernel_rfl | decide +kernel)
    (case c_law_plain => first | k_is | rfl | kernel_rfl | decide +kernel)
    (case k_law_plain => first | k_is | rfl | kernel_rfl | decide +kernel)
    (case a_law_text => first | k_is | rfl | kernel_rfl | decide +kernel)
    (case l_law_text => first | k_is | rfl | kernel_rfl | decide +kernel)
    (case c_law_text => first | k_is | rfl | kernel_rfl | decide +kernel)
    (case k_law_text => first | k_is | rfl | kernel_rfl | decide +kernel)
    (case a_law_otherwise => first | k_is | rfl | kernel_rfl | decide +kernel)
    (case l_law_otherwise => first | k_is | rfl | kernel_rfl | decide +kernel)
    (case c_law_otherwise => first | k_is | rfl | kernel_rfl | decide +kernel)
    (case k_law_otherwise => first | k_is | rfl | kernel_rfl | decide +kernel)
    (case a_law_alike => first | k_is | rfl | kernel_rfl | decide +kernel)
    (case l_law_alike => first | k_is | rfl | kernel_rfl | decide +kernel)
    (case c_law_alike => first | k_is | rfl | kernel_rfl | decide +kernel)
    (case k_law_alike => first | k_is | rfl | kernel_rfl | decide +kernel)
    (case a_law_told_right => first | k_is | rfl | kernel_rfl | decide +kernel)
    (case l_law_told_right => first | k_is | rfl | kernel_rfl | decide +kernel)
    (case c_law_told_right => first | k_is | rfl | kernel_rfl | decide +kernel)
    (case k_law_told_right => first | k_is | rfl | kernel_rfl | decide +kernel)
    (case a_law_made_right => first | k_is | rfl | kernel_rfl | decide +kernel)
    (case l_law_made_right => first | k_is | rfl | kernel_rfl | decide +kernel)
    (case c_law_made_right => first | k_is | rfl | kernel_rfl | decide +kernel)
    (case k_law_made_right => first | k_is | rfl | kernel_rfl | decide +kernel)
    (case a_law_unlike_right => first | k_is | rfl | kernel_rfl | decide +kernel)
    (case l_law_unlike_right => first | k_is | rfl | kernel_rfl | decide +kernel)
    (case c_law_unlike_right => first | k_is | rfl | kernel_rfl | decide +kernel)
    (case k_law_unlike_right => first | k_is | rfl | kernel_rfl | decide +kernel)
    (case a_law => first | k_is | rfl | kernel_rfl | decide +kernel)
    (case l_law => first | k_is | rfl | kernel_rfl | decide +kernel)
    (case c_law => first | k_is | rfl | kernel_rfl | decide +kernel)
    (case k_law => first | k_is | rfl | kernel_rfl | decide +kernel)
    (case hc_Round_0 => first | k_is | rfl | kernel_rfl | decide +kernel)
    (case hc_Round_1 => first | k_is | rfl | kernel_rfl | decide +kernel)
    (case hc_Round_2 => first | k_is | rfl | kernel_rfl | decide +kernel)
    (case hc_Round_3 => first | k_is | rfl | kernel_rfl | decide +kernel)
    (case no_Round__length' => first | k_is | rfl | kernel_rfl | decide +kernel)
    (case no_Round__calls' => first | k_is | rfl | kernel_rfl | decide +kernel)
    (case no_Round__total' => first | k_is | rfl | kernel_rfl | decide +kernel)
    (case no_Round__step' => first | k_is | rfl | kernel_rfl | decide +kernel)
    (case no_Round__begins' => first | k_is | rfl | kernel_rfl | decide +kernel)
    (case hm_Round_0 => first | k_is | rfl | kernel_rfl | decide +kernel)
    (case hm_Round_1 => first | k_is | rfl | kernel_rfl | decide +kernel)
    (case hm_Round_2 => first | k_is | rfl | kernel_rfl | decide +kernel)
    (case hm_Round_3 => first | k_is | rfl | kernel_rfl | decide +kernel)
    (case hf_Round__first_begins_0 => first | k_is | rfl | kernel_rfl | decide +kernel)
    (case hf_Round__first_begins_1 => first | k_is | rfl | kernel_rfl | decide +kernel)
    (case hf_Round__first_begins_2 => first | k_is | rfl | kernel_rfl | decide +kernel)
    (case hf_Round_length_0 => first | k_is | rfl | kernel_rfl | decide +kernel)
    (case hf_Round_length_1 => first | k_is | rfl | kernel_rfl | decide +kernel)
    (case hf_Round_length_2 => first | k_is | rfl | kernel_rfl | decide +kernel)
    (case hf_Round_total_0 => first | k_is | rfl | kernel_rfl | decide +kernel)
    (case hf_Round_total_1 => first | k_is | rfl | kernel_rfl | decide +kernel)
    (case hf_Round_total_2 => first | k_is | rfl | kernel_rfl | decide +kernel)
    (case hf_Round_calls_0 => first | k_is | rfl | kernel_rfl | decide +kernel)
    (case hf_Round_calls_1 => first | k_is | rfl | kernel_rfl | decide +kernel)
    (case hf_Round_calls_2 => first | k_is | rfl | kernel_rfl | decide +kernel)
    (case hf_Round_keeps_up_0 => first | k_is | rfl | kernel_rfl | decide +kernel)
    (case hf_Round_keeps_up_1 => first | k_is | rfl | kernel_rfl | decide +kernel)
    (case hf_Round_keeps_up_2 => first | k_is | rfl | kernel_rfl | decide +kernel)
    (case hf_Round_eq_0 => first | k_is | rfl | kernel_rfl | decide +kernel)
    (case hf_Round_eq_1 => first | k_is | rfl | kernel_rfl | decide +kernel)
    (case hf_Round_eq_2 => first | k_is | rfl | kernel_rfl | decide +kernel)
    (case ti_Round_eq' => first | k_is | rfl | kernel_rfl | decide +kernel)
    (case hf_Round_len_0 => first | k_is | rfl | kernel_rfl | decide +kernel)
    (case hf_Round_len_1 => first | k_is | rfl | kernel_rfl | decide +kernel)
    (case hf_Round_len_2 => first | k_is | rfl | kernel_rfl | decide +kernel)
    (case ti_Round_len' => first | k_is | rfl | kernel_rfl | decide +kernel)
    (case hf_Round_str_0 => first | k_is | rfl | kernel_rfl | decide +kernel)
    (case hf_Round_str_1 => first | k_is | rfl | kernel_rfl | decide +kernel)
    (case hf_Round_str_2 => first | k_is | rfl | kernel_rfl | decide +kernel)
    (case ti_Round_str' => first | k_is | rfl | kernel_rfl | decide +kernel)
    (case nb_Round' => first | k_is | rfl | kernel_rfl | decide +kernel)
    (case eo_Round_0 => first | k_is | rfl | kernel_rfl | decide +kernel)
    (case eo_Round_1 => first | k_is | rfl | kernel_rfl | decide +kernel)
    (case eo_Round_2 => first | k_is | rfl | kernel_rfl | decide +kernel)
    (case eo_Round_3 => first | k_is | rfl | kernel_rfl | decide +kernel)
    (case eo_Round_4 => first | k_is | rfl | kernel_rfl | decide +kernel)
    (case eo_Round_5 => first | k_is | rfl | kernel_rfl | decide +kernel)
    (case eo_Round_6 => first | k_is | rfl | kernel_rfl | decide +kernel)
    (case eo_Round_7 => first | k_is | rfl | kernel_rfl | decide +kernel)
    (case eo_Round_8 => first | k_is | rfl | kernel_rfl | decide +kernel)
    (case eo_Round_9 => first | k_is | rfl | kernel_rfl | decide +kernel)
    (case eo_Round_10 => first | k_is | rfl | kernel_rfl | decide +kernel)
    (case eo_Round_11 => first | k_is | rfl | kernel_rfl | decide +kernel)
