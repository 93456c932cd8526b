import PyProof.Rows.All
import Wide.All
import OpenK.AllK
import Wide.FinOn
import HandS.ForMost
import HandS.IsInst
import HandS.Defaults
import HandS.Replace
import HandS.TupMul
import HandS.More
import KE.IntTextLaws
import HandS.ForExc
import HandS.ExcInit
import HandS.Lambda
import HandS.ExcIs
import HandS.EndTab
import KE.KExcIs
import HandS.ExcField
import HandS.WrittenGet
import PyProof.TypeEq
import HandS.TupAny
import HandS.FStr
import KE.DataEq
import PyProof.P3Eq
import KE.KIntText
import HandS.Text
import PyProof.Rows.StrFin3
import HandS.Style
import KE.GoesMore
import HandS.Iter
import HandS.MakeKw
import HandS.SortInts
import HandS.SortKw
import KE.DataMinMax
import PySem.Challenge.RW_bindbench_k38_whole_comes_round
set_option Elab.async false
set_option linter.all false
set_option maxRecDepth 100000
set_option maxHeartbeats 2000000
namespace Gd
open PySem PySem.Spec PyProof.Rows L2

/-! ### a promise of a def that holds where no repr is under way -/
structure FnG (P : Program) (w : World) (K : PySem.W.Frag) (mg : Str → Option Value) (base : Heap) (k : Nat) (f : Addr) (fd : FuncData) (ps : List Str) (sp : Sp) : Prop where
  args : ∀ {vs H Q E}, sp vs H Q E → vs.length = ps.length
  runs : ∀ {A : Around} {out : List Env} {s : Shared} {H : Hp} {ar : Args} {us : List Value} {vs : List V} {Q : VK} {E : XK},
    A.guards = some [] → Room k A → Env0 P w K mg base A out s H → BindsTo s fd ar (ps.zip us) → Vals vs us → sp vs H Q E →
    codeAny (model P w) A (.call (.ref f) ar) (CR CX0 out P w H s Q E) s

variable {P : Program} {w : World} {K : PySem.W.Frag} {mg : Str → Option Value} {base : Heap}

theorem FnG.of {k : Nat} {f : Addr} {fd : FuncData} {ps : List Str} {sp : Sp} (F : FnOk P w K mg base CX0 k f fd ps sp) : FnG P w K mg base k f fd ps sp :=
  ⟨fun h => F.len _ _ _ _ h, fun _ hr e hb r h => F.run _ _ _ _ _ _ _ _ _ hr e hb r h⟩

/-- what CR CX0 says of a result -/
theorem cr_out {out : List Env} {H : Hp} {s s' : Shared} {Q : VK} {E : XK} {r : Result} (h : CR CX0 out P w H s Q E r s') : ∃ u, r = .ok (.ret u) ∧ CE out P w H s Q u s' := by
  match r, h with
  | .ok (.ret u), h => exact ⟨u, rfl, h⟩
  | .ok .next, h => exact False.elim h
  | .ok .brk, h => exact False.elim h
  | .ok .cont, h => exact False.elim h
  | .error _, h => exact False.elim h

theorem deeper_guards {A : Around} {env : Env} : (A.deeper env).guards = A.guards := rfl

/-- a def, from its body, where no repr is under way -/
theorem fn_okC {x qual : Str} {st : Stmt} {f : Addr} {fd : FuncData} {N ps : List Str} {k : Nat} {sp : Sp} (F : Fun K x qual st f fd) (S : FnScope N ps (defScope st)) (len : ∀ vs H Q E, sp vs H Q E → vs.length = ps.length)
    (hbody : ∀ (cdv : Value) (A : Around) (out : List Env) (s : Shared) (H : Hp) (vs : List V) (Q : VK) (E : XK), (∃ oc od kV doc pm an ct osl, K.lookup f = some ⟨oc, od, .func (PySem.W.fnOf x qual (defArgs st) (defBody st) (defScope st) .none kV doc pm an cdv ct), osl⟩) → A.guards = some [] → Room k (A.deeper (envOfC qual (defScope st) s.heap.objs.size f cdv)) → sp vs H Q E →
      ∃ t, PSs (cxOf CX0 P w K mg base N qual (defScope st) f cdv A out s H E).nox (defBody st) t ∧ t { nx := fun _ H' => Q .non H', rt := Q } (start N vs) H) : FnG P w K mg base (k + 1) f fd ps sp := by
  obtain ⟨oc, od, kV, doc, pm, an, cdv, ct, osl, rfl, lk, hcd⟩ := F.ex
  refine ⟨fun h => len _ _ _ _ h, ?_⟩
  intro A out s H ar us vs Q E hA room e0 bnd rel pr
  obtain ⟨t, body, start'⟩ := hbody cdv A out s H vs Q E ⟨oc, od, kV, doc, pm, an, ct, osl, lk⟩ hA (room.deeper _) pr
  have inK : K.In s.heap := e0.mod.kin.keeps (fun b o q => (e0.bs b o q).1)
  have nolim : s.heap.NoLimit := e0.mod.nolimit.keeps (fun b o q => (e0.bs b o q).1)
  refine codeAny_call_function room.depth (inK _ _ lk) rfl S.co S.gen rfl (PySem.W.codeRec_of inK hcd) (bnd _ _ _ _ ?_)
  have kinds : ∀ y ∈ ps.zip us, (defScope st).names.lookup y.1 = some .local ∨ ((defScope st).names.lookup y.1 = some .cell ∧ ((cellsFrom (s.heap.objs.size + 1) (defScope st).names []).lookup y.1).isSome = true) := by
    rintro ⟨nm, val⟩ hy
    have m := (List.of_mem_zip hy).1
    exact (S.par nm m).imp id fun q => ⟨q, PySem.W.cellsFrom_some _ _ _ (.inl q)⟩
  refine wpAny_newFunctionEnv_cells S.kind kinds ?_
  rintro env rfl s1 made
  refine ⟨nolim.keeps made.toInCall.keep, codeAny_func ?_⟩
  have inv0 := inv_start (CX := CX0) (mg := mg) (qual := qual) (cd := cdv) (E := E) S room.hd e0 (len _ _ _ _ pr) rel made
  refine wpAny_mono ((body.nox).run [] s1 (start N vs) H _ inv0 start') ?_ fun e s' z => z
  intro fl s' z
  match fl, z with
  | .ret u, ⟨v, σ', H', J, rv, q⟩ => exact ⟨v, H', J.os, J.bare, J.base, J.hok, rv, q⟩
  | .next, ⟨σ', H', J, q⟩ => exact ⟨.non, H', J.os, J.bare, J.base, J.hok, rfl, q⟩
  | .brk, ⟨_, _, _, q⟩ => exact False.elim q
  | .cont, ⟨_, _, _, q⟩ => exact False.elim q

theorem fn_okG {x qual : Str} {st : Stmt} {f : Addr} {fd : FuncData} {N ps : List Str} {k : Nat} {sp : Sp} (F : Fun K x qual st f fd) (S : FnScope N ps (defScope st)) (len : ∀ vs H Q E, sp vs H Q E → vs.length = ps.length)
    (hbody : ∀ (cdv : Value) (A : Around) (out : List Env) (s : Shared) (H : Hp) (vs : List V) (Q : VK) (E : XK), A.guards = some [] → Room k (A.deeper (envOfC qual (defScope st) s.heap.objs.size f cdv)) → sp vs H Q E →
      ∃ t, PSs (cxOf CX0 P w K mg base N qual (defScope st) f cdv A out s H E).nox (defBody st) t ∧ t { nx := fun _ H' => Q .non H', rt := Q } (start N vs) H) : FnG P w K mg base (k + 1) f fd ps sp :=
  fn_okC F S len fun cdv A out s H vs Q E _ => hbody cdv A out s H vs Q E

/-! ### calls of such defs -/
section
variable {X : Cx} {k : Nat} {f : Addr} {fd : FuncData} {ps : List Str} {sp : Sp} {dvs : List V} {ds : List Value} {E : XK} {x : Str} {p pos : Pos} {e : Expr} {es : List Expr} {t : TA}
theorem goG (G : FnG X.prog X.w X.K X.mg X.base k f fd ps sp) (hA : X.A.guards = some []) (room : Room k X.A) (bd : Binds X.K fd ps ds) (dv : Vals dvs ds)
    {pins : List (Addr × Obj)} {σ : L2.St} {H : Hp} {s : Shared} {Q : VK} {us : List Value} {vs : List V} (I : Inv X pins σ H s) (r : Vals vs us) (pr : sp (vs ++ dvs) H Q E) :
    wpAny (model X.prog X.w) X.A (call (.ref f) us) (EP X pins σ Q) X.xe s := by
  have rel := r.append dv
  have n : (us ++ ds).length = ps.length := rel.length ▸ G.args pr
  refine wpAny_call (codeAny_mono (G.runs hA room I.env0 (bd s us I.kIn n) rel pr) ?_)
  intro res s' out
  obtain ⟨u, rfl, ce⟩ := cr_out out
  exact I.after ce
/-- f(e, ..) of such a def -/
theorem pe_callG (G : FnG X.prog X.w X.K X.mg X.base k f fd ps sp) (hA : X.A.guards = some []) (room : Room k X.A) (gl : Gl X x) (at_ : X.mg x = some (.ref f)) (kp : PySem.W.keepIn X.K (.ref f) = true) (bd : Binds X.K fd ps ds) (dv : Vals dvs ds)
    (ha : PA X (e :: es) t) (ndb : (x == ("__debug__" : Str)) = false := by decide) (h1 : starEach (e :: es) X.env = (false, eval e X.env) :: starEach es X.env := by rfl) (h2 : (backTo pos (starEach es X.env)).any (·.1) = false := by rfl) :
    PE X (.Call (.Name x p) (e :: es) [] pos) (tCall sp dvs E t) :=
  ⟨fun pins s σ H Q I h => wpAny_Call_Name_kw (ld_glob I gl at_ (PySem.W.callWith_K (h₀ := X.base) I.ok.mod.kin kp
    (thn (ha.run pos pins s σ H _ I h) fun us s1 ⟨vs, H1, J, r, q⟩ => ⟨J.kIn, goG G hA room bd dv J r q⟩) h1 h2) ndb)⟩
end

/-! ### repr -/
section
variable {X : Cx}
theorem vals_one {x : V} {us : List Value} (r : Vals [x] us) : ∃ u, us = [u] ∧ RelV x u := by
  cases r with
  | cons a b => cases b; exact ⟨_, rfl, a⟩
/-- what may be shown -/
structure Shw (d : PyData) : Prop where
  ok : d.showable = true
  nod : d.hasDict = false
  dep : d.depth ≤ 60
  len : d.shown.length ≤ sizeLine
/-- repr(x) of data: its text hangs on the data alone -/
def rRepr (K : PySem.W.Frag) : List V → Hp → VK → Prop := fun xs H Q => ∃ (x : V) (d : PyData), xs = [x] ∧ Dp K H x d ∧ Shw d ∧ Q (.str d.shown) H
theorem call_repr (hA : X.A.guards = some []) (hu : X.A.units + 64 < cLine) : CallR X (.builtin "repr") (rRepr X.K) := by
  intro pins s σ H xs us Q I r h
  obtain ⟨x, d, rfl, hd, ⟨hs, hn, hdep, hz⟩, q⟩ := h
  obtain ⟨u, rfl, ru⟩ := vals_one r
  obtain ⟨as, rd⟩ := Dp.reads I d _ u hd ru
  have big : ∀ a : Addr, u = .ref a → wpAny (model X.prog X.w) X.A (call (.builtin "repr") [u]) (EP X pins σ Q) X.xe s := by
    rintro a rfl
    refine repr_of_reads' rd hs (PyData.noDict_hsm hn) hA (by omega) (fun _ _ e => e) (fun h' u tk kp => ?_) hz
    exact ⟨.str d.shown, H, I.kept kp, ⟨u, rfl⟩, q⟩
  cases hd with
  | non =>
    obtain rfl : u = Value.none := ru
    exact PySem.P.repr_of_none ⟨.str _, H, I.tok _, ⟨_, rfl⟩, q⟩
  | bl b =>
    obtain rfl : u = Value.bool b := ru
    refine PySem.P.repr_of_bool ⟨.str _, H, I.tok _, ⟨_, rfl⟩, ?_⟩
    cases b <;> exact q
  | int i =>
    obtain ⟨t, rfl⟩ := ru
    refine PySem.P.repr_of_int ?_ ⟨.str _, H, I.tok _, ⟨_, rfl⟩, q⟩
    simpa [PyData.showable] using hs
  | str z =>
    obtain ⟨t, rfl⟩ := ru
    exact PySem.P.repr_of_str ⟨.str _, H, I.tok _, ⟨_, rfl⟩, q⟩ hz
  | lst _ _ => exact big _ ru
  | tup _ _ => exact big _ ru
end
/-! ### the law's own call, where no repr is under way -/
/-- the heap below: all but the script -/
theorem below_script {s : Shared} {H : Hp} {a : Addr} {vs : Array Value} {n : Nat} {mb : Str → Option Value} (KX : K.In s.heap) (hns : s.heap.Ns mainGlobals mg) (hb : s.heap.Ns builtinsNs mb) (hbb : ∀ x : Str, x ≠ "__name__" → mb x = bootBuiltins x)
    (lim : s.heap.NoLimit) (ha : s.heap.get? a = some { cls := .type "list", data := .seq vs n }) (only : ∀ b, b ≠ a → H b = none) (apart : K.lookup a = none ∨ H a = none) :
    K.In (hidT s.heap H) ∧ (hidT s.heap H).Ns mainGlobals mg ∧ Mod K mg (hidT s.heap H) := by
  have names : ∀ (b : Addr) (m : Str → Option Value), s.heap.Ns b m → (hidT s.heap H).Ns b m := by
    rintro b m ⟨o, es, ep, q, dat, rest⟩
    refine ⟨o, es, ep, hidT_get q (only b fun z => ?_), dat, rest⟩
    subst z
    rw [ha] at q
    cases q
    cases (show Data.seq vs n = Data.dict es ep from dat)
  have inK : K.In (hidT s.heap H) := fun b o q => hidT_get (KX b o q) (by
    by_cases z : b = a
    · subst z
      rcases apart with w1 | w1
      · rw [w1] at q; cases q
      · exact w1
    · exact only b z)
  obtain ⟨mc, c1, c2⟩ := lim
  exact ⟨inK, names _ _ hns, ⟨inK, names _ _ hns, ⟨mb, names _ _ hb, hbb⟩, ⟨mc, names _ _ c1, c2⟩⟩⟩

theorem run_script {mb : Str → Option Value} {k : Nat} {fa a : Addr} {fd : FuncData} {x : Str} {sp : Sp} {s : Shared} {vs : List Value} {H : Hp}
    (KX : K.In s.heap) (hns : s.heap.Ns mainGlobals mg) (hb : s.heap.Ns builtinsNs mb) (hbb : ∀ x : Str, x ≠ "__name__" → mb x = bootBuiltins x) (lim : s.heap.NoLimit) (nog : s.gens = #[])
    (ha : s.heap.get? a = some { cls := .type "list", data := .seq vs.toArray }) (room : Room k callerA)
    (G : ∀ base : Heap, K.In base → base.Ns mainGlobals mg → FnG P w K mg base k fa fd [x] sp) (bind : ∀ (s : Shared) (u : Value), BindsTo s fd ⟨[u], []⟩ [(x, u)])
    (only : ∀ b, b ≠ a → H b = none) (apart : K.lookup a = none ∨ H a = none) (ok : HOk P w H s.heap) (fz : ∀ u, H a = some u → ∃ o v, u = .frz o v)
    (pr : sp [.ref a] H (fun v _ => v = .bl true) fun _ _ _ => False) :
    codeAny (model P w) callerA (.call (.ref fa) ⟨[.ref a], []⟩) (fun r s' => r = .ok (.ret (.bool true)) ∧ OldK s.heap s'.heap ∧ s'.os = s.os ∧ AllBare s'.gens) s := by
  obtain ⟨inK, nsm, md⟩ := below_script KX hns hb hbb lim ha only apart
  have none_in : ∀ b : Addr, b ∈ frs ([] : List Env) → False := fun b z => by cases z
  have env0 : Env0 P w K mg (hidT s.heap H) callerA [] s H :=
    { frames := rfl, mod := md, bs := fun b o q => of_hidT q, bsz := Nat.le_of_eq (hidT_size _ _), funs := trivial, frf := fun b z => (none_in b z).elim, hok := ok, bare := .of_eq nog }
  refine codeAny_mono ((G _ inK nsm).runs (us := [.ref a]) (vs := [.ref a]) rfl room env0 (bind s (.ref a)) (.cons rfl .nil) pr) ?_
  intro r s' out
  obtain ⟨u, rfl, v, H', os, bare, un, ok', rel, q⟩ := cr_out out
  subst q
  obtain rfl : u = Value.bool true := rel
  refine ⟨rfl, OldK.of_keep ?_, os, bare⟩
  intro b o old
  cases q : H b with
  | none => exact un.keep b o old q (fun z => none_in b z) (fun z => by cases z)
  | some ho =>
    by_cases z : b = a
    · subst z
      obtain ⟨ob, v', rfl⟩ := fz _ q
      have e1 := (ok b _ q).1
      have e2 := (ok' b _ (un.frzs b ob _ q)).1
      rw [old] at e1
      cases e1
      exact e2
    · rw [only b z] at q
      cases q

/-- what k_head leaves, from the promise of the law's def -/
theorem walkG {l : PySem.W.OpenLaw} {n k : Nat} {q : Program} {loose : List Str} {XP : (Str → Option Value) → Heap → Prop} {YP : World → Heap → Prop} {d : DefRec} {KK : Params → PySem.W.Frag} {sp : World → Sp} {x : Str}
    (hn : l.most = some n) (hn2 : n ≤ sizeLine) (nod : d.params.defaults = []) (room : Room k callerA) (hY : ∀ (w : World) (h : Heap), YP w h → (KK w.params).In h)
    (G : ∀ (w : World) (mg : Str → Option Value) (fa : Addr) (h : Heap), (KK w.params).In h → h.Ns mainGlobals mg → mg d.name = some (.ref fa) →
      ∃ fd : FuncData, (∀ (s : Shared) (u : Value), BindsTo s fd ⟨[u], []⟩ [(x, u)]) ∧ ∀ base : Heap, (KK w.params).In base → base.Ns mainGlobals mg → FnG l.prog w (KK w.params) mg base k fa fd [x] (sp w))
    (pr : ∀ (w : World) (H : Hp) (a : Addr) (ns : List Int), ns.length ≤ n → SqL (KK w.params) H a (ns.map V.int) → (∀ b, b ≠ a → H b = none) → sp w [.ref a] H (fun v _ => v = .bl true) fun _ _ _ => False) :
    PySem.W.WalkO q loose XP YP l.row.toRowW d [] (fun f vs => PySem.call f vs) := by
  refine Att.attach_call hn nod ?_
  intro w s0 s1 mg mb fa o pm cd doc a vs ns T Y _ _ _ at_ obj intsA len nog
  have KX := hY w _ Y
  obtain ⟨fd, bind, F⟩ := G w mg fa _ KX T.T.g at_
  have size : (ns.map V.int).length ≤ sizeLine := by
    rw [List.length_map]
    exact Nat.le_trans len hn2
  cases z : (KK w.params).lookup a with
  | none =>
    have at1 : (fun b => if b = a then some (HO.frz { cls := .type "list", data := .seq vs.toArray } (.lst (ns.map V.int))) else none : Hp) a = some (HO.frz { cls := .type "list", data := .seq vs.toArray } (.lst (ns.map V.int))) := if_pos rfl
    refine run_script (H := fun b => if b = a then some (.frz { cls := .type "list", data := .seq vs.toArray } (.lst (ns.map V.int))) else none) KX T.T.g T.T.b T.T.builtins T.T.nolimit nog obj room F bind (fun b ne => if_neg ne) (.inl z) ?_ ?_ ?_
    · intro b u e
      by_cases ne : b = a
      · subst ne
        have e2 := at1.symm.trans e
        cases e2
        exact ⟨obj, size, vs, _, vals_ints intsA, obj⟩
      · have e' := (if_neg ne).symm.trans e
        cases e'
    · intro u e
      have e2 := at1.symm.trans e
      cases e2
      exact ⟨_, _, rfl⟩
    · exact pr w _ a ns len (.inl (.inr ⟨_, at1⟩)) fun b ne => if_neg ne
  | some ob =>
    have e := KX a ob z
    rw [obj] at e
    cases e
    refine run_script (H := fun _ => none) KX T.T.g T.T.b T.T.builtins T.T.nolimit nog obj room F bind (fun _ _ => rfl) (.inr rfl) (fun b u e => by cases (show (none : Option HO) = some u from e)) (fun u e => by cases (show (none : Option HO) = some u from e)) ?_
    refine pr w _ a ns len (.inr ⟨_, vs.toArray, _, z, rfl, rfl, rfl, ?_, by simpa using vals_ints intsA⟩) fun _ _ => rfl
    rw [List.size_toArray, intsA.length]
    rw [List.length_map] at size
    exact size
end Gd

set_option maxRecDepth 100000
set_option maxHeartbeats 2000000
namespace Gd
open PySem PySem.Spec PyProof.Rows L2

/-! ### walks of any kind, by a word at each turn -/
section
variable {J : It} {g : TG} {tb : TS} {D : Ends} {σ : L2.St} {H : Hp}
theorem for_gen (n : Nat) (Pv : Nat → L2.St → Hp → Prop) (h0 : Pv 0 σ H) (go : ∀ i σ H, i < n → Pv i σ H → J.go i H) (stop : ∀ σ H, Pv n σ H → J.stop n H)
    (turn : ∀ i σ H x H', i < n → Pv i σ H → J.yld i H x H' → g x σ H' fun σ2 H2 => tb { D with nx := Pv (i + 1), ct := Pv (i + 1), bk := D.nx } σ2 H2) (fin : ∀ σ H, Pv n σ H → D.nx σ H) :
    ∃ W : Nat → Nat → L2.St → Hp → Prop, (∃ m, W 0 m σ H) ∧ ∀ i m σ H, W i m σ H → (J.stop i H ∧ D.nx σ H) ∨
      (J.go i H ∧ ∃ N : L2.St → Hp → Prop, (∀ σ' H', N σ' H' → ∃ m', m' < m ∧ W (i + 1) m' σ' H') ∧ ∀ x H', J.yld i H x H' → g x σ H' fun σ2 H2 => tb { D with nx := N, ct := N, bk := D.nx } σ2 H2) := by
  refine ⟨fun i m s h => i + m = n ∧ Pv i s h, ⟨n, Nat.zero_add n, h0⟩, fun i m s h hw => ?_⟩
  obtain ⟨e, p⟩ := hw
  match m, e with
  | 0, e =>
    obtain rfl : i = n := e
    exact .inl ⟨stop s h p, fin s h p⟩
  | m + 1, e =>
    have lt : i < n := by omega
    exact .inr ⟨go i s h lt p, Pv (i + 1), fun s' h' p' => ⟨m, Nat.lt_succ_self m, by omega, p'⟩, fun x h' y => turn i s h x h' lt p y⟩
theorem lc_gen {tt : TT} {te : TE} {vs : List Nat} {A : Addr} {Qd : Hp → Prop} (n : Nat) (Pv : Nat → Hp → Prop) (h0 : Pv 0 (upd H A (.lst []))) (go : ∀ i H, i < n → Pv i H → J.go i H) (stop : ∀ H, Pv n H → J.stop n H)
    (turn : ∀ i H x H', i < n → Pv i H → J.yld i H x H' → g x (wipe σ vs) H' fun σ2 H2 => wipe σ2 vs = wipe σ vs ∧ tt σ2 H2 fun b H3 =>
      if b = true then te σ2 H3 fun y H4 => ∃ acc, H4 A = some (.lst acc) ∧ acc.length < sizeLine ∧ Pv (i + 1) (upd H4 A (.lst (acc ++ [y]))) else Pv (i + 1) H3) (fin : ∀ H, Pv n H → Qd H) :
    ∃ W : Nat → Nat → Hp → Prop, (∃ m, W 0 m (upd H A (.lst []))) ∧ ∀ i m H, W i m H → (J.stop i H ∧ Qd H) ∨
      (J.go i H ∧ ∃ Nx : Hp → Prop, (∀ H', Nx H' → ∃ m', m' < m ∧ W (i + 1) m' H') ∧ ∀ x H', J.yld i H x H' → g x (wipe σ vs) H' fun σ2 H2 => wipe σ2 vs = wipe σ vs ∧ tt σ2 H2 fun b H3 =>
        if b = true then te σ2 H3 fun y H4 => ∃ acc, H4 A = some (.lst acc) ∧ acc.length < sizeLine ∧ Nx (upd H4 A (.lst (acc ++ [y]))) else Nx H3) := by
  refine ⟨fun i m h => i + m = n ∧ Pv i h, ⟨n, Nat.zero_add n, h0⟩, fun i m h hw => ?_⟩
  obtain ⟨e, p⟩ := hw
  match m, e with
  | 0, e =>
    obtain rfl : i = n := e
    exact .inl ⟨stop h p, fin h p⟩
  | m + 1, e =>
    have lt : i < n := by omega
    exact .inr ⟨go i h lt p, Pv (i + 1), fun h' p' => ⟨m, Nat.lt_succ_self m, by omega, p'⟩, fun x h' y => turn i h x h' lt p y⟩
end
/-- over enumerate(list) -/
theorem for_enum {K : PySem.W.Frag} {a : Addr} {xs : List V} {g : TG} {tb : TS} {D : Ends} {σ : L2.St} {H : Hp} (Pv : Nat → L2.St → Hp → Prop) (h0 : Pv 0 σ H) (st : ∀ i σ H, Pv i σ H → SqL K H a xs)
    (turn : ∀ i x σ H T, i < xs.length → xs[i]? = some x → Pv i σ H → H T = none → g (.ref T) σ (upd H T (.tup [.int (i : Nat), x])) fun σ2 H2 => tb { D with nx := Pv (i + 1), ct := Pv (i + 1), bk := D.nx } σ2 H2) (fin : ∀ σ H, Pv xs.length σ H → D.nx σ H) :
    ∃ W : Nat → Nat → L2.St → Hp → Prop, (∃ m, W 0 m σ H) ∧ ∀ i m σ H, W i m σ H → ((Ite K a).stop i H ∧ D.nx σ H) ∨
      ((Ite K a).go i H ∧ ∃ N : L2.St → Hp → Prop, (∀ σ' H', N σ' H' → ∃ m', m' < m ∧ W (i + 1) m' σ' H') ∧ ∀ x H', (Ite K a).yld i H x H' → g x σ H' fun σ2 H2 => tb { D with nx := N, ct := N, bk := D.nx } σ2 H2) := by
  refine for_gen xs.length Pv h0 (fun i s h lt p => ⟨xs, xs[i], st i s h p, List.getElem?_eq_getElem lt⟩) (fun s h p => ⟨xs, st _ s h p, Nat.le_refl _⟩) (fun i s h x h' lt p y => ?_) fin
  obtain ⟨T, z, rfl, fresh, rfl, known⟩ := y
  exact turn i z s h T lt (known xs (st i s h p)) p fresh
/-- over a text -/
theorem for_str {x : PySem.Str} {g : TG} {tb : TS} {D : Ends} {σ : L2.St} {H : Hp} (Pv : Nat → L2.St → Hp → Prop) (h0 : Pv 0 σ H)
    (turn : ∀ i c σ H, i < x.cps.toList.length → x.cps.toList[i]? = some c → Pv i σ H → g (.str ⟨#[c]⟩) σ H fun σ2 H2 => tb { D with nx := Pv (i + 1), ct := Pv (i + 1), bk := D.nx } σ2 H2) (fin : ∀ σ H, Pv x.cps.toList.length σ H → D.nx σ H) :
    ∃ W : Nat → Nat → L2.St → Hp → Prop, (∃ m, W 0 m σ H) ∧ ∀ i m σ H, W i m σ H → ((Its x).stop i H ∧ D.nx σ H) ∨
      ((Its x).go i H ∧ ∃ N : L2.St → Hp → Prop, (∀ σ' H', N σ' H' → ∃ m', m' < m ∧ W (i + 1) m' σ' H') ∧ ∀ v H', (Its x).yld i H v H' → g v σ H' fun σ2 H2 => tb { D with nx := N, ct := N, bk := D.nx } σ2 H2) := by
  refine for_gen x.cps.toList.length Pv h0 (fun i s h lt p => by show i < x.cps.size; simpa using lt) (fun s h p => by show x.cps.size ≤ x.cps.toList.length; simp) (fun i s h v h' lt p y => ?_) fin
  obtain ⟨rfl, c, e, rfl⟩ := y
  exact turn i c s _ lt (by simpa using e) p
theorem lc_str {x : PySem.Str} {g : TG} {σ : L2.St} {H : Hp} {tt : TT} {te : TE} {vs : List Nat} {A : Addr} {Qd : Hp → Prop} (Pv : Nat → Hp → Prop) (h0 : Pv 0 (upd H A (.lst [])))
    (turn : ∀ i c H, i < x.cps.toList.length → x.cps.toList[i]? = some c → Pv i H → g (.str ⟨#[c]⟩) (wipe σ vs) H fun σ2 H2 => wipe σ2 vs = wipe σ vs ∧ tt σ2 H2 fun b H3 =>
      if b = true then te σ2 H3 fun y H4 => ∃ acc, H4 A = some (.lst acc) ∧ acc.length < sizeLine ∧ Pv (i + 1) (upd H4 A (.lst (acc ++ [y]))) else Pv (i + 1) H3) (fin : ∀ H, Pv x.cps.toList.length H → Qd H) :
    ∃ W : Nat → Nat → Hp → Prop, (∃ m, W 0 m (upd H A (.lst []))) ∧ ∀ i m H, W i m H → ((Its x).stop i H ∧ Qd H) ∨
      ((Its x).go i H ∧ ∃ Nx : Hp → Prop, (∀ H', Nx H' → ∃ m', m' < m ∧ W (i + 1) m' H') ∧ ∀ v H', (Its x).yld i H v H' → g v (wipe σ vs) H' fun σ2 H2 => wipe σ2 vs = wipe σ vs ∧ tt σ2 H2 fun b H3 =>
        if b = true then te σ2 H3 fun y H4 => ∃ acc, H4 A = some (.lst acc) ∧ acc.length < sizeLine ∧ Nx (upd H4 A (.lst (acc ++ [y]))) else Nx H3) := by
  refine lc_gen x.cps.toList.length Pv h0 (fun i h lt p => by show i < x.cps.size; simpa using lt) (fun h p => by show x.cps.size ≤ x.cps.toList.length; simp) (fun i h v h' lt p y => ?_) fin
  obtain ⟨rfl, c, e, rfl⟩ := y
  exact turn i c _ lt (by simpa using e) p

/-! ### heaps -/
theorem same_new {H : Hp} {p : Addr} {o : HO} (h : H p = none) : Same H (upd H p o) := fun b u e => by
  rw [upd_ne (ne_of_none e h)]
  exact e
theorem same_put {H H' : Hp} {p : Addr} {o : HO} (s : Same H H') (h : H p = none) : Same H (upd H' p o) := fun b u e => by
  rw [upd_ne (ne_of_none e h)]
  exact s b u e
theorem same_both {H H' : Hp} {p : Addr} {o : HO} (s : Same H H') : Same (upd H p o) (upd H' p o) := fun b u e => by
  by_cases z : b = p
  · subst z
    rw [upd_same] at e ⊢
    exact e
  · rw [upd_ne z] at e ⊢
    exact s b u e

/-! ### a call by keywords alone -/
section
variable {X : Cx} {CX : CXT} {k : Nat} {f : Addr} {fd : FuncData} {ps ks : List PySem.Str} {sp : Sp} {E : XK} {x : PySem.Str} {p pos : Pos} {kws : List Keyword} {tk : TA} {g : List Value → List Value → List Value} {gV : List V → List V → List V}
theorem pe_callK0 (F : FnOk X.prog X.w X.K X.mg X.base CX k f fd ps sp) (room : Room k X.A) (gl : Gl X x) (at_ : X.mg x = some (.ref f)) (kp : PySem.W.keepIn X.K (.ref f) = true) (kb : KBinds X.K fd ps ks g gV) (pass : Passes CX X E)
    (hkw : PK X kws tk) (h1 : (backToKw pos (keywordEach kws X.env)).all (·.1.isSome) = true := by rfl) (h2 : (backToKw pos (keywordEach kws X.env)).filterMap (·.1) = ks := by rfl) (ndb : (x == ("__debug__" : PySem.Str)) = false := by decide)
    (h3 : ((backTo pos (starEach [] X.env)).any (·.1) || (backToKw pos (keywordEach kws X.env)).any (·.1.isNone)) = false := by rfl) :
    PE X (.Call (.Name x p) [] kws pos) (fun σ H Q => tk σ H fun zs H1 => sp (gV [] zs) H1 Q E) := by
  refine ⟨fun pins s σ H Q I h => wpAny_Call_Name_kw (ld_glob I gl at_ (PySem.W.callWith_KW0 (h₀ := X.base) I.ok.mod.kin kp h1 (thn (hkw.run pos pins s σ H _ I h) fun ws s2 z => ?_) h3) ndb)⟩
  obtain ⟨zs, H2, J, rz, q⟩ := z
  refine ⟨J.kIn, ?_⟩
  rw [h2]
  exact run_fnk (us := []) (vs := []) F room kb pass J .nil rz q
end

/-! ### texts and tuples repeated -/
section
variable {X : Cx}
theorem op_rep_str : OpR X (binaryOp .Mult) (fun x y H Q => ∃ (z : PySem.Str) (k : Int), x = .str z ∧ y = .int k ∧ MulOk z k ∧ Q (.str (Txt.mul z k)) H) := by
  intro pins s σ H x y v u Q I rx ry h
  obtain ⟨z, k, rfl, rfl, ok, q⟩ := h
  obtain ⟨t, rfl⟩ := rx
  obtain ⟨t', rfl⟩ := ry
  exact SB.mul ok fun t2 n => ⟨.str (Txt.mul z k), H, I.tok n, ⟨t2, rfl⟩, q⟩
/-- a tuple that is not empty, at least twice -/
theorem op_repTW : OpR X (binaryOp .Mult) (fun x y H Q => ∃ (l : Addr) (k : Int) (xs : List V), x = .ref l ∧ y = .int k ∧ H l = some (.tup xs) ∧ xs ≠ [] ∧ 2 ≤ k ∧ xs.length * k.toNat ≤ 1000000 ∧ ∀ p, H p = none → Q (.ref p) (upd H p (.tup (List.replicate k.toNat xs).flatten))) := by
  intro pins s σ H x y v u Q I rx ry h
  obtain ⟨l, k, xs, rfl, rfl, hl, some_, two, many, q⟩ := h
  cases rx
  obtain ⟨t, rfl⟩ := ry
  obtain ⟨its, rel, ⟨⟨cls, dd, data, sl⟩, at_, hc, n, hd⟩, _⟩ := I.tuple (.inl (.inl hl))
  simp only at hc hd
  subst hc hd
  have same : its.length = xs.length := rel.length.symm
  have cnt : its.toArray.size = xs.length := by rw [List.size_toArray, same]
  have k1 : ((k.toNat : Nat) : Int) = k := Int.toNat_of_nonneg (by omega)
  have big : ((its.toArray.size : Nat) : Int) * k ≤ 1000000 := by
    have z := Int.ofNat_le.mpr many
    rw [Int.natCast_mul, k1] at z
    rw [cnt]
    exact z
  have pos : 0 < xs.length := List.length_pos_iff.mpr some_
  have kle : k ≤ 1000000 := by
    have := Nat.le_mul_of_pos_left k.toNat pos
    omega
  have fl : (List.replicate k.toNat its).flatten.length ≤ 1000000 := by
    rw [PyProof.Rows.lm_len_rep_flat, same, Nat.mul_comm]
    exact many
  have line : (1000000 : Nat) ≤ sizeLine := by rw [sizeLine_eq]; decide
  have ne : its.toArray.isEmpty = false := by
    cases its with
    | nil => exact absurd (List.eq_nil_of_length_eq_zero same.symm) some_
    | cons a b => rfl
  have c0 : (decide (k < -(2 ^ 63)) || decide (k ≥ 2 ^ 63)) = false := by
    rw [Bool.or_eq_false_iff]
    exact ⟨decide_eq_false (by omega), decide_eq_false (by omega)⟩
  have c1 : (its.toArray.isEmpty || k == 1) = false := by
    rw [ne]
    exact beq_eq_false_iff_ne.mpr (by omega)
  have c2 : (decide (k ≤ 0) || its.toArray.isEmpty) = false := by
    rw [ne, Bool.or_false]
    exact decide_eq_false (by omega)
  have c3 : Builtin.Tuple.tupleTooMany (((its.toArray.size : Nat) : Int) * k) = false := by
    unfold Builtin.Tuple.tupleTooMany
    rw [sizeLine_eq]
    exact decide_eq_false (by omega)
  have typ : s.TypeIs (.ref l) "tuple" := ⟨_, at_, rfl⟩
  refine wpAny_binaryOp_repeat_ref (T := "tuple") (U := "int") (by decide) typ (fun s' => typeIs_int s' k t) noFill_tuple_mul F.fills_int_mul F.slot_int_rmul repeat_tuple F.slot_int_index.lookup
    (call_meets F.slot_int_rmul (typeIs_int s k t) F.entry_int_rmul (F.args_int_rmul_2 _ _) (int_rmul_tuple k t l its.toArray n dd sl) ⟨at_, rfl, typ,
      call_meets F.slot_tuple_mul typ F.entry_tuple_mul (F.args_tuple_mul_2 _ _) (tuple_mulW l its.toArray n dd sl k t c0 c1 c2 (by omega) c3 (by rw [size_rep, List.size_toArray]; exact Nat.le_trans fl line)) ⟨at_, ?_⟩⟩)
  rw [size_rep]
  have new : ObjOk X.prog X.w (upd H s.heap.objs.size (.tup (List.replicate k.toNat xs).flatten)) _ s.heap.objs.size (.tup (List.replicate k.toNat xs).flatten) :=
    ⟨by rw [PyProof.Rows.lm_len_rep_flat, Nat.mul_comm]; exact Nat.le_trans many line, _, rel.rep k.toNat, IsTup.new _ _⟩
  exact ⟨.ref s.heap.objs.size, _, I.laid (t' := s.toks) (fun b ob z => Heap.get?_push_of_some _ z) (Nat.le_refl _) new, rfl, q _ (I.hok.fresh (Nat.le_refl _))⟩
end

/-! ### the same rules with the written part by its name (within a comprehension) -/
section
variable {X : Cx} {K : PySem.W.Frag}
def rLenK (K : PySem.W.Frag) : List V → Hp → VK → Prop := fun xs H Q => ∃ p ys, xs = [.ref p] ∧ (SqL K H p ys ∨ SqT K H p ys) ∧ Q (.int ys.length) H
theorem lenK (h : X.K = K) : CallR X (.builtin "len") (rLenK K) := by
  subst h
  exact call_len_seq
theorem ixlK (h : X.K = K) : IxR X (rIxL K) := by
  subst h
  exact ix_list
theorem ixtK (h : X.K = K) : IxR X (rIxT K) := by
  subst h
  exact ix_tup
theorem inK (h : X.K = K) : OpR X (compareOp .In) (rIn K false) := by
  subst h
  exact op_in_seq
theorem notInK (h : X.K = K) : OpR X (compareOp .NotIn) (rIn K true) := by
  subst h
  exact op_notIn_seq
theorem eqDK (h : X.K = K) (hu : X.A.units + 64 < cLine) : OpR X (compareOp .Eq) (rEqD K) := by
  subst h
  exact op_eqD hu
theorem neDK (h : X.K = K) (hu : X.A.units + 64 < cLine) : OpR X (compareOp .NotEq) (rNeD K) := by
  subst h
  exact op_neD hu
theorem sllK (h : X.K = K) : SlR X (rSlL K) := by
  subst h
  exact sl_list
theorem sltK (h : X.K = K) : SlR X (rSlT K) := by
  subst h
  exact sl_tup
theorem typeK (h : X.K = K) : CallR X (.type "type") (rTyp K) := by
  subst h
  exact call_type1
theorem isiK (h : X.K = K) : CallR X (.builtin "isinstance") (rIsi K) := by
  subst h
  exact call_isi
theorem reprK (h : X.K = K) (hA : X.A.guards = some []) (hu : X.A.units + 64 < cLine) : CallR X (.builtin "repr") (rRepr K) := by
  subst h
  exact call_repr hA hu
end

/-! ### texts that are short and whose signs are signs -/
def Tx (n : Nat) (z : PySem.Str) : Prop := z.cps.toList.length ≤ n ∧ ∀ c ∈ z.cps.toList, c < 1114112
theorem Tx.mono {n m : Nat} {z : PySem.Str} (h : Tx n z) (e : n ≤ m) : Tx m z := ⟨Nat.le_trans h.1 e, h.2⟩
theorem Tx.add {n m : Nat} {z y : PySem.Str} (h : Tx n z) (k : Tx m y) : Tx (n + m) (z ++ y) := by
  have e : (z ++ y).cps.toList = z.cps.toList ++ y.cps.toList := Array.toList_append
  refine ⟨?_, fun c hc => ?_⟩
  · rw [e, List.length_append]
    exact Nat.add_le_add h.1 k.1
  · rw [e] at hc
    exact (List.mem_append.mp hc).elim (h.2 c) (k.2 c)
theorem Tx.cut {n : Nat} {z : PySem.Str} (h : Tx n z) (lo hi : Option Int) : Tx n (cutS z lo hi) := by
  have e : (cutS z lo hi).cps.toList = (z.cps.toList.drop (HT.sIx z.length 0 lo)).take (HT.sIx z.length z.length hi - HT.sIx z.length 0 lo) := by
    show (List.toArray _).toList = _
    rw [List.toList_toArray]
  refine ⟨?_, fun c hc => ?_⟩
  · rw [e, List.length_take, List.length_drop]
    have := h.1
    omega
  · rw [e] at hc
    exact h.2 c (List.mem_of_mem_drop (List.mem_of_mem_take hc))
theorem Tx.one {c : Nat} {n : Nat} {z : PySem.Str} (h : Tx n z) (hc : c ∈ z.cps.toList) : Tx 1 ⟨#[c]⟩ := ⟨by simp, fun d hd => by
  have : d = c := by simpa using hd
  rw [this]
  exact h.2 c hc⟩
theorem Tx.line {n : Nat} {z : PySem.Str} (h : Tx n z) (e : n ≤ 1000000) : z.length ≤ sizeLine := by
  have : z.length = z.cps.toList.length := by show z.cps.size = _; simp
  rw [this]
  exact Nat.le_trans h.1 (Nat.le_trans e (by rw [sizeLine_eq]; decide))
theorem atI_mem {α : Type} {l : List α} {i : Int} {x : α} (h : atI l i = some x) : x ∈ l := by
  unfold atI at h
  obtain ⟨j, _, e⟩ := Option.bind_eq_some_iff.mp h
  exact List.mem_of_getElem? e
theorem foldl_app {α : Type} : ∀ (n : Nat) (x a : Array α), ((List.replicate n x).foldl (· ++ ·) a).toList = a.toList ++ (List.replicate n x.toList).flatten
  | 0, x, a => by simp
  | n + 1, x, a => by
    rw [List.replicate_succ, List.foldl_cons, foldl_app n x (a ++ x), Array.toList_append, List.replicate_succ, List.flatten_cons, List.append_assoc]
theorem Tx.rep {n : Nat} {z : PySem.Str} (h : Tx n z) {k : Int} : Tx (n * k.toNat) (Txt.mul z k) := by
  unfold Txt.mul
  by_cases h1 : k < 1
  · rw [if_pos h1]
    exact ⟨Nat.zero_le _, fun c hc => by cases hc⟩
  · rw [if_neg h1]
    by_cases h2 : (k == 1 || z.length == 0) = true
    · rw [if_pos h2]
      exact h.mono (Nat.le_mul_of_pos_right n (by omega))
    · rw [if_neg h2]
      refine ⟨?_, fun c hc => ?_⟩
      · show ((List.replicate k.toNat z.cps).foldl (· ++ ·) #[]).toList.length ≤ _
        rw [foldl_app]
        simp only [List.nil_append, List.length_flatten, List.map_replicate, List.sum_replicate_nat]
        rw [Nat.mul_comm]
        exact Nat.mul_le_mul_right _ h.1
      · rw [show (⟨(List.replicate k.toNat z.cps).foldl (· ++ ·) #[]⟩ : PySem.Str).cps.toList = _ from foldl_app _ _ _] at hc
        simp only [List.nil_append, List.mem_flatten, List.mem_replicate] at hc
        obtain ⟨l, ⟨_, rfl⟩, hc⟩ := hc
        exact h.2 c hc
end Gd

set_option maxRecDepth 100000
set_option maxHeartbeats 2000000
namespace Gd
open PySem PySem.Spec PyProof.Rows L2

/-! ### what the numbers are drawn by: a dict of three -/
abbrev kC : Key := Sum.inr "cells"
abbrev kL : Key := Sum.inr "left"
abbrev kS : Key := Sum.inr "spot"
def mK (lc ll : Addr) (k : Int) : List (Key × V) := [(kC, .ref lc), (kL, .ref ll), (kS, .int k)]
theorem nCL : ¬ kC = kL := by decide +kernel
theorem nCS : ¬ kC = kS := by decide +kernel
theorem nLS : ¬ kL = kS := by decide +kernel
theorem mK_C {lc ll : Addr} {k : Int} : valV (mK lc ll k) kC = some (.ref lc) := valV_pos rfl
theorem mK_L {lc ll : Addr} {k : Int} : valV (mK lc ll k) kL = some (.ref ll) := (valV_neg nCL).trans (valV_pos rfl)
theorem mK_S {lc ll : Addr} {k : Int} : valV (mK lc ll k) kS = some (.int k) := (valV_neg nCS).trans ((valV_neg nLS).trans (valV_pos rfl))
theorem mK_put {lc ll : Addr} {k j : Int} : putK (mK lc ll k) kS (.int j) = mK lc ll j := by
  unfold putK
  rw [valV_any, mK_S, Option.isSome_some, if_pos rfl]
  show [if kC = kS then (kC, V.int j) else (kC, .ref lc), if kL = kS then (kL, V.int j) else (kL, .ref ll), if kS = kS then (kS, V.int j) else (kS, .int k)] = _
  rw [if_neg nCS, if_neg nLS, if_pos rfl]
  rfl
theorem mK_putL {lc ll l2 : Addr} {k : Int} : putK (mK lc ll k) kL (.ref l2) = mK lc l2 k := by
  unfold putK
  rw [valV_any, mK_L, Option.isSome_some, if_pos rfl]
  show [if kC = kL then (kC, V.ref l2) else (kC, .ref lc), if kL = kL then (kL, V.ref l2) else (kL, .ref ll), if kS = kL then (kS, V.ref l2) else (kS, .int k)] = _
  rw [if_neg nCL, if_pos rfl, if_neg (Ne.symm nLS)]
  rfl
/-- the dict at d stands so, n more numbers may be drawn; of the heap H0 nothing is touched by that -/
structure Dr (H0 H : Hp) (d n : Nat) : Prop where
  ex : ∃ (lc ll : Addr) (cs ls : List Int) (k : Int), H d = some (.dK (mK lc ll k)) ∧ H lc = some (.lst (cs.map V.int)) ∧ H ll = some (.lst (ls.map V.int)) ∧ lc ≠ ll ∧
    cs.length = 64 ∧ (∀ c ∈ cs, 0 ≤ c ∧ c < 2147483647) ∧ ls.length ≤ 63 ∧ 0 ≤ k ∧ k + n ≤ 2147483648 ∧ H0 lc = none ∧ H0 ll = none
  same : Same H0 H
  free : H0 d = none
theorem Dr.less {H0 H : Hp} {d n m : Nat} (h : Dr H0 H d n) (e : m ≤ n) : Dr H0 H d m := by
  obtain ⟨⟨lc, ll, cs, ls, k, h1, h2, h3, h4, h5, h6, h7, h8, h9, h10⟩, s, f⟩ := h
  exact ⟨⟨lc, ll, cs, ls, k, h1, h2, h3, h4, h5, h6, h7, h8, by omega, h10⟩, s, f⟩
theorem Dr.put {H0 H : Hp} {d n : Nat} (h : Dr H0 H d n) {p : Addr} (o : HO) (hp : H p = none ∨ ∃ u, H0 p = some u) : Dr (upd H0 p o) (upd H p o) d n := by
  obtain ⟨⟨lc, ll, cs, ls, k, h1, h2, h3, h4, h5, h6, h7, h8, h9, h10, h11⟩, s, f⟩ := h
  have apart : ∀ {q : Addr} {u : HO}, H q = some u → H0 q = none → q ≠ p := by
    intro q u e e0 z
    subst z
    rcases hp with w1 | ⟨u', w1⟩
    · rw [w1] at e; cases e
    · rw [w1] at e0; cases e0
  have a1 := apart h1 f
  have a2 := apart h2 h10
  have a3 := apart h3 h11
  exact ⟨⟨lc, ll, cs, ls, k, by rw [upd_ne a1]; exact h1, by rw [upd_ne a2]; exact h2, by rw [upd_ne a3]; exact h3, h4, h5, h6, h7, h8, h9, by rw [upd_ne a2]; exact h10, by rw [upd_ne a3]; exact h11⟩, same_both s, by rw [upd_ne a1]; exact f⟩
theorem Dr.new {H0 H : Hp} {d n : Nat} (h : Dr H0 H d n) {p : Addr} (o : HO) (hp : H p = none) : Dr (upd H0 p o) (upd H p o) d n := h.put o (.inl hp)
/-- a new object of which H0 is not told -/
theorem Dr.side {H0 H : Hp} {d n : Nat} (h : Dr H0 H d n) {p : Addr} (o : HO) (hp : H p = none) : Dr H0 (upd H p o) d n := by
  obtain ⟨⟨lc, ll, cs, ls, k, h1, h2, h3, h4⟩, s, f⟩ := h
  exact ⟨⟨lc, ll, cs, ls, k, by rw [upd_ne (ne_of_none h1 hp)]; exact h1, by rw [upd_ne (ne_of_none h2 hp)]; exact h2, by rw [upd_ne (ne_of_none h3 hp)]; exact h3, h4⟩, fun b u e => by rw [upd_ne (ne_of_none (s b u e) hp)]; exact s b u e, f⟩
theorem Dr.base {H0 H1 H : Hp} {d n : Nat} (h : Dr H1 H d n) (s : Same H0 H1) : Dr H0 H d n := by
  obtain ⟨⟨lc, ll, cs, ls, k, h1, h2, h3, h4, h5, h6, h7, h8, h9, h10, h11⟩, s1, f⟩ := h
  exact ⟨⟨lc, ll, cs, ls, k, h1, h2, h3, h4, h5, h6, h7, h8, h9, s.free h10, s.free h11⟩, s.trans s1, s.free f⟩

/-! ### lists of ints by their places -/
theorem ixN_in {n : Nat} {i : Int} (h : 0 ≤ i) (k : i < n) : ixN n i = some i.toNat := by
  unfold ixN
  rw [if_pos h, if_pos k]
theorem at_in {α : Type} {l : List α} {i : Int} (h : 0 ≤ i) (k : i < l.length) : ∃ x, x ∈ l ∧ l[i.toNat]? = some x ∧ atI l i = some x := by
  have lt : i.toNat < l.length := by omega
  refine ⟨l[i.toNat], List.getElem_mem lt, List.getElem?_eq_getElem lt, ?_⟩
  unfold atI
  rw [ixN_in h k]
  exact List.getElem?_eq_getElem lt
theorem at_int {cs : List Int} {i : Int} (h : 0 ≤ i) (k : i < cs.length) : ∃ c, c ∈ cs ∧ atI (cs.map V.int) i = some (.int c) ∧ ixN (cs.map V.int).length i = some i.toNat := by
  obtain ⟨x, m, _, e⟩ := at_in (l := cs.map V.int) h (by rw [List.length_map]; exact k)
  obtain ⟨c, hc, rfl⟩ := List.mem_map.mp m
  exact ⟨c, hc, e, ixN_in h (by rw [List.length_map]; exact k)⟩
theorem set_int {cs : List Int} {j : Nat} {v : Int} : (cs.map V.int).set j (.int v) = (cs.set j v).map V.int := (List.map_set ..).symm
theorem all_set {cs : List Int} {j : Nat} {v : Int} {p : Int → Prop} (h : ∀ c ∈ cs, p c) (hv : p v) : ∀ c ∈ cs.set j v, p c := fun c hc =>
  (List.mem_or_eq_of_mem_set hc).elim (h c) fun e => e ▸ hv
theorem int_of {ns : List Int} {i : Nat} {x : V} (h : (ns.map V.int)[i]? = some x) : ∃ z, x = .int z := by
  rw [List.getElem?_map] at h
  obtain ⟨z, _, e⟩ := Option.map_eq_some_iff.mp h
  exact ⟨z, e.symm⟩

/-! ### data -/
theorem dp_ints {K : PySem.W.Frag} {H : Hp} : ∀ l : List Int, DpAll K H (l.map V.int) (l.map PyData.int)
  | [] => .nil
  | x :: r => .cons (.int x) (dp_ints r)
theorem dp_strs {K : PySem.W.Frag} {H : Hp} : ∀ l : List PySem.Str, DpAll K H (l.map V.str) (l.map PyData.str)
  | [] => .nil
  | x :: r => .cons (.str x) (dp_strs r)
theorem lay_flat : ∀ ds : List PyData, (∀ d ∈ ds, d.canLay0 = true ∧ d.depth = 0) → PyData.canLayAll0 ds = true ∧ PyData.depthAll ds = 0
  | [], _ => ⟨by simp [PyData.canLayAll0], by simp [PyData.depthAll]⟩
  | d :: r, h => by
    obtain ⟨a, b⟩ := h d List.mem_cons_self
    obtain ⟨a2, b2⟩ := lay_flat r fun z hz => h z (List.mem_cons_of_mem _ hz)
    exact ⟨by simp [PyData.canLayAll0, a, a2], by simp [PyData.depthAll, b, b2]⟩
theorem shaped_flat {ds : List PyData} (h : ∀ d ∈ ds, d.canLay0 = true ∧ d.depth = 0) : SeqAt.shaped (.list ds) = true := by
  obtain ⟨a, b⟩ := lay_flat ds h
  simp [SeqAt.shaped, PyData.canLay0, PyData.depth, a, b]
theorem shaped_ints (l : List Int) : SeqAt.shaped (.list (l.map PyData.int)) = true := shaped_flat fun d hd => by
  obtain ⟨i, _, rfl⟩ := List.mem_map.mp hd
  exact ⟨by simp [PyData.canLay0], by simp [PyData.depth]⟩
theorem shaped_nil : SeqAt.shaped (.list []) = true := shaped_flat fun d hd => absurd hd List.not_mem_nil
theorem eqv_nil {ds : List PyData} : PyData.eqv (.list ds) (.list []) = ds.isEmpty := by
  cases ds <;> simp [PyData.eqv, PyData.eqvAll]

/-! ### the promises of what draws -/
def spMixed : Sp := fun vs H Q _ => ∃ cell k : Int, vs = [.int cell, .int k] ∧ 0 ≤ cell ∧ cell < 1099511627776 ∧ 0 ≤ k ∧ k < 4294967296 ∧ ∀ v : Int, 0 ≤ v → v < 2147483648 → Q (.int v) H
def spDraw : Sp := fun vs H Q _ => ∃ (d : Addr) (many : Int) (H0 : Hp) (n : Nat), vs = [.ref d, .int many] ∧ 0 < many ∧ many < 1073741824 ∧ Dr H0 H d (n + 1) ∧ ∀ (v : Int) (H' : Hp), 0 ≤ v → v < many → Dr H0 H' d n → Q (.int v) H'
def spFolded (K : PySem.W.Frag) : Sp := fun vs H Q _ => ∃ (a : Addr) (ns : List Int), vs = [.ref a] ∧ SqL K H a (ns.map V.int) ∧ ns.length ≤ 63 ∧
  ∀ (p : Addr) (cs : List Int) (H' : Hp), H p = none → cs.length = 64 → (∀ c ∈ cs, 0 ≤ c ∧ c < 2147483647) → Same H H' → H' p = some (.lst (cs.map V.int)) → Q (.ref p) H'
def spBegun (K : PySem.W.Frag) : Sp := fun vs H Q _ => ∃ (a : Addr) (ns : List Int), vs = [.ref a] ∧ SqL K H a (ns.map V.int) ∧ ns.length ≤ 63 ∧ ∀ (d : Addr) (H' : Hp), Dr H H' d 1000000 → Q (.ref d) H'
theorem at_last {α : Type} {l : List α} (h : l ≠ []) : ∃ x, x ∈ l ∧ atI l (-1) = some x := by
  have pos : 0 < l.length := List.length_pos_iff.mpr h
  have e : ixN l.length (-1) = some (l.length - 1) := by
    unfold ixN
    rw [if_neg (by decide), if_pos (by omega)]
    congr 1
    omega
  have lt : l.length - 1 < l.length := by omega
  refine ⟨l[l.length - 1], List.getElem_mem lt, ?_⟩
  unfold atI
  rw [e]
  exact List.getElem?_eq_getElem lt
theorem Tx.line2 {n m : Nat} {z y : PySem.Str} (h : Tx n z) (k : Tx m y) (e : n + m ≤ 1000000) : z.length + y.length ≤ sizeLine := by
  have a : z.length = z.cps.toList.length := by show z.cps.size = _; simp
  have b : y.length = y.cps.toList.length := by show y.cps.size = _; simp
  rw [a, b]
  exact Nat.le_trans (Nat.add_le_add h.1 k.1) (Nat.le_trans e (by rw [sizeLine_eq]; decide))
theorem at_str {z : PySem.Str} {n : Nat} (t : Tx n z) {i : Int} (h : 0 ≤ i) (k : i < (z.cps.toList.length : Nat)) : ∃ c, c ∈ z.cps.toList ∧ atI z.cps.toList i = some c ∧ Tx 1 ⟨#[c]⟩ := by
  obtain ⟨c, m, _, e⟩ := at_in h k
  exact ⟨c, m, e, t.one m⟩
theorem Tx.cutTo {n : Nat} {z : PySem.Str} (h : Tx n z) (k : Nat) : Tx k (cutS z none (some (k : Int))) := by
  refine ⟨?_, (h.cut _ _).2⟩
  have e : (cutS z none (some (k : Int))).cps.toList = (z.cps.toList.drop (HT.sIx z.length 0 none)).take (HT.sIx z.length z.length (some (k : Int)) - HT.sIx z.length 0 none) := by
    show (List.toArray _).toList = _
    rw [List.toList_toArray]
  rw [e, List.length_take, HT.sIx_nat, HT.sIx_none]
  omega
/-- a number is drawn, one object more is told of -/
theorem Dr.told {H0 H : Hp} {d n : Nat} {p : Addr} {o : HO} (h : Dr (upd H0 p o) H d n) : H p = some o := h.same _ _ upd_same
theorem Dr.drop {H0 H : Hp} {d n : Nat} {p : Addr} {o : HO} (h : Dr (upd H0 p o) H d n) (f : H0 p = none) : Dr H0 H d n := h.base (same_new f)
def spCalled : Sp := fun vs H Q _ => ∃ (d : Addr) (M : Nat) (H0 : Hp) (n : Nat), vs = [.ref d, .int (M : Int)] ∧ M ≤ 100 ∧ Dr H0 H d (n + 2 + 8 * M) ∧
  ∀ (p : Addr) (zs : List PySem.Str) (H' : Hp), H0 p = none → zs.length = M → (∀ z ∈ zs, Tx 10 z) → Dr (upd H0 p (.lst (zs.map V.str))) H' d n → Q (.ref p) H'
def spSigned : Sp := fun vs H Q _ => ∃ (d : Addr) (bit : PySem.Str) (H0 : Hp) (n : Nat), vs = [.ref d, .str bit] ∧ Tx 1000 bit ∧ Dr H0 H d (n + 3) ∧ ∀ (z : PySem.Str) (H' : Hp), Tx 2001 z → Dr H0 H' d n → Q (.str z) H'
theorem Dr.keep {H0 H H' : Hp} {d n : Nat} (h : Dr H0 H d n) (s : Same H H') : Dr H0 H' d n := by
  obtain ⟨⟨lc, ll, cs, ls, k, h1, h2, h3, h4⟩, sm, f⟩ := h
  exact ⟨⟨lc, ll, cs, ls, k, s _ _ h1, s _ _ h2, s _ _ h3, h4⟩, sm.trans s, f⟩
end Gd

set_option maxRecDepth 100000
set_option maxHeartbeats 2000000
namespace Gd
open PySem PySem.Spec PyProof.Rows L2

/-! ### things of any kind, by their types -/
inductive Od (H : Hp) : V → String → Prop
  | non : Od H .non "NoneType"
  | bl (b : Bool) : Od H (.bl b) "bool"
  | int (i : Int) : Od H (.int i) "int"
  | str {z : PySem.Str} (t : Tx 5000 z) : Od H (.str z) "str"
  | lst {a : Addr} {xs : List V} (e : H a = some (.lst xs)) : Od H (.ref a) "list"
  | tup {a : Addr} {xs : List V} (e : H a = some (.tup xs)) : Od H (.ref a) "tuple"
  | dK {a : Addr} {kvs : List (Key × V)} (e : H a = some (.dK kvs)) : Od H (.ref a) "dict"
section
variable {K : PySem.W.Frag} {H H' : Hp} {x : V} {T : String}
theorem Od.mono (s : Same H H') (o : Od H x T) : Od H' x T := by
  cases o with
  | non => exact .non
  | bl b => exact .bl b
  | int i => exact .int i
  | str t => exact .str t
  | lst e => exact .lst (s _ _ e)
  | tup e => exact .tup (s _ _ e)
  | dK e => exact .dK (s _ _ e)
theorem Od.ty (o : Od H x T) : TyB K H x T := by
  cases o with
  | non => exact .non
  | bl b => exact .bl b
  | int i => exact .int i
  | str t => exact .str _
  | lst e => exact .lst (SqL.of e)
  | tup e => exact .tup (SqT.of e)
  | dK e => exact .dK e
theorem Od.tx (o : Od H x T) : TyX K H x (.type T) := by
  cases o with
  | non => exact .base .non
  | bl b => exact .base (.bl b)
  | int i => exact .base (.int i)
  | str t => exact .base (.str _)
  | lst e => exact .base (.lst e)
  | tup e => exact .base (.tup e)
  | dK e => exact .base (.dK e)
theorem Od.kstr (o : Od H x T) : PySem.W.kitOne K (.type T) (.type "str") = some (decide (T = "str")) := by
  cases o <;> exact kit_ty (by decide +kernel)
theorem Od.kint (o : Od H x T) : PySem.W.kitOne K (.type T) (.type "int") = some (decide (T = "int" ∨ T = "bool")) := by
  cases o <;> exact kit_ty (by decide +kernel)
theorem Od.kbool (o : Od H x T) : PySem.W.kitOne K (.type T) (.type "bool") = some (decide (T = "bool")) := by
  cases o <;> exact kit_ty (by decide +kernel)
theorem Od.is (o : Od H x T) (e : T = "str") : ∃ z, x = .str z ∧ Tx 5000 z := by
  cases o with
  | str t => exact ⟨_, rfl, t⟩
  | non => exact absurd e (by decide)
  | bl b => exact absurd e (by decide)
  | int i => exact absurd e (by decide)
  | lst _ => exact absurd e (by decide)
  | tup _ => exact absurd e (by decide)
  | dK _ => exact absurd e (by decide)
theorem Od.isI (o : Od H x T) (e : T = "int") : ∃ i, x = .int i := by
  cases o with
  | int i => exact ⟨_, rfl⟩
  | str t => exact absurd e (by decide)
  | non => exact absurd e (by decide)
  | bl b => exact absurd e (by decide)
  | lst _ => exact absurd e (by decide)
  | tup _ => exact absurd e (by decide)
  | dK _ => exact absurd e (by decide)
theorem Od.not {z : PySem.Str} (o : Od H x T) (e : T ≠ "str") : x ≠ .str z := by
  intro q
  subst q
  cases o
  exact e rfl
end
theorem iteTy {T S : String} {A B : Prop} (h1 : T ≠ S → A) (h2 : T = S → B) : if (!decide (T = S)) = true then A else B := by
  by_cases e : T = S
  · rw [if_neg (by simp [e])]
    exact h2 e
  · rw [if_pos (by simp [e])]
    exact h1 e
theorem iteIs {T S : String} {A B : Prop} (h1 : T ≠ S → B) (h2 : T = S → A) : if decide (T = S) = true then A else B := by
  by_cases e : T = S
  · rw [if_pos (by simp [e])]
    exact h2 e
  · rw [if_neg (by simp [e])]
    exact h1 e
theorem len_tl (z : PySem.Str) : z.length = z.cps.toList.length := by show z.cps.size = _; simp

/-! ### signs -/
theorem lt_one (c d : Nat) : decide (([c] : List Nat) < [d]) = decide (c < d) := by
  have e : (([c] : List Nat) < [d]) ↔ c < d := by
    rw [List.cons_lt_cons_iff]
    simp
  by_cases h : c < d
  · rw [decide_eq_true h, decide_eq_true (e.mpr h)]
  · rw [decide_eq_false h, decide_eq_false fun q => h (e.mp q)]
theorem le_sign {c d : Nat} {a : PySem.Str} (ea : a.cps.toList = [d]) : (!decide ((⟨#[c]⟩ : PySem.Str).cps.toList < a.cps.toList)) = decide (d ≤ c) := by
  rw [ea, show (⟨#[c]⟩ : PySem.Str).cps.toList = [c] from rfl, lt_one]
  by_cases h : d ≤ c
  · rw [decide_eq_true h, decide_eq_false (by omega)]; rfl
  · rw [decide_eq_false h, decide_eq_true (by omega)]; rfl
theorem ge_sign {c d : Nat} {a : PySem.Str} (ea : a.cps.toList = [d]) : (!decide (a.cps.toList < (⟨#[c]⟩ : PySem.Str).cps.toList)) = decide (c ≤ d) := by
  rw [ea, show (⟨#[c]⟩ : PySem.Str).cps.toList = [c] from rfl, lt_one]
  by_cases h : c ≤ d
  · rw [decide_eq_true h, decide_eq_false (by omega)]; rfl
  · rw [decide_eq_false h, decide_eq_true (by omega)]; rfl
theorem all_take {α : Type} {l : List α} {i : Nat} {c : α} (h : l[i]? = some c) : l.take (i + 1) = l.take i ++ [c] := by
  rw [List.take_add_one, h]
  rfl

/-! ### a comprehension over a text: a truth for each sign; those signs that are to be kept -/
theorem lc_truths {z : PySem.Str} {σ : L2.St} {H : Hp} {te : TE} {j : Nat} {A : Addr} {Qd : Hp → Prop} (n : Tx 5000 z) (f : Nat → Bool) (hA : H A = none)
    (el : ∀ c H' Q, Q (V.bl (f c)) H' → te ((wipe σ [j]).set j (some (.str ⟨#[c]⟩))) H' Q) (same : ∀ c, wipe ((wipe σ [j]).set j (some (.str ⟨#[c]⟩))) [j] = wipe σ [j])
    (fin : ∀ H', Same H H' → H' A = some (.lst ((z.cps.toList.map f).map V.bl)) → Qd H') :
    ∃ W : Nat → Nat → Hp → Prop, (∃ m, W 0 m (upd H A (.lst []))) ∧ ∀ i m H, W i m H → ((Its z).stop i H ∧ Qd H) ∨
      ((Its z).go i H ∧ ∃ Nx : Hp → Prop, (∀ H', Nx H' → ∃ m', m' < m ∧ W (i + 1) m' H') ∧ ∀ v H', (Its z).yld i H v H' → gName j v (wipe σ [j]) H' fun σ2 H2 => wipe σ2 [j] = wipe σ [j] ∧ tYes σ2 H2 fun b H3 =>
        if b = true then te σ2 H3 fun y H4 => ∃ acc, H4 A = some (.lst acc) ∧ acc.length < sizeLine ∧ Nx (upd H4 A (.lst (acc ++ [y]))) else Nx H3) := by
  refine lc_str (fun i H1 => Same H H1 ∧ H1 A = some (.lst (((z.cps.toList.take i).map f).map V.bl))) ⟨same_new hA, by rw [upd_same]; rfl⟩ ?_ ?_
  · rintro i c H1 lt hc ⟨sm, e⟩
    refine ⟨same c, ?_⟩
    refine el c H1 _ ⟨_, e, ?_, same_put sm hA, ?_⟩
    · simp only [List.length_map, List.length_take]
      have := n.1
      have s5 : (5000 : Nat) < sizeLine := by rw [sizeLine_eq]; decide
      omega
    · rw [upd_same, all_take hc]
      simp only [List.map_append, List.map_cons, List.map_nil]
  · rintro H1 ⟨sm, e⟩
    rw [List.take_length] at e
    exact fin H1 sm e
theorem lc_kept {z : PySem.Str} {σ : L2.St} {H : Hp} {tt : TT} {te : TE} {j : Nat} {A : Addr} {Qd : Hp → Prop} (n : Tx 5000 z) (f : Nat → Bool) (hA : H A = none)
    (ts : ∀ c H' Q, Q (f c) H' → tt ((wipe σ [j]).set j (some (.str ⟨#[c]⟩))) H' Q) (el : ∀ c H' Q, Q (V.str ⟨#[c]⟩) H' → te ((wipe σ [j]).set j (some (.str ⟨#[c]⟩))) H' Q) (same : ∀ c, wipe ((wipe σ [j]).set j (some (.str ⟨#[c]⟩))) [j] = wipe σ [j])
    (fin : ∀ H', Same H H' → H' A = some (.lst (((z.cps.toList.filter f).map fun c => (⟨#[c]⟩ : PySem.Str)).map V.str)) → Qd H') :
    ∃ W : Nat → Nat → Hp → Prop, (∃ m, W 0 m (upd H A (.lst []))) ∧ ∀ i m H, W i m H → ((Its z).stop i H ∧ Qd H) ∨
      ((Its z).go i H ∧ ∃ Nx : Hp → Prop, (∀ H', Nx H' → ∃ m', m' < m ∧ W (i + 1) m' H') ∧ ∀ v H', (Its z).yld i H v H' → gName j v (wipe σ [j]) H' fun σ2 H2 => wipe σ2 [j] = wipe σ [j] ∧ tt σ2 H2 fun b H3 =>
        if b = true then te σ2 H3 fun y H4 => ∃ acc, H4 A = some (.lst acc) ∧ acc.length < sizeLine ∧ Nx (upd H4 A (.lst (acc ++ [y]))) else Nx H3) := by
  refine lc_str (fun i H1 => Same H H1 ∧ H1 A = some (.lst ((((z.cps.toList.take i).filter f).map fun c => (⟨#[c]⟩ : PySem.Str)).map V.str))) ⟨same_new hA, by rw [upd_same]; rfl⟩ ?_ ?_
  · rintro i c H1 lt hc ⟨sm, e⟩
    refine ⟨same c, ts c H1 _ ?_⟩
    cases fc : f c with
    | false =>
      refine iteF ⟨sm, ?_⟩
      rw [e, all_take hc, List.filter_append, List.filter_cons, fc]
      simp
    | true =>
      refine iteT (el c H1 _ ⟨_, e, ?_, same_put sm hA, ?_⟩)
      · simp only [List.length_map]
        have := n.1
        have l1 := List.length_filter_le f (z.cps.toList.take i)
        have l2 : (z.cps.toList.take i).length ≤ z.cps.toList.length := by rw [List.length_take]; omega
        have s5 : (5000 : Nat) < sizeLine := by rw [sizeLine_eq]; decide
        omega
      · rw [upd_same, all_take hc, List.filter_append, List.filter_cons, fc]
        simp
  · rintro H1 ⟨sm, e⟩
    rw [List.take_length] at e
    exact fin H1 sm e
theorem strOk_one {c : Nat} (h : c < 1114112) : (PyData.str ⟨#[c]⟩).canLay0 = true := by
  simp [PyData.canLay0, PyData.strOk, h]
/-- signs that are kept, as data -/
theorem shaped_signs {l : List Nat} (h : ∀ c ∈ l, c < 1114112) : SeqAt.shaped (.list ((l.map fun c => (⟨#[c]⟩ : PySem.Str)).map PyData.str)) = true := shaped_flat fun d hd => by
  simp only [List.map_map, List.mem_map, Function.comp_apply] at hd
  obtain ⟨c, hc, rfl⟩ := hd
  exact ⟨strOk_one (h c hc), by simp [PyData.depth]⟩
theorem small1000' {n : Nat} (h : n ≤ 1000000) : n < sizeLine := Nat.lt_of_le_of_lt h (by rw [sizeLine_eq]; decide)
end Gd

set_option maxRecDepth 100000
set_option maxHeartbeats 4000000
namespace Gd
open PySem PySem.Spec PyProof.Rows L2

/-! ### an error that was caught and is kept -/
/-- the error at a, of the class cls, its own dict d -/
def ExK (a : Addr) (cls : Value) (d : Option Addr) : HO := .ext fun h => ∃ (oe : Obj) (vs : Array Value), h.get? a = some oe ∧ oe.cls = cls ∧ oe.dict = d ∧ oe.data = .fields vs
section
variable {X : Cx} {pins : List (Addr × Obj)} {σ : L2.St} {H : Hp} {s : Shared}
/-- what stands pinned is told of from now on -/
theorem hold {a : Addr} {o : HO} (I : Inv X pins σ H s) (na : H a = none) (young : X.s_0.heap.get? a = none) (nl : a ≠ X.env.locals) (nc : ∀ x c, X.env.cells.lookup x = some c → c ≠ a) (np : ∀ p ∈ X.pn ++ pins, p.1 ≠ a)
    (ok : ObjOk X.prog X.w (upd H a o) s.heap a o) : Inv X pins σ (upd H a o) s := by
  have off : ∀ {b : Addr} {u : HO}, H b = some u → b ≠ a := fun e => ne_of_none e na
  have un := I.base
  refine ⟨I.ok, I.os, I.bare, ⟨un.keep, un.slot, fun b ob e n x => ?_, un.there, fun b xs e => ?_, fun b ob u e => ?_, fun b ps e => ?_⟩, I.loc, I.cell, ?_, fun x c e => ?_, fun p hp => ?_, fun b u e => ?_, I.len⟩
  · rw [upd_ne (fun z => by rw [z, young] at e; cases e)]
    exact un.free b ob e n x
  · have g := un.tups b xs e
    rw [upd_ne (off g)]
    exact g
  · have g := un.frzs b ob u e
    rw [upd_ne (off g)]
    exact g
  · obtain ⟨more, g⟩ := un.tbls b ps e
    exact ⟨more, by rw [upd_ne (off g)]; exact g⟩
  · rw [upd_ne nl.symm]
    exact I.free
  · rw [upd_ne (nc x c e)]
    exact I.freeC x c e
  · obtain ⟨g1, g2, g3⟩ := I.pin p hp
    exact ⟨g1, by rw [upd_ne (np p hp)]; exact g2, g3⟩
  · by_cases z : b = a
    · subst z
      rw [upd_same] at e
      cases e
      exact ok
    · rw [upd_ne z] at e
      exact (I.hok b u e).stay (fun _ _ _ q => q) (fun c q => by rw [upd_ne (off q)]; exact q) fun c xs q => by rw [upd_ne (off q)]; exact q
end
/-- what the clause 'except (x1, x2, x3) as n' wishes of an error of the body; behind the suite the error is told of -/
def wKeep (K : PySem.W.Frag) (cs : List Value) (i : Nat) (ts : Addr → Value → Option Addr → TS) (Wout : WX) (D : Ends) : WX := fun cls d σ H =>
  ∃ b, PySem.W.exmAny K cls cs = some b ∧ (b = true → ∀ a, H a = none → ts a cls d { nx := fun σ' H' => D.nx (σ'.set i none) (upd H' a (ExK a cls d)), rt := fun v H' => D.rt v (upd H' a (ExK a cls d)), bk := fun σ' H' => D.bk (σ'.set i none) (upd H' a (ExK a cls d)), ct := fun σ' H' => D.ct (σ'.set i none) (upd H' a (ExK a cls d)) } (σ.set i (some (.ref a))) H) ∧
    (b = false → Wout cls d σ H)
section
variable {X : Cx} {x1 x2 x3 n : PySem.Str} {c1 c2 c3 : Value} {i : Nat} {body suite : List Stmt} {b0 : Stmt} {p1 p2 p3 tp pos pos' : Pos} {kk : Nat} {tb : WX → TS} {ts : Addr → Value → Option Addr → TS} {Wout : WX} {C1 C2 C3 : Addr}
theorem ps_try_keep (hs : X.stack = X.env :: X.outer) (hf : X.env.frame = some X.env.locals) (hN : X.N.Nodup) (hex : X.ex = []) (hi : X.N[i]? = some n) (hln : X.env.kindOf n = some .local)
    (g1 : Gl X x1) (m1 : X.mg x1 = some (.ref C1)) (g2 : Gl X x2) (m2 : X.mg x2 = some (.ref C2)) (g3 : Gl X x3) (m3 : X.mg x3 = some (.ref C3)) (nd1 : (x1 == ("__debug__" : PySem.Str)) = false) (nd2 : (x2 == ("__debug__" : PySem.Str)) = false) (nd3 : (x3 == ("__debug__" : PySem.Str)) = false) (tk : Takes X Wout)
    (hb : ∀ (W : WX) (pn : List (Addr × Obj)) (xe : Value → Shared → Prop), Takes (X.tr pn xe) W → PassesOwn (model X.prog X.w) X.A X.env xe → PSs (X.tr pn xe) body (tb W))
    (hsu : ∀ (a : Addr) (oe : Obj) (cls : Value) (d : Option Addr) (pn : List (Addr × Obj)), Zc cls d oe → (∃ vs, oe.data = .fields vs) → PSs (X.suite a ((a, oe) :: pn)) (b0 :: suite) (ts a cls d)) :
    PS X (.Try body [.ExceptHandler (some (.Tuple [.Name x1 p1, .Name x2 p2, .Name x3 p3] kk tp)) (some n) (b0 :: suite) pos'] [] [] pos) (fun D σ H => tb (wKeep X.K [.ref C1, .ref C2, .ref C3] i ts Wout D) D σ H) := by
  refine ⟨fun pins s σ H D I h => ?_⟩
  have ok := I.ok
  have frames : X.A.frames = some (X.env :: X.outer) := by rw [ok.frames, hs]
  refine wpAny_Try_except (wpAny_mono ((hb (wKeep X.K [.ref C1, .ref C2, .ref C3] i ts Wout D) (X.pn ++ pins) (fun e s₁ => wpAny (model X.prog X.w) X.A (noteFrame e X.env) (fun _ s₂ => wpAny (model X.prog X.w) X.A (setFlight e none) (fun _ s₃ =>
    wpAny (model X.prog X.w) X.A (handleBy e X.env [.ExceptHandler (some (.Tuple [.Name x1 p1, .Name x2 p2, .Name x3 p3] kk tp)) (some n) (b0 :: suite) pos']) (SP X pins D) X.xe s₃) X.xe s₂) X.xe s₁) ?kat PassesOwn.looking).run [] s σ H D (I.toTry _) h) ?thru fun e s1 he => he)
  case thru =>
    intro f s1 q
    match f, q with
    | .next, ⟨σ', H', J, w1⟩ => exact wpAny_execs_nil ⟨σ', H', J.ofTry ok, w1⟩
    | .brk, ⟨σ', H', J, w1⟩ => exact ⟨σ', H', J.ofTry ok, w1⟩
    | .cont, ⟨σ', H', J, w1⟩ => exact ⟨σ', H', J.ofTry ok, w1⟩
    | .ret u, ⟨v, σ', H', J, r, w1⟩ => exact ⟨v, σ', H', J.ofTry ok, r, w1⟩
  case kat =>
    rintro u s' ⟨a, B, sI, pins', σ', H', cls, d, rfl, J', nb, up, sky, na, os, ag, b, hb1, hyes, hno⟩
    have J : Inv X pins σ' H' sI := J'.ofTry ok
    rw [hs] at sky
    show wpAny (model X.prog X.w) X.A (noteFrame (.ref a) X.env) _ _ _
    refine Sky.land Zc.steady frames hf sky fun h3 fl3 up3 => ?_
    have J3 : Inv X pins σ' H' { s' with heap := h3 } := J.landed nb fl3.1 (up.trans up3) os ag
    obtain ⟨oe3, vs3, he3, hz3, hd3⟩ := fl3.there
    have off : a ∉ frs (X.env :: X.outer) := fun m => by
      obtain ⟨_, o', e', no⟩ := fl3.2.2.1.mem m
      rw [he3] at e'
      cases e'
      exact no _ hd3
    have nL : a ≠ X.env.locals := fun z => off (List.mem_filterMap.mpr ⟨X.env, List.mem_cons_self, by rw [hf, z]⟩)
    have nF : a ∉ X.fs := fun m => by
      obtain ⟨e, m1, m2⟩ := List.mem_filterMap.mp m
      exact off (List.mem_filterMap.mpr ⟨e, List.mem_cons_of_mem _ m1, m2⟩)
    -- the error is younger than the frame
    have noB : B.get? a = none := fl3.2.1
    have noI : sI.heap.get? a = none := by
      cases e : sI.heap.get? a with
      | none => rfl
      | some o =>
        have := nb a o e (by rw [hs]; exact off)
        rw [noB] at this
        cases this
    have young : X.s_0.heap.get? a = none := by
      cases e : X.s_0.heap.get? a with
      | none => rfl
      | some o =>
        obtain ⟨o', e'⟩ := J.base.there a o e (by rw [hex]; simp)
        rw [noI] at e'
        cases e'
    have nc : ∀ x c, X.env.cells.lookup x = some c → c ≠ a := fun x c e z => by
      obtain ⟨v, o, e', _⟩ := J.cell x c e
      rw [z, noI] at e'
      cases e'
    have np : ∀ p ∈ X.pn ++ pins, p.1 ≠ a := fun p hp z => by
      have e' := (J.pin p hp).1
      rw [z, noI] at e'
      cases e'
    have S3 := J3.suite he3 hd3 na nL nF
    refine wpAny_handleBy_cons (codeAny_handlers_test ?_) (by intro q; cases q)
    -- the classes
    refine wpAny_Tuple (wpAny_items_cons (ld_glob (X := X.suite a ((a, oe3) :: (X.pn ++ pins))) S3 g1 m1 ?_ nd1))
    refine wpAny_items_cons (ld_glob (X := X.suite a ((a, oe3) :: (X.pn ++ pins))) S3 g2 m2 ?_ nd2)
    refine wpAny_items_cons (ld_glob (X := X.suite a ((a, oe3) :: (X.pn ++ pins))) S3 g3 m3 ?_ nd3)
    refine wpAny_items_nil ⟨by size_fits, ?_⟩
    have kp : ∀ q o, h3.get? q = some o → (h3.push { cls := .type "tuple", data := .seq [Value.ref C1, .ref C2, .ref C3].toArray }).get? q = some o := fun _ _ z => Heap.get?_push_of_some _ z
    have LT : PySem.W.Looks (model X.prog X.w) h3 (typeOf (.ref a)) cls := fun A Q E s k q => wpAny_typeOf_ref (k _ _ he3) (by rw [hz3.1]; exact q)
    have fl5 : HandSPX.FlyingZ B (X.env :: X.outer) a (Zc cls d) (h3.push { cls := .type "tuple", data := .seq [Value.ref C1, .ref C2, .ref C3].toArray }) := by
      obtain ⟨f1, f2, f3, oe, vs, T, oT, ts', q1, q2, q3, q4, q5, q6, q7, q8⟩ := id fl3
      exact ⟨fun b o e => kp b o (f1 b o e), f2, f3.of_keeps fun b o e _ => ⟨o, kp b o e, rfl⟩, oe, vs, T, oT, ts', kp _ _ q1, q2, q3, q4, q5, q6, kp _ _ q7, q8⟩
    have up5 : s'.heap.UpToSlots (h3.push { cls := .type "tuple", data := .seq [Value.ref C1, .ref C2, .ref C3].toArray }) := up3.trans fun b o e _ => ⟨o.slots, kp b _ e⟩
    refine (PySem.W.exm_tup3 ((J3.kIn).keeps kp) (LT.keeps kp) (Heap.get?_push_size h3 rfl) hb1).here ?_
    cases b with
    | true =>
      refine codeAny_handlers_suite_as ?_
      refine HandSPX.lands_againZ fl5 fun h4 fl4 up4 => ?_
      have J4 : Inv X pins σ' H' { s' with heap := h4 } := J.landed nb fl4.1 ((up.trans up5).trans up4) os ag
      obtain ⟨oe4, vs4, he4, hz4, hd4⟩ := fl4.there
      have S4 := J4.suite he4 hd4 na nL nF
      refine store_ok (X := X.suite a ((a, oe4) :: (X.pn ++ pins))) (v := .ref a) S4 hN hi (.inl hln) rfl (fun s5 S5 => ?_) (.inr hln)
      refine wpAny_mono ((hsu a oe4 cls d (X.pn ++ pins) hz4 ⟨_, hd4⟩).run [] s5 _ H' _ S5 (hyes rfl a na)) (fun f s6 hsp => ?_) (fun _ _ z => False.elim z)
      have fin : ∀ {σ6 : L2.St} {H6 : Hp} {Q : Shared → Prop}, Inv (X.suite a ((a, oe4) :: (X.pn ++ pins))) [] σ6 H6 s6 → (∀ s7, Inv X pins (σ6.set i none) (upd H6 a (ExK a cls d)) s7 → Q s7) →
          wpAny (model X.prog X.w) X.A (do bindName X.env n .none; unbindBehindTheSuite X.env n pos') (fun _ s7 => Q s7) X.xe s6 := fun {σ6 H6 Q} S6 hq => by
        have G6 : Inv X ((a, oe4) :: pins) σ6 H6 s6 := ⟨ok, S6.os, S6.bare, S6.base, S6.loc, S6.cell, S6.free, S6.freeC, fun p hp => S6.pin p (by
            have : p ∈ (a, oe4) :: (X.pn ++ pins) := by
              rcases List.mem_append.mp hp with m | m
              · exact List.mem_cons_of_mem _ (List.mem_append_left _ m)
              · rcases List.mem_cons.mp m with rfl | m
                · exact List.mem_cons_self
                · exact List.mem_cons_of_mem _ (List.mem_append_right _ m)
            exact List.mem_append_left _ this), S6.hok, S6.len⟩
        refine gone_ok G6 hN hi hln fun s7 J7 => hq s7 ?_
        have pa := J7.pin (a, oe4) (List.mem_append_right _ List.mem_cons_self)
        have J8 : Inv X pins (σ6.set i none) H6 s7 := ⟨ok, J7.os, J7.bare, J7.base, J7.loc, J7.cell, J7.free, J7.freeC, fun p hp => J7.pin p (by
            rcases List.mem_append.mp hp with m | m
            · exact List.mem_append_left _ m
            · exact List.mem_append_right _ (List.mem_cons_of_mem _ m)), J7.hok, J7.len⟩
        exact hold J8 pa.2.1 young nL nc np ⟨⟨oe4, vs4, pa.1, hz4.1, hz4.2, hd4⟩, ⟨oe4, pa.1⟩, fun h1 h2 ⟨o, vs, e, r⟩ k => ⟨o, vs, k o e, r⟩⟩
      cases f with
      | next =>
        obtain ⟨σ6, H6, S6, q6⟩ := hsp
        exact fin S6 fun s7 J7 => ⟨_, _, J7, q6⟩
      | brk =>
        obtain ⟨σ6, H6, S6, q6⟩ := hsp
        exact fin S6 fun s7 J7 => ⟨_, _, J7, q6⟩
      | cont =>
        obtain ⟨σ6, H6, S6, q6⟩ := hsp
        exact fin S6 fun s7 J7 => ⟨_, _, J7, q6⟩
      | ret u =>
        obtain ⟨v6, σ6, H6, S6, r6, q6⟩ := hsp
        exact fin S6 fun s7 J7 => ⟨_, _, _, J7, r6, q6⟩
    | false =>
      show wpAny _ X.A (handleBy (.ref a) X.env []) _ _ _
      refine wpAny_handleBy_nil ?_
      obtain ⟨k1, k2, k3, oe, vs, T, oT, ts', he, hz, hd, h1, hr⟩ := id fl5
      unfold PySem.passOn
      refine wpAny_bind (wpAny_field he hd h1 ?_)
      rw [if_neg (show ¬ ((Value.ref T == Value.none) = true) from by simp)]
      have out : wpAny (model X.prog X.w) X.A (setFlight (.ref a) X.env.frame) (fun _ s4 => wpAny (model X.prog X.w) X.A (throw (.ref a) : Sem Flow) (SP X pins D) X.xe s4) X.xe { s' with heap := h3.push { cls := .type "tuple", data := .seq [Value.ref C1, .ref C2, .ref C3].toArray } } := by
        rw [hf]
        refine HandSPX.setFlight_upZ fl5 fun h4 hh4 up4 => wpAny_throw (tk _ _ ?_)
        exact ⟨a, B, sI, pins, σ', H', cls, d, rfl, J, nb, (up.trans up5).trans up4, .inr (.inr (by rw [hs]; exact hh4)), na, os, ag, hno rfl⟩
      first
        | exact wpAny_bind (wpAny_pure (wpAny_bind out))
        | exact wpAny_bind out
end
end Gd

set_option maxRecDepth 100000
set_option maxHeartbeats 4000000
namespace Gd
open PySem PySem.Spec PyProof.Rows L2 LamX

/-! ### the law's end: tables of code objects, where no repr is under way -/
variable {P : Program} {w : World} {K : PySem.W.Frag} {mg : PySem.Str → Option Value} {base : Heap}
abbrev tb0 : Obj := { cls := .none, data := .fields #[] }
/-- what is tracked is the script (a list) or a table that is empty as yet -/
structure Light (K : PySem.W.Frag) (H : Hp) (h : Heap) : Prop where
  kinds : ∀ b u o, H b = some u → h.get? b = some o → (∃ vs n, o.data = .seq vs n) ∨ o.data = .fields #[]
  apart : ∀ b u, H b = some u → K.lookup b = none
theorem Light.hid {h : Heap} {H : Hp} (L : Light K H h) {b : Addr} {o : Obj} (e : h.get? b = some o) (n1 : ∀ vs n, o.data ≠ .seq vs n) (n2 : o.data ≠ .fields #[]) : (hidT h H).get? b = some o := hidT_get e (by
  cases q : H b with
  | none => rfl
  | some u =>
    rcases L.kinds b u o q e with ⟨vs, n, z⟩ | z
    · exact (n1 vs n z).elim
    · exact (n2 z).elim)
theorem Light.ns {h : Heap} {H : Hp} (L : Light K H h) {b : Addr} {m : PySem.Str → Option Value} (x : h.Ns b m) : (hidT h H).Ns b m := by
  obtain ⟨o, es, ep, e, d, r⟩ := x
  refine ⟨o, es, ep, L.hid e (fun vs n z => ?_) (fun z => ?_), d, r⟩
  · rw [d] at z; cases z
  · rw [d] at z; cases z
theorem Light.inK {h : Heap} {H : Hp} (L : Light K H h) (KX : K.In h) : K.In (hidT h H) := fun b o e => hidT_get (KX b o e) (by
  cases q : H b with
  | none => rfl
  | some u =>
    rw [L.apart b u q] at e
    cases e)
theorem Light.md {h : Heap} {H : Hp} {mb : PySem.Str → Option Value} (L : Light K H h) (KX : K.In h) (hns : h.Ns mainGlobals mg) (hb : h.Ns builtinsNs mb) (hbb : ∀ x : PySem.Str, x ≠ "__name__" → mb x = bootBuiltins x) (lim : h.NoLimit) : Mod K mg (hidT h H) := by
  obtain ⟨mc, c1, c2⟩ := lim
  exact ⟨L.inK KX, L.ns hns, ⟨mb, L.ns hb, hbb⟩, ⟨mc, L.ns c1, c2⟩⟩
/-- a code object's table, as it is told of where the law begins -/
theorem Light.tab {h : Heap} {H : Hp} {c P : Addr} (L : Light K H h) (C : PySem.W.CodeHd h c P) (hP : h.get? P = some tb0) (hns : h.Ns mainGlobals mg)
    (hbm : ∃ (bm : Addr) (ob : Obj), mg "__builtins__" = some (.ref bm) ∧ bm ≠ builtinsNs ∧ h.get? bm = some ob ∧ ob.cls = .type "module" ∧ ob.dict = some builtinsNs ∧ ob.data = .plain) : TabB (hidT h H) mg c P := by
  have gP : mainGlobals ≠ P := fun z => by
    obtain ⟨o, es, ep, e, d, _⟩ := hns
    rw [z, hP] at e
    cases e
    cases d
  refine ⟨?_, ?_, gP⟩
  · obtain ⟨o, us, file, tf, flags, tg, inF, text, tt, e, r1, r2, r3, r⟩ := C
    refine ⟨o, us, file, tf, flags, tg, inF, text, tt, L.hid e (fun vs n z => ?_) (fun z => ?_), r1, r2, r3, r⟩
    · rw [r2] at z; cases z
    · rw [r2] at z
      cases z
      simp at r3
  · obtain ⟨bm, ob, b1, b2, b3, b4, b5, b6⟩ := hbm
    refine ⟨bm, ob, b1, b2, fun z => ?_, fun z => ?_, L.hid b3 (fun vs n z => ?_) (fun z => ?_), b4, b5, b6⟩
    · obtain ⟨o, es, ep, e, d, _⟩ := hns
      rw [z, e] at b3
      cases b3
      rw [d] at b6; cases b6
    · rw [z, hP] at b3
      cases b3
      cases b6
    · rw [b6] at z; cases z
    · rw [b6] at z; cases z

theorem run_scriptT {mb : PySem.Str → Option Value} {k : Nat} {fa a : Addr} {fd : FuncData} {x : PySem.Str} {sp : Sp} {s : Shared} {H : Hp} {cs : List (Addr × Addr)}
    (KX : K.In s.heap) (hns : s.heap.Ns mainGlobals mg) (hb : s.heap.Ns builtinsNs mb) (hbb : ∀ x : PySem.Str, x ≠ "__name__" → mb x = bootBuiltins x) (lim : s.heap.NoLimit) (nog : s.gens = #[])
    (hbm : ∃ (bm : Addr) (ob : Obj), mg "__builtins__" = some (.ref bm) ∧ bm ≠ builtinsNs ∧ s.heap.get? bm = some ob ∧ ob.cls = .type "module" ∧ ob.dict = some builtinsNs ∧ ob.data = .plain)
    (tabs : ∀ p ∈ cs, PySem.W.CodeHd s.heap p.1 p.2 ∧ s.heap.get? p.2 = some tb0) (room : Room k callerA)
    (G : ∀ base : Heap, K.In base → base.Ns mainGlobals mg → (∀ p ∈ cs, TabB base mg p.1 p.2) → FnG P w K mg base k fa fd [x] sp) (bind : ∀ (s : Shared) (u : Value), BindsTo s fd ⟨[u], []⟩ [(x, u)])
    (L : Light K H s.heap) (ok : HOk P w H s.heap) (kind : ∀ b u, H b = some u → (∃ o v, u = .frz o v) ∨ (u = .tbl #[] ∧ ∃ p ∈ cs, p.2 = b))
    (pr : sp [.ref a] H (fun v _ => v = .bl true) fun _ _ _ => False) :
    codeAny (model P w) callerA (.call (.ref fa) ⟨[.ref a], []⟩) (fun r s' => r = .ok (.ret (.bool true)) ∧ OldK s.heap s'.heap ∧ s'.os = s.os ∧ AllBare s'.gens) s := by
  have none_in : ∀ b : Addr, b ∈ frs ([] : List Env) → False := fun b z => by cases z
  have env0 : Env0 P w K mg (hidT s.heap H) callerA [] s H :=
    { frames := rfl, mod := L.md KX hns hb hbb lim, bs := fun b o q => of_hidT q, bsz := Nat.le_of_eq (hidT_size _ _), funs := trivial, frf := fun b z => (none_in b z).elim, hok := ok, bare := .of_eq nog }
  refine codeAny_mono ((G _ (L.inK KX) (L.ns hns) fun p hp => L.tab (tabs p hp).1 (tabs p hp).2 hns hbm).runs (us := [.ref a]) (vs := [.ref a]) rfl room env0 (bind s (.ref a)) (.cons rfl .nil) pr) ?_
  intro r s' out
  obtain ⟨u, rfl, v, H', os, bare, un, ok', rel, q⟩ := cr_out out
  subst q
  obtain rfl : u = Value.bool true := rel
  refine ⟨rfl, ⟨fun b o old => ?_, fun b o old => un.there b o old (fun z => by cases z)⟩, os, bare⟩
  cases q : H b with
  | none => exact .inl (un.keep b o old q (fun z => none_in b z) (fun z => by cases z))
  | some ho =>
    rcases kind b ho q with ⟨ob, v', rfl⟩ | ⟨rfl, p, hp, rfl⟩
    · have e1 := (ok b _ q).1
      have e2 := (ok' b _ (un.frzs b ob _ q)).1
      rw [old] at e1
      cases e1
      exact .inl e2
    · obtain ⟨more, z⟩ := un.tbls p.2 #[] q
      obtain ⟨C, hP⟩ := tabs p hp
      have e2 : s'.heap.get? p.2 = some { cls := .none, data := .fields (#[] ++ more) } := ok' p.2 _ z
      rw [hP] at old
      cases old
      refine .inr (.inl ⟨(C.tab hP).isCodeTable, rfl, #[], more, rfl, ?_⟩)
      rw [e2]

/-- a def's code object and the table in it, from what is written out -/
theorem tab_by {x : PySem.Str} {f c P : Addr} {oc oc2 : Value} {od od2 : Option Addr} {fd : FuncData} {sl sl2 : Array (Option Value)} {vs : Array Value} (g : PySem.W.nsIn K mainGlobals x = some (some (.ref f))) (lf : K.lookup f = some ⟨oc, od, .func fd, sl⟩) (e : fd.code = .ref c)
    (lc : K.lookup c = some ⟨oc2, od2, .fields vs, sl2⟩) (ep : (vs[11]? : Option Value) = some (.ref P)) : PySem.W.tabIn K x = some (c, P) := by
  unfold PySem.W.tabIn
  simp only [g, lf, e, lc, ep]
theorem code_by {x : PySem.Str} {f c P : Addr} {oc : Value} {od : Option Addr} {fd : FuncData} {sl : Array (Option Value)} (g : PySem.W.nsIn K mainGlobals x = some (some (.ref f))) (tb : PySem.W.tabIn K x = some (c, P)) (lf : K.lookup f = some ⟨oc, od, .func fd, sl⟩) : fd.code = .ref c := by
  unfold PySem.W.tabIn at tb
  simp only [g, lf] at tb
  split at tb
  · rename_i c2 hc
    split at tb
    · split at tb
      · cases tb
        exact hc
      · cases tb
    · cases tb
  · cases tb
/-- a def that makes lambdas, from its body, where no repr is under way: its code object's place is known -/
theorem fn_okL {x : PySem.Str} {st : Stmt} {f c P1 : Addr} {fd : FuncData} {N ps : List PySem.Str} {k : Nat} {sp : Sp} (F : Fun K x x st f fd) (g : PySem.W.nsIn K mainGlobals x = some (some (.ref f))) (tb : PySem.W.tabIn K x = some (c, P1)) (S : FnScope N ps (defScope st)) (len : ∀ vs H Q E, sp vs H Q E → vs.length = ps.length)
    (hbody : ∀ (A : Around) (out : List Env) (s : Shared) (H : Hp) (vs : List V) (Q : VK) (E : XK), A.guards = some [] → Room k (A.deeper (envOfC x (defScope st) s.heap.objs.size f (.ref c))) → sp vs H Q E →
      ∃ t, PSs (cxOf CX0 P w K mg base N x (defScope st) f (.ref c) A out s H E).nox (defBody st) t ∧ t { nx := fun _ H' => Q .non H', rt := Q } (start N vs) H) : FnG P w K mg base (k + 1) f fd ps sp := by
  refine fn_okC F S len fun cdv A out s H vs Q E lk hA hr pr => ?_
  obtain ⟨oc, od, kV, doc, pm, an, ct, osl, lk⟩ := lk
  obtain rfl : cdv = .ref c := code_by g tb lk
  exact hbody A out s H vs Q E hA hr pr

/-- what k_head leaves, from the promise of the law's def; cs: the code objects that make lambdas, and their tables -/
theorem walkGT {l : PySem.W.OpenLaw} {n k : Nat} {q : Program} {loose : List PySem.Str} {XP : (PySem.Str → Option Value) → Heap → Prop} {YP : World → Heap → Prop} {d : DefRec} {KK : Params → PySem.W.Frag} {x : PySem.Str}
    (hn : l.most = some n) (hn2 : n ≤ sizeLine) (nod : d.params.defaults = []) (room : Room k callerA) (hY : ∀ (w : World) (h : Heap), YP w h → (KK w.params).In h)
    (G : ∀ (w : World) (mg : PySem.Str → Option Value) (fa : Addr) (h : Heap), (KK w.params).In h → h.Ns mainGlobals mg → mg d.name = some (.ref fa) →
      ∃ (fd : FuncData) (sp : Sp) (cs : List (Addr × Addr)), (∀ p ∈ cs, ∃ (y : PySem.Str) (e : DefRec), (PyProof.Rows.recsOf q).find? (fun e => e.name == y) = some e ∧ PySem.W.tabIn (KK w.params) y = some p) ∧ (∀ p ∈ cs, (KK w.params).lookup p.2 = none) ∧
        (∀ (s : Shared) (u : Value), BindsTo s fd ⟨[u], []⟩ [(x, u)]) ∧ (∀ base : Heap, (KK w.params).In base → base.Ns mainGlobals mg → (∀ p ∈ cs, TabB base mg p.1 p.2) → FnG l.prog w (KK w.params) mg base k fa fd [x] sp) ∧
        ∀ (H : Hp) (a : Addr) (ns : List Int), ns.length ≤ n → SqL (KK w.params) H a (ns.map V.int) → (∀ p ∈ cs, H p.2 = some (.tbl #[])) → (∀ b, b ≠ a → (∀ p ∈ cs, p.2 ≠ b) → H b = none) → sp [.ref a] H (fun v _ => v = .bl true) fun _ _ _ => False) :
    PySem.W.WalkO q loose XP YP l.row.toRowW d [] (fun f vs => PySem.call f vs) := by
  refine Att.attach_call hn nod ?_
  intro w s0 s1 mg mb fa o pm cd doc a vs ns T Y _ _ _ at_ obj intsA len nog
  have KX := hY w _ Y
  obtain ⟨fd, sp, cs, hcs, nT, bind, F, pr⟩ := G w mg fa _ KX T.T.g at_
  have tabs : ∀ p ∈ cs, PySem.W.CodeHd s1.heap p.1 p.2 ∧ s1.heap.get? p.2 = some tb0 := fun p hp => by
    obtain ⟨y, e, h1, h2⟩ := hcs p hp
    exact PySem.W.tab_of T.T KX h1 h2
  have size : (ns.map V.int).length ≤ sizeLine := by
    rw [List.length_map]
    exact Nat.le_trans len hn2
  have na : ∀ p ∈ cs, p.2 ≠ a := fun p hp z => by
    have e := (tabs p hp).2
    rw [z, obj] at e
    cases e
  let isT : Addr → Prop := fun b => ∃ p ∈ cs, p.2 = b
  have dT : ∀ b, Decidable (isT b) := fun b => Classical.propDecidable _
  cases z : (KK w.params).lookup a with
  | none =>
    let H : Hp := fun b => if b = a then some (.frz { cls := .type "list", data := .seq vs.toArray } (.lst (ns.map V.int))) else if isT b then some (.tbl #[]) else none
    have at1 : H a = some (HO.frz { cls := .type "list", data := .seq vs.toArray } (.lst (ns.map V.int))) := if_pos rfl
    have atT : ∀ p ∈ cs, H p.2 = some (.tbl #[]) := fun p hp => (if_neg (na p hp)).trans (if_pos ⟨p, hp, rfl⟩)
    have off : ∀ b, b ≠ a → ¬ isT b → H b = none := fun b n1 n2 => (if_neg n1).trans (if_neg n2)
    have split : ∀ b u, H b = some u → (b = a ∧ u = HO.frz { cls := .type "list", data := .seq vs.toArray } (.lst (ns.map V.int))) ∨ (isT b ∧ u = .tbl #[]) := fun b u e => by
      by_cases n1 : b = a
      · subst n1
        rw [at1] at e
        cases e
        exact .inl ⟨rfl, rfl⟩
      · by_cases n2 : isT b
        · have e2 : H b = some (.tbl #[]) := (if_neg n1).trans (if_pos n2)
          rw [e2] at e
          cases e
          exact .inr ⟨n2, rfl⟩
        · rw [off b n1 n2] at e
          cases e
    refine run_scriptT (H := H) (cs := cs) KX T.T.g T.T.b T.T.builtins T.T.nolimit nog T.T.bmain tabs room F bind ⟨fun b u o e ho => ?_, fun b u e => ?_⟩ ?_ ?_ ?_
    · rcases split b u e with ⟨rfl, _⟩ | ⟨⟨p, hp, rfl⟩, _⟩
      · rw [obj] at ho
        cases ho
        exact .inl ⟨_, _, rfl⟩
      · rw [(tabs p hp).2] at ho
        cases ho
        exact .inr rfl
    · rcases split b u e with ⟨rfl, _⟩ | ⟨⟨p, hp, rfl⟩, _⟩
      · exact z
      · exact nT p hp
    · intro b u e
      rcases split b u e with ⟨rfl, rfl⟩ | ⟨⟨p, hp, rfl⟩, rfl⟩
      · exact ⟨obj, size, vs, _, vals_ints intsA, obj⟩
      · exact (tabs p hp).2
    · intro b u e
      rcases split b u e with ⟨rfl, rfl⟩ | ⟨⟨p, hp, rfl⟩, rfl⟩
      · exact .inl ⟨_, _, rfl⟩
      · exact .inr ⟨rfl, p, hp, rfl⟩
    · exact pr H a ns len (.inl (.inr ⟨_, at1⟩)) atT fun b n1 n2 => off b n1 fun ⟨p, hp, e⟩ => n2 p hp e
  | some ob =>
    have e := KX a ob z
    rw [obj] at e
    cases e
    let H : Hp := fun b => if isT b then some (.tbl #[]) else none
    have atT : ∀ p ∈ cs, H p.2 = some (.tbl #[]) := fun p hp => if_pos ⟨p, hp, rfl⟩
    have split : ∀ b u, H b = some u → isT b ∧ u = .tbl #[] := fun b u e => by
      by_cases n2 : isT b
      · have e2 : H b = some (.tbl #[]) := if_pos n2
        rw [e2] at e
        cases e
        exact ⟨n2, rfl⟩
      · have e2 : H b = none := if_neg n2
        rw [e2] at e
        cases e
    refine run_scriptT (H := H) (cs := cs) KX T.T.g T.T.b T.T.builtins T.T.nolimit nog T.T.bmain tabs room F bind ⟨fun b u o e ho => ?_, fun b u e => ?_⟩ ?_ ?_ ?_
    · obtain ⟨⟨p, hp, rfl⟩, _⟩ := split b u e
      rw [(tabs p hp).2] at ho
      cases ho
      exact .inr rfl
    · obtain ⟨⟨p, hp, rfl⟩, _⟩ := split b u e
      exact nT p hp
    · intro b u e
      obtain ⟨⟨p, hp, rfl⟩, rfl⟩ := split b u e
      exact (tabs p hp).2
    · intro b u e
      obtain ⟨⟨p, hp, rfl⟩, rfl⟩ := split b u e
      exact .inr ⟨rfl, p, hp, rfl⟩
    · refine pr H a ns len (.inr ⟨_, vs.toArray, _, z, rfl, rfl, rfl, ?_, by simpa using vals_ints intsA⟩) atT fun b n1 n2 => if_neg fun ⟨p, hp, e⟩ => n2 p hp e
      rw [List.size_toArray, intsA.length]
      rw [List.length_map] at size
      exact size
end Gd

set_option maxRecDepth 100000
set_option maxHeartbeats 4000000
namespace Gd
open PySem PySem.Spec PyProof.Rows L2

/-! ### errors that were kept: whose class, which field -/
/-- what the written part says of an error class at C, so that its errors may be asked -/
structure ErC (K : PySem.W.Frag) (C : Addr) : Prop where
  here : (PySem.W.clsIn K C).isSome = true
  ga : PySem.W.findIn K (.ref C) "__getattribute__" = some (some (.builtin "BaseException.__getattribute__"))
  gg : PySem.W.findIn K (.ref C) "__getattr__" = some none
  ex : PySem.W.subIn K (.ref C) (.type "BaseException") = some true
  dict : PySem.W.hasDictIn K C = true
  cl : PySem.W.findIn K (.ref C) "__class__" = some (some (.builtin "object.__class__"))
  get : PySem.W.specialIn K (.builtin "object.__class__") "__get__" = some (some (.builtin "getset_descriptor.__get__"))
  tk : PySem.W.takesIn K (.builtin "object.__class__") = some true
  ob : PySem.W.mroIn K C (.type "object") = some true
/-- at a: an error of the class C, kept; its own names fs -/
def Err (H : Hp) (a C : Addr) (fs : List (PySem.Str × V)) : Prop := ∃ d, H a = some (ExK a (.ref C) (some d)) ∧ H d = some (.xd fs)
section
variable {X : Cx} {pins : List (Addr × Obj)} {σ : L2.St} {H : Hp} {s : Shared}
theorem Err.stands {a C : Addr} {fs : List (PySem.Str × V)} (I : Inv X pins σ H s) (e : Err H a C fs) :
    ∃ (ox od : Obj) (mA : PySem.Str → Option Value), PySem.W.InstAt s.heap a ox C (some od) ∧ (∀ n, PySem.W.lookIn n od = some (mA n)) ∧ ∀ f, RelO (fs.lookup f) (mA f) := by
  obtain ⟨d, ea, ed⟩ := e
  obtain ⟨⟨ox, vs, g, c1, c2, c3⟩, _, _⟩ := (show ObjOk X.prog X.w H s.heap a (ExK a (.ref C) (some d)) from I.hok a _ ea)
  obtain ⟨mA, hns, hr⟩ := (show ObjOk X.prog X.w H s.heap d (.xd fs) from I.hok d _ ed)
  obtain ⟨od, ho, hl⟩ := lookIn_ns hns
  exact ⟨ox, od, mA, ⟨g, c1, by unfold PySem.W.notCls; rw [c3], by rw [c2]; exact ho⟩, hl, hr⟩
/-- e.f of a kept error -/
def tErF (K : PySem.W.Frag) (f : PySem.Str) (te : TE) : TE := fun σ H Q => te σ H fun x H1 => ∃ (a C : Addr) (fs : List (PySem.Str × V)) (v : V), x = .ref a ∧ Err H1 a C fs ∧ ErC K C ∧ PySem.W.findIn K (.ref C) f = some none ∧ fs.lookup f = some v ∧ Q v H1
theorem pe_erf {e : Expr} {te : TE} {pos : Pos} {f : PySem.Str} (he : PE X e te) (hb : attributeBase e f X.env (eval e X.env) = eval e X.env := by rfl) : PE X (.Attribute e f pos) (tErF X.K f te) := by
  refine ⟨fun pins s σ H Q I h => attr_of hb (thn (he.run pins s σ H _ I h) fun u s1 hh => ?_)⟩
  obtain ⟨x, H1, I1, rx, a, C, fs, v, rfl, er, T, no, l, q⟩ := hh
  obtain rfl : u = Value.ref a := rx
  obtain ⟨ox, od, mA, J, hl, hr⟩ := er.stands I1
  obtain ⟨u, hu, ru⟩ := RelO.some_of (v := v) (o := mA f) (by rw [← l]; exact hr f)
  exact HandSPX.exc_get I1.kIn J T.ga T.gg T.ex (PySem.W.findObj_own T.dict no rfl (by rw [hl, hu])) (handed_of ru) ⟨v, H1, I1.tok _, ru, q⟩
/-- isinstance(e, c), e a kept error -/
def rIsK (K : PySem.W.Frag) : List V → Hp → VK → Prop := fun xs H Q => ∃ (a C : Addr) (fs : List (PySem.Str × V)) (c : V) (cv : Value) (b : Bool), xs = [.ref a, c] ∧ (∀ u, RelV c u → u = cv) ∧ Err H a C fs ∧ ErC K C ∧ PySem.W.kitOne K (.ref C) cv = some b ∧ Q (.bl b) H
theorem call_isK : CallR X (.builtin "isinstance") (rIsK X.K) := by
  intro pins s σ H xs us Q I r h
  obtain ⟨a, C, fs, c, cv, b, rfl, hc, er, T, e, q⟩ := h
  obtain ⟨u1, u2, rfl, r1, r2⟩ := vals2 r
  obtain rfl : u1 = Value.ref a := r1
  obtain rfl := hc _ r2
  obtain ⟨ox, od, mA, J, _, _⟩ := er.stands I
  exact PySem.W.kia_one (PySem.W.kitx_exc (ox := ox) (od := some od) T.here T.ga T.gg T.ex T.cl T.get T.tk T.ob) I.kIn J e (fun z => nomatch z) fun tk => ⟨.bl b, H, I.tok tk, rfl, q⟩
end
theorem Err.same {H H1 : Hp} {a C : Addr} {fs : List (PySem.Str × V)} (e : Err H a C fs) (h : Same H H1) : Err H1 a C fs := by
  obtain ⟨d, e1, e2⟩ := e
  exact ⟨d, h _ _ e1, h _ _ e2⟩
theorem Err.not_none {a C : Addr} {H : Hp} {fs : List (PySem.Str × V)} (e : Err H a C fs) : H a ≠ none := by
  obtain ⟨d, e1, _⟩ := e
  rw [e1]
  exact fun z => by cases z
end Gd

set_option maxRecDepth 100000
set_option maxHeartbeats 4000000
namespace Gd
open PySem PySem.Spec PyProof.Rows L2

/-! ### a dict of the module, its keys texts: d.get(k) -/
inductive WrE (prm : Params) : List (PySem.Str × V) → List DictEntry → Prop where
  | nil : WrE prm [] []
  | cons {x : PySem.Str} {v : V} {t : Tok} {u : Value} {l : List (PySem.Str × V)} {es : List DictEntry} (r : RelV v u) (rest : WrE prm l es) : WrE prm ((x, v) :: l) (⟨PyData.keyHash prm x, .str x t, u⟩ :: es)
theorem WrE.keys {prm : Params} : ∀ {l : List (PySem.Str × V)} {es : List DictEntry}, WrE prm l es → PySem.W.KeysLit prm es
  | _, _, .nil => trivial
  | _, _, .cons r rest => ⟨⟨_, _, rfl, rfl⟩, rest.keys⟩
theorem WrE.find {prm : Params} {z : PySem.Str} : ∀ {l : List (PySem.Str × V)} {es : List DictEntry}, WrE prm l es → RelO (l.lookup z) ((es.find? fun e => Value.isStrOf z e.key).map (·.val))
  | _, _, .nil => trivial
  | _, _, .cons (x := x) (v := v) (t := t) (u := u) (l := l) (es := es) r rest => by
    have ih := rest.find (z := z)
    have e1 : Value.isStrOf z (.str x t) = (x == z) := rfl
    rw [lookup_put x z v l, List.find?_cons, e1]
    by_cases h : z = x
    · subst h
      rw [if_pos rfl, show (z == z) = true from by simp]
      exact r
    · rw [if_neg h, show (x == z) = false from by simpa using fun q => h q.symm]
      exact ih
def WrD (K : PySem.W.Frag) (prm : Params) (a : Addr) (l : List (PySem.Str × V)) : Prop := ∃ es n, K.lookup a = some ⟨.type "dict", none, .dict es n, #[]⟩ ∧ (a == sysModules) = false ∧ WrE prm l es.toList
def tWGet (K : PySem.W.Frag) (w : World) (td ty : TE) : TE := fun σ H Q => td σ H fun x H1 => ∃ (a : Addr) (l : List (PySem.Str × V)), x = .ref a ∧ WrD K w.params a l ∧ ty σ H1 fun y H2 => ∃ z, y = .str z ∧ Q ((l.lookup z).getD .non) H2
section
variable {X : Cx} {o e : Expr} {apos cpos : Pos} {td ty : TE}
theorem pe_wget (ho : PE X o td) (he : PE X e ty) (m : M1 X o "get" apos e cpos) : PE X (.Call (.Attribute o "get" apos) [e] [] cpos) (tWGet X.K X.w td ty) := by
  refine ⟨fun pins s σ H Q I h => ?_⟩
  refine wpAny_Call_method m.base m.few m.line PySem.F.plainAttrs_dict PySem.F.slot_dict_get PySem.F.type_dict_get (thn (ho.run pins s σ H _ I h) fun u s1 ⟨x, H1, I1, rx, a, l, ex, ⟨es, n, lk, low, we⟩, q1⟩ => ?_)
  subst ex
  obtain rfl : u = Value.ref a := rx
  have there := I1.kIn _ _ lk
  have mp := PySem.W.mapOf_K (prog := X.prog) (w := X.w) I1.kIn lk we.keys
  refine ⟨mp.typeIs, fun b z => ?_, ?_⟩
  · cases z
    exact ⟨_, there, rfl⟩
  rw [m.trees]
  refine Calls.callWith_builtin rfl (Calls.evalArgs_plain (Calls.spliced_cons (thn (he.run pins s1 σ H1 _ I1 q1) fun iv s2 ⟨y, H2, I2, ry, z, ey, q2⟩ => Calls.spliced_nil ?_)))
  subst ey
  obtain ⟨t, rfl⟩ := (show ∃ t, iv = Value.str z t from ry)
  have mp2 := PySem.W.mapOf_K (prog := X.prog) (w := X.w) I2.kIn lk we.keys
  refine call_meetsIn PySem.F.slot_dict_get mp2.typeIs PySem.F.entry_dict_get (PySem.F.args_dict_get_2 _ _) (meets_dict_get (strKind X.prog X.w) a (strKind_is X.prog X.w z t) low) ⟨_, mp2, ?_⟩
  refine ⟨_, H2, I2.tok _, ?_, q2⟩
  have rel := we.find (z := z)
  have same : findBy Value.isStrOf es z = (es.toList.find? fun e => Value.isStrOf z e.key).map (·.val) := by
    unfold findBy
    rw [← Array.find?_toList]
  show RelV ((l.lookup z).getD .non) ((findBy Value.isStrOf es z).getD .none)
  rw [same]
  cases e1 : l.lookup z with
  | none =>
    rw [e1] at rel
    cases e2 : (es.toList.find? fun e => Value.isStrOf z e.key).map (·.val) with
    | none => rfl
    | some u =>
      rw [e2] at rel
      exact rel.elim
  | some v =>
    rw [e1] at rel
    cases e2 : (es.toList.find? fun e => Value.isStrOf z e.key).map (·.val) with
    | none =>
      rw [e2] at rel
      exact rel.elim
    | some u =>
      rw [e2] at rel
      exact rel
end
end Gd

set_option maxRecDepth 100000
set_option maxHeartbeats 4000000
namespace Gd
open PySem PySem.Spec PyProof.Rows L2

/-! ### type(x) in (t, ..) -/
/-- a class whose own class is type -/
def OfTy (T : String) : Prop := ∀ s' : Shared, s'.TypeIs (.type T) "type"
theorem eqAt_ty {A : Around} {s : Shared} {a b : String} (ha : OfTy a) (hb : OfTy b) : SeqAt.EqAt A s (.type a) (.type b) (decide (a = b)) := fun prog w E Q h => by
  unfold eqBool
  refine wpAny_holding ?_
  by_cases e : a = b
  · subst e
    rw [decide_eq_true rfl] at h
    rw [if_pos (by simp)]
    exact wpAny_bind (wpAny_rule (wpAny_pure h))
  · rw [decide_eq_false e] at h
    have ne : (Value.type a == Value.type b) = false := beq_eq_false_iff_ne.mpr fun z => e (Value.type.inj z)
    rw [if_neg (by rw [ne]; decide)]
    exact wpAny_bind (TypeEq.eq_type_other (Q := fun v s1 => wpAny (model prog w) A (truthOfDropped v) Q E s1) ha hb ne (wpAny_truthy_bool h))
def tyIs (T : String) : Value → Bool
  | .type n => decide (n = T)
  | _ => false
def rInT (K : PySem.W.Frag) (neg : Bool) : R2 := fun x y H Q => ∃ (T : String) (p : Addr) (ts : List String), x = .ty T ∧ y = .ref p ∧ SqT K H p (ts.map V.ty) ∧ OfTy T ∧ (∀ t ∈ ts, OfTy t) ∧ Q (.bl (if neg then !decide (T ∈ ts) else decide (T ∈ ts))) H
theorem vals_tys : ∀ {ts : List String} {us : List Value}, Vals (ts.map V.ty) us → us = ts.map Value.type
  | [], _, .nil => rfl
  | t :: ts, _, .cons r rest => by
    cases r
    rw [vals_tys rest]
    rfl
theorem any_tyIs {T : String} : ∀ ts : List String, (ts.map Value.type).any (tyIs T) = decide (T ∈ ts)
  | [] => rfl
  | t :: ts => by
    rw [List.map_cons, List.any_cons, any_tyIs ts]
    show (decide (t = T) || decide (T ∈ ts)) = _
    by_cases e : t = T
    · subst e
      simp
    · have e' : T ≠ t := fun z => e z.symm
      simp [e, e']
section
variable {X : Cx}
theorem seq_types {pins : List (Addr × Obj)} {σ : L2.St} {H : Hp} {s : Shared} {T : String} {p : Addr} {ts : List String} (I : Inv X pins σ H s) (hq : SqT X.K H p (ts.map V.ty)) (hT : OfTy T) (ht : ∀ t ∈ ts, OfTy t) :
    ∃ its : List Value, s.heap.IsTuple p its.toArray ∧ (∀ A, ∀ y ∈ its.toArray, SeqAt.EqAt A s y (.type T) (tyIs T y)) ∧ its.toArray.any (tyIs T) = decide (T ∈ ts) := by
  obtain ⟨its, r, pl, hz⟩ := I.tuple hq
  have e := vals_tys r
  refine ⟨its, pl, fun A w hw => ?_, ?_⟩
  · have hw' : w ∈ ts.map Value.type := by
      rw [← e]
      simpa using hw
    obtain ⟨t, m, rfl⟩ := List.mem_map.mp hw'
    exact eqAt_ty (ht t m) hT
  · rw [show its.toArray.any (tyIs T) = its.any (tyIs T) from by simp, e, any_tyIs]
theorem op_in_ty : OpR X (compareOp .In) (rInT X.K false) := by
  intro pins s σ H x y v u Q I rx ry h
  obtain ⟨T, p, ts, rfl, rfl, hq, hT, ht, q⟩ := h
  cases (show v = Value.type T from rx)
  cases (show u = Value.ref p from ry)
  obtain ⟨its, pl, at_, an⟩ := seq_types I hq hT ht
  exact SeqAt.in_tupleAt (tyIs T) pl (at_ _) ⟨.bl _, H, I, rfl, by rw [an]; exact q⟩
theorem op_notIn_ty : OpR X (compareOp .NotIn) (rInT X.K true) := by
  intro pins s σ H x y v u Q I rx ry h
  obtain ⟨T, p, ts, rfl, rfl, hq, hT, ht, q⟩ := h
  cases (show v = Value.type T from rx)
  cases (show u = Value.ref p from ry)
  obtain ⟨its, pl, at_, an⟩ := seq_types I hq hT ht
  exact SeqAt.notIn_tupleAt (tyIs T) pl (at_ _) ⟨.bl _, H, I, rfl, by rw [an]; exact q⟩
end
end Gd

set_option maxRecDepth 100000
set_option maxHeartbeats 4000000
namespace Gd
open PySem PySem.Spec PyProof.Rows L2

theorem Od.ktup {K : PySem.W.Frag} {H : Hp} {x : V} {T : String} (o : Od H x T) : PySem.W.kitOne K (.type T) (.type "tuple") = some (decide (T = "tuple")) := by
  cases o <;> exact kit_ty (by decide +kernel)
theorem Od.klst {K : PySem.W.Frag} {H : Hp} {x : V} {T : String} (o : Od H x T) : PySem.W.kitOne K (.type T) (.type "list") = some (decide (T = "list")) := by
  cases o <;> exact kit_ty (by decide +kernel)
/-- the statements of a class -/
def inCls : Stmt → List Stmt
  | .ClassDef (body := b) .. => b
  | _ => []

/-! ### len(o), o of an own class with a __len__ -/
section
variable {X : Cx} {k : Nat} {f : Addr} {fd : FuncData} {sp : Sp}
def rLenO (K : PySem.W.Frag) (f : Addr) (sp : Sp) : List V → Hp → VK → Prop := fun xs H Q => ∃ (a C dx : Addr) (fs : List (PySem.Str × V)), xs = [.ref a] ∧ H a = some (.ins C dx fs) ∧ PySem.W.findIn K (.ref C) "__len__" = some (some (.ref f)) ∧ PySem.W.typeIn K (.ref f) = some (.type "function") ∧
  sp [.ref a] H (fun v H1 => ∃ n : Nat, v = .int n ∧ n ≤ sizeLine ∧ Q (.int n) H1) (fun _ _ _ => False)
theorem call_lenO (F : FnOk X.prog X.w X.K X.mg X.base CX0 k f fd ["self"] sp) (hr : Room (k + 1) X.A) (b : Binds X.K fd ["self"] []) : CallR X (.builtin "len") (rLenO X.K f sp) := by
  intro pins s σ H xs us Q I r h
  obtain ⟨a, C, dx, fs, rfl, ea, fl, ft, pr⟩ := h
  obtain ⟨u, rfl, ru⟩ := vals1 r
  obtain rfl : u = Value.ref a := ru
  obtain ⟨_, _, _, hx, mA, hns, _⟩ := (show ObjOk X.prog X.w H s.heap a (.ins C dx fs) from I.hok a _ ea)
  have ty : PySem.W.Looks (model X.prog X.w) s.heap (typeOf (.ref a)) (.ref C) := fun A Q E s1 k1 q => wpAny_typeOf_ref (k1 _ _ hx) q
  refine Calls.call_function_entry kind_len plain_len entry_len (args_len1 _) ?_
  unfold Builtin.«len»
  refine wpAny_bind (m := oneArg "len" _) (wpAny_pure ?_)
  refine wpAny_bind (m := callSpecial? (.ref a) (Str.ofString "__len__")) ?_
  unfold callSpecial? specialOf
  refine wpAny_bind (wpAny_bind (ty.here ((PySem.W.looks_findIn I.kIn fl).here ?_)))
  refine wpAny_holding (wpAny_bind ((PySem.W.bind_fn I.kIn (.ref a) ft).here ?_))
  show wpAny _ _ (call (.ref f) [.ref a] [] >>= fun v => pure (some v)) _ _ s
  refine wpAny_bind (wpAny_call (codeAny_mono (F.run _ X.stack s H ⟨[.ref a], []⟩ [.ref a] [.ref a] _ _ hr.in1 ⟨I.env0.frames, I.env0.mod, I.env0.bs, I.env0.bsz, I.env0.funs, I.env0.frf, I.env0.hok, I.env0.bare⟩ (b s [.ref a] I.kIn rfl) (.cons rfl .nil) pr) fun res s' hq => ?_))
  obtain ⟨u, rfl, ce⟩ := cr_out hq
  obtain ⟨v, H1, I1, rv, n, rfl, hn, q⟩ := I.after ce
  obtain ⟨t, rfl⟩ := (show ∃ t, u = Value.int n t from rv)
  rw [sizeLine_eq] at hn
  refine wpAny_pure ?_
  refine wpAny_bind (wpAny_holding (wpAny_pure ?_))
  refine wpAny_bind (wpAny_letGo ?_)
  show wpAny _ _ (if ((n : Nat) : Int) < 0 then _ else _) _ _ _
  rw [if_neg (by omega)]
  show wpAny _ _ (if ((n : Nat) : Int) ≥ 2 ^ 63 then _ else _) _ _ _
  rw [if_neg (by omega)]
  exact wpAny_bind (wpAny_mkInt (wpAny_pure ⟨_, rfl, .int n, H1, I1.tok _, ⟨_, rfl⟩, q⟩))
end
end Gd

set_option maxRecDepth 100000
set_option maxHeartbeats 4000000
namespace Gd
open PySem PySem.Spec PyProof.Rows L2
variable {K : PySem.W.Frag} {C D : Addr}
/-- isinstance by an own class, what is known of it -/
theorem kit_cl {b : Bool} (T : ErC K D) (ty : PySem.W.typeIn K (.ref D) = some (.type "type")) (self : PySem.W.subIn K (.ref C) (.ref C) = some true) (sub : PySem.W.subIn K (.ref C) (.ref D) = some b) : PySem.W.kitOne K (.ref C) (.ref D) = some b := by
  by_cases e : C = D
  · subst e
    rw [self] at sub
    unfold PySem.W.kitOne
    rw [if_pos (by simp)]
    exact sub
  · unfold PySem.W.kitOne
    rw [if_neg (by simpa using e)]
    show (if ((PySem.W.clsIn K D).isSome && PySem.W.typeIn K (.ref D) == some (.type "type")) = true then PySem.W.subIn K (.ref C) (.ref D) else none) = some b
    rw [if_pos (by rw [T.here, ty]; rfl)]
    exact sub
theorem kit_bt {n : String} {b : Bool} (m : PySem.W.kitMeta n = true) (sub : PySem.W.subIn K (.ref C) (.type n) = some b) : PySem.W.kitOne K (.ref C) (.type n) = some b := by
  unfold PySem.W.kitOne
  rw [if_neg (by simp)]
  show (if PySem.W.kitMeta n = true then PySem.W.subIn K (.ref C) (.type n) else none) = some b
  rw [if_pos m]
  exact sub
theorem exm_cl {b : Bool} (T : ErC K D) (ty : PySem.W.typeIn K (.ref D) = some (.type "type")) (sub : PySem.W.subIn K (.ref C) (.ref D) = some b) : PySem.W.exmOne K (.ref C) (.ref D) = some b := PySem.W.exm_ref T.ex T.dict ty sub
theorem exm3 {c : Value} {c1 c2 c3 : Value} {b1 b2 b3 : Bool} (e1 : PySem.W.exmOne K c c1 = some b1) (e2 : PySem.W.exmOne K c c2 = some b2) (e3 : PySem.W.exmOne K c c3 = some b3) : PySem.W.exmAny K c [c1, c2, c3] = some (b1 || b2 || b3) := by
  simp [PySem.W.exmAny, e1, e2, e3, Bool.or_assoc]
theorem takes_len {X : Cx} {W : WX} (tk : Takes X W) : Takes X (fun cls d σ H => σ.length = X.N.length → W cls d σ H) := fun u s' ⟨a, B, sI, pins, σ, H, cls, d, e, I, nb, up, sky, na, os, ag, w⟩ =>
  tk u s' ⟨a, B, sI, pins, σ, H, cls, d, e, I, nb, up, sky, na, os, ag, w I.len⟩
end Gd

set_option maxRecDepth 100000
set_option maxHeartbeats 4000000
namespace Dl
open PySem PySem.Spec PyProof.Rows L2 Gd

/-! ### data: what a value tells, wherever its parts stand -/
inductive T where
  | non | bl (b : Bool) | int (i : Int) | str (z : PySem.Str) | ty (n : String)
  | lst (l : List T) | tup (l : List T)
  | obj (C : Addr) (fs : List (PySem.Str × T))
  | far (a : Addr) (n : String)
  | wst (z : PySem.Str)
  | rs (k : Nat)
  deriving Inhabited
/-- what may be changed -/
inductive Res where
  | lst (l : List T)
  | drw (s : PySem.Str) (n : Nat)
  | obj (C : Addr) (fs : List (PySem.Str × T))
  | gone
  deriving Inhabited
/-- what the written part says of an own class -/
structure COk (K : PySem.W.Frag) (C : Addr) (ns : List PySem.Str) : Prop where
  cl : Cls K C
  no : ∀ f ∈ ns, NoAttr K C f
def okS (z : PySem.Str) : Prop := ∀ c ∈ z.cps.toList, c < 1114112
mutual
inductive Dn (K : PySem.W.Frag) (B : Hp) : V → T → Prop
  | non : Dn K B .non .non
  | bl (b : Bool) : Dn K B (.bl b) (.bl b)
  | int (i : Int) : Dn K B (.int i) (.int i)
  | str {z : PySem.Str} (t : okS z) : Dn K B (.str z) (.str z)
  | ty (n : String) : Dn K B (.ty n) (.ty n)
  | lst {a : Addr} {xs : List V} {ts : List T} (e : B a = some (.lst xs)) (d : DnAll K B xs ts) : Dn K B (.ref a) (.lst ts)
  | tup {a : Addr} {xs : List V} {ts : List T} (e : SqT K B a xs) (d : DnAll K B xs ts) : Dn K B (.ref a) (.tup ts)
  | obj {a C dx : Addr} {vs : List (PySem.Str × V)} {fs : List (PySem.Str × T)} (e : B a = some (.ins C dx vs)) (c : COk K C (fs.map (·.1))) (d : DnF K B vs fs) : Dn K B (.ref a) (.obj C fs)
  | far {a : Addr} {n : String} (o : Od B (.ref a) n) : Dn K B (.ref a) (.far a n)
  | wst (z : PySem.Str) : Dn K B (.str z) (.wst z)
inductive DnAll (K : PySem.W.Frag) (B : Hp) : List V → List T → Prop
  | nil : DnAll K B [] []
  | cons {v : V} {t : T} {vs : List V} {ts : List T} (d : Dn K B v t) (r : DnAll K B vs ts) : DnAll K B (v :: vs) (t :: ts)
inductive DnF (K : PySem.W.Frag) (B : Hp) : List (PySem.Str × V) → List (PySem.Str × T) → Prop
  | nil : DnF K B [] []
  | cons {f : PySem.Str} {v : V} {t : T} {vs : List (PySem.Str × V)} {ts : List (PySem.Str × T)} (d : Dn K B v t) (r : DnF K B vs ts) : DnF K B ((f, v) :: vs) ((f, t) :: ts)
end
section
variable {K : PySem.W.Frag} {B B' : Hp}
theorem sqT_mono {a : Addr} {xs : List V} (s : Same B B') (h : SqT K B a xs) : SqT K B' a xs := by
  rcases h with h | h
  · rcases h with h | ⟨o, h⟩
    · exact .inl (.inl (s _ _ h))
    · exact .inl (.inr ⟨o, s _ _ h⟩)
  · exact .inr h
mutual
theorem Dn.mono (s : Same B B') : ∀ {v : V} {t : T}, Dn K B v t → Dn K B' v t
  | _, _, .non => .non
  | _, _, .bl b => .bl b
  | _, _, .int i => .int i
  | _, _, .str t => .str t
  | _, _, .ty n => .ty n
  | _, _, .lst e d => .lst (s _ _ e) (DnAll.mono s d)
  | _, _, .tup e d => .tup (sqT_mono s e) (DnAll.mono s d)
  | _, _, .obj e c d => .obj (s _ _ e) c (DnF.mono s d)
  | _, _, .far o => .far (o.mono s)
  | _, _, .wst z => .wst z
theorem DnAll.mono (s : Same B B') : ∀ {vs : List V} {ts : List T}, DnAll K B vs ts → DnAll K B' vs ts
  | _, _, .nil => .nil
  | _, _, .cons d r => .cons (Dn.mono s d) (DnAll.mono s r)
theorem DnF.mono (s : Same B B') : ∀ {vs : List (PySem.Str × V)} {ts : List (PySem.Str × T)}, DnF K B vs ts → DnF K B' vs ts
  | _, _, .nil => .nil
  | _, _, .cons d r => .cons (Dn.mono s d) (DnF.mono s r)
end
theorem DnAll.length : ∀ {vs : List V} {ts : List T}, DnAll K B vs ts → vs.length = ts.length
  | _, _, .nil => rfl
  | _, _, .cons _ r => congrArg (· + 1) r.length
theorem DnAll.get : ∀ {vs : List V} {ts : List T} {i : Nat} {t : T}, DnAll K B vs ts → ts[i]? = some t → ∃ v, vs[i]? = some v ∧ Dn K B v t
  | _, _, 0, _, .cons d _, e => by
    cases (Option.some.inj e)
    exact ⟨_, rfl, d⟩
  | _, _, i + 1, _, .cons _ r, e => r.get (i := i) e
theorem DnAll.getV : ∀ {vs : List V} {ts : List T} {i : Nat} {v : V}, DnAll K B vs ts → vs[i]? = some v → ∃ t, ts[i]? = some t ∧ Dn K B v t
  | _, _, 0, _, .cons d _, e => by
    cases (Option.some.inj e)
    exact ⟨_, rfl, d⟩
  | _, _, i + 1, _, .cons _ r, e => r.getV (i := i) e
theorem DnAll.append : ∀ {vs us : List V} {ts ss : List T}, DnAll K B vs ts → DnAll K B us ss → DnAll K B (vs ++ us) (ts ++ ss)
  | _, _, _, _, .nil, h => h
  | _, _, _, _, .cons d r, h => .cons d (r.append h)
theorem DnAll.take : ∀ {vs : List V} {ts : List T} (n : Nat), DnAll K B vs ts → DnAll K B (vs.take n) (ts.take n)
  | _, _, 0, _ => .nil
  | _, _, _ + 1, .nil => .nil
  | _, _, n + 1, .cons d r => .cons d (r.take n)
theorem DnAll.drop : ∀ {vs : List V} {ts : List T} (n : Nat), DnAll K B vs ts → DnAll K B (vs.drop n) (ts.drop n)
  | _, _, 0, h => h
  | _, _, _ + 1, .nil => .nil
  | _, _, n + 1, .cons _ r => r.drop n
theorem DnAll.set {v : V} {t : T} (d : Dn K B v t) : ∀ {vs : List V} {ts : List T} (n : Nat), DnAll K B vs ts → DnAll K B (vs.set n v) (ts.set n t)
  | _, _, _, .nil => .nil
  | _, _, 0, .cons _ r => .cons d r
  | _, _, n + 1, .cons e r => .cons e (DnAll.set d n r)
theorem DnAll.reverse : ∀ {vs : List V} {ts : List T}, DnAll K B vs ts → DnAll K B vs.reverse ts.reverse
  | _, _, .nil => .nil
  | _, _, .cons d r => by
    rw [List.reverse_cons, List.reverse_cons]
    exact r.reverse.append (.cons d .nil)
theorem DnF.look : ∀ {vs : List (PySem.Str × V)} {ts : List (PySem.Str × T)} {f : PySem.Str} {t : T}, DnF K B vs ts → ts.lookup f = some t → ∃ v, vs.lookup f = some v ∧ Dn K B v t
  | _, _, _, _, .nil, e => nomatch e
  | _, _, f, t, .cons (f := g) (v := v) d r, e => by
    by_cases h : f = g
    · subst h
      simp [List.lookup_cons_self] at e ⊢
      subst e
      exact d
    · have hb : (f == g) = false := by simpa using h
      simp only [List.lookup, hb] at e ⊢
      exact r.look e
theorem DnF.lookN : ∀ {vs : List (PySem.Str × V)} {ts : List (PySem.Str × T)} {f : PySem.Str}, DnF K B vs ts → ts.lookup f = none → vs.lookup f = none
  | _, _, _, .nil, _ => rfl
  | _, _, f, .cons (f := g) (v := v) d r, e => by
    by_cases h : f = g
    · subst h
      simp [List.lookup_cons_self] at e
    · have hb : (f == g) = false := by simpa using h
      simp only [List.lookup, hb] at e ⊢
      exact r.lookN e
end

/-! ### worlds -/
structure Wd where
  G : Hp
  B : Hp
  ad : List Addr
  own : Addr → Option Nat
structure Wd.Le (W W' : Wd) : Prop where
  g : W'.G = W.G
  b : Same W.B W'.B
  nb : ∀ a u, W'.B a = some u → W.B a = some u ∨ W.G a = none
  ad : ∀ (k : Nat) (p : Addr), W.ad[k]? = some p → W'.ad[k]? = some p
theorem Wd.Le.refl {W : Wd} : W.Le W := ⟨rfl, Same.refl _, fun _ _ h => .inl h, fun _ _ h => h⟩
theorem Wd.Le.trans {W W1 W2 : Wd} (a : W.Le W1) (b : W1.Le W2) : W.Le W2 :=
  ⟨b.g.trans a.g, a.b.trans b.b, fun x u h => (b.nb x u h).elim (fun h => a.nb x u h) fun h => .inr (by rw [← a.g]; exact h), fun k p h => b.ad k p (a.ad k p h)⟩
/-- a value, be it a thing that may be changed -/
def Dv (K : PySem.W.Frag) (W : Wd) (v : V) : T → Prop
  | .rs k => ∃ p, W.ad[k]? = some p ∧ v = .ref p
  | t => Dn K W.B v t
theorem Dv.of {K : PySem.W.Frag} {W : Wd} {v : V} {t : T} (h : Dn K W.B v t) : Dv K W v t := by
  cases h with
  | non => exact .non
  | bl b => exact .bl b
  | int i => exact .int i
  | str t => exact .str t
  | ty n => exact .ty n
  | lst e d => exact .lst e d
  | tup e d => exact .tup e d
  | obj e c d => exact .obj e c d
  | far o => exact .far o
  | wst z => exact .wst z
theorem Dv.dn {K : PySem.W.Frag} {W : Wd} {v : V} {t : T} (h : Dv K W v t) : (∃ k p, t = .rs k ∧ W.ad[k]? = some p ∧ v = .ref p) ∨ Dn K W.B v t := by
  cases t with
  | rs k =>
    obtain ⟨p, e, q⟩ := h
    exact .inl ⟨k, p, rfl, e, q⟩
  | _ => exact .inr h
theorem Dv.mono {K : PySem.W.Frag} {W W' : Wd} {v : V} {t : T} (l : W.Le W') (h : Dv K W v t) : Dv K W' v t := by
  rcases h.dn with ⟨k, p, rfl, e, q⟩ | h
  · exact ⟨p, l.ad _ _ e, q⟩
  · exact .of (h.mono l.b)
abbrev Rho := List (Option T)
abbrev Mu := List Res
/-- what the numbers are drawn by -/
def mKs (s : PySem.Str) (lc ll : Addr) (k : Int) : List (Key × V) := [(kC, .ref lc), (kL, .ref ll), (Sum.inr s, .int k)]
def ResOk (K : PySem.W.Frag) (W : Wd) (H : Hp) (k : Nat) (p : Addr) : Res → Prop
  | .lst l => W.own p = some k ∧ ∃ xs, H p = some (.lst xs) ∧ DnAll K W.B xs l
  | .drw s n => W.own p = some k ∧ ∃ (lc ll : Addr) (cs ls : List Int) (i : Int), W.own lc = some k ∧ W.own ll = some k ∧ lc ≠ ll ∧ H p = some (.dK (mKs s lc ll i)) ∧ H lc = some (.lst (cs.map V.int)) ∧ H ll = some (.lst (ls.map V.int)) ∧
      cs.length = 64 ∧ (∀ c ∈ cs, 0 ≤ c ∧ c < 2147483647) ∧ ls.length ≤ 63 ∧ 0 ≤ i ∧ i + n ≤ 2147483648
  | .obj C fs => W.own p = some k ∧ ∃ dx vs, W.own dx = some k ∧ H p = some (.ins C dx vs) ∧ H dx = some (.own p) ∧ DnF K W.B vs fs ∧ COk K C (fs.map (·.1))
  | .gone => True
structure Ok (K : PySem.W.Frag) (W : Wd) (H : Hp) (μ : Mu) : Prop where
  sg : Same W.G H
  sb : Same W.B H
  lab : ∀ a k, W.own a = some k → W.B a = none ∧ W.G a = none ∧ H a ≠ none ∧ k < μ.length
  len : W.ad.length = μ.length
  res : ∀ (k : Nat) (r : Res), μ[k]? = some r → ∃ p, W.ad[k]? = some p ∧ ResOk K W H k p r
def Sl (K : PySem.W.Frag) (W : Wd) (σ : L2.St) (ρ : Rho) : Prop := σ.length = ρ.length ∧ ∀ (i : Nat) (t : T), ρ[i]? = some (some t) → ∃ v, σ[i]? = some (some v) ∧ Dv K W v t
theorem Sl.mono {K : PySem.W.Frag} {W W' : Wd} {σ : L2.St} {ρ : Rho} (l : W.Le W') (h : Sl K W σ ρ) : Sl K W' σ ρ := ⟨h.1, fun i t e => let ⟨v, a, b⟩ := h.2 i t e; ⟨v, a, b.mono l⟩⟩
theorem Sl.set {K : PySem.W.Frag} {W : Wd} {σ : L2.St} {ρ : Rho} {i : Nat} {v : V} {t : T} (h : Sl K W σ ρ) (d : Dv K W v t) : Sl K W (σ.set i (some v)) (ρ.set i (some t)) := by
  refine ⟨by rw [List.length_set, List.length_set]; exact h.1, fun j s e => ?_⟩
  by_cases z : i = j
  · subst z
    rw [List.getElem?_set] at e ⊢
    by_cases lt : i < ρ.length
    · simp only [lt, if_true, Option.some.injEq] at e
      subst e
      simp [h.1, lt]
      exact d
    · simp only [lt, if_true, if_false] at e
      cases e
  · rw [List.getElem?_set_ne z] at e ⊢
    exact h.2 j s e
theorem Sl.wipe {K : PySem.W.Frag} {W : Wd} {σ : L2.St} {ρ : Rho} {i : Nat} (h : Sl K W σ ρ) : Sl K W (σ.set i none) (ρ.set i none) := by
  refine ⟨by rw [List.length_set, List.length_set]; exact h.1, fun j s e => ?_⟩
  by_cases z : i = j
  · subst z
    rw [List.getElem?_set] at e
    by_cases lt : i < ρ.length
    · simp only [lt, if_true, Option.some.injEq] at e
      cases e
    · simp only [lt, if_true, if_false] at e
      cases e
  · rw [List.getElem?_set_ne z] at e ⊢
    exact h.2 j s e
/-- a longer base, the labels kept -/
theorem ResOk.mono {K : PySem.W.Frag} {W W' : Wd} {H H' : Hp} {k : Nat} {p : Addr} {r : Res} (sb : Same W.B W'.B) (so : ∀ a j, W.own a = some j → W'.own a = some j) (sh : ∀ a u, W.own a = some k → H a = some u → H' a = some u) (h : ResOk K W H k p r) : ResOk K W' H' k p r := by
  cases r with
  | lst l =>
    obtain ⟨o, xs, e, d⟩ := h
    exact ⟨so _ _ o, xs, sh _ _ o e, d.mono sb⟩
  | drw s n =>
    obtain ⟨o, lc, ll, cs, ls, i, o1, o2, ne, e, e1, e2, r⟩ := h
    exact ⟨so _ _ o, lc, ll, cs, ls, i, so _ _ o1, so _ _ o2, ne, sh _ _ o e, sh _ _ o1 e1, sh _ _ o2 e2, r⟩
  | obj C fs =>
    obtain ⟨o, dx, vs, o1, e, e1, d, c⟩ := h
    exact ⟨so _ _ o, dx, vs, so _ _ o1, sh _ _ o e, sh _ _ o1 e1, d.mono sb, c⟩
  | gone => trivial
/-- frozen things come to be -/
structure Grow (W : Wd) (H : Hp) (W' : Wd) (H' : Hp) : Prop where
  g : W'.G = W.G
  ad : W'.ad = W.ad
  own : W'.own = W.own
  b : Same W.B W'.B
  h : Same H H'
  bh : Same W'.B H'
  nb : ∀ a u, W'.B a = some u → W.B a = some u ∨ H a = none
theorem Grow.le {K : PySem.W.Frag} {W W' : Wd} {H H' : Hp} {μ : Mu} (x : Ok K W H μ) (g : Grow W H W' H') : W.Le W' :=
  ⟨g.g, g.b, fun a u e => (g.nb a u e).imp id fun h => x.sg.free h, fun k p e => by rw [g.ad]; exact e⟩
theorem Grow.ok {K : PySem.W.Frag} {W W' : Wd} {H H' : Hp} {μ : Mu} (x : Ok K W H μ) (g : Grow W H W' H') : Ok K W' H' μ := by
  refine ⟨by rw [g.g]; exact x.sg.trans g.h, g.bh, fun a k e => ?_, by rw [g.ad]; exact x.len, fun k r e => ?_⟩
  · rw [g.own] at e
    obtain ⟨a1, a2, a3, a4⟩ := x.lab a k e
    refine ⟨?_, by rw [g.g]; exact a2, fun z => a3 (g.h.free z), a4⟩
    cases q : W'.B a with
    | none => rfl
    | some u =>
      rcases g.nb a u q with q | q
      · rw [a1] at q; cases q
      · exact absurd q a3
  · obtain ⟨p, e1, r1⟩ := x.res k r e
    exact ⟨p, by rw [g.ad]; exact e1, r1.mono g.b (fun a j q => by rw [g.own]; exact q) fun a u _ q => g.h _ _ q⟩
theorem Grow.refl {W : Wd} {H : Hp} (b : Same W.B H) : Grow W H W H := ⟨rfl, rfl, rfl, Same.refl _, Same.refl _, b, fun _ _ e => .inl e⟩
theorem Grow.new {W : Wd} {H : Hp} (b : Same W.B H) {p : Addr} (o : HO) (f : H p = none) : Grow W H { W with B := upd W.B p o } (upd H p o) := by
  refine ⟨rfl, rfl, rfl, same_new (b.free f), same_new f, same_both b, fun a u e => ?_⟩
  by_cases z : a = p
  · subst z
    exact .inr f
  · exact .inl ((upd_ne z).symm.trans e)
theorem Grow.side {W : Wd} {H : Hp} (b : Same W.B H) {p : Addr} (o : HO) (f : H p = none) : Grow W H W (upd H p o) := by
  exact ⟨rfl, rfl, rfl, Same.refl _, same_new f, b.trans (same_new f), fun a u e => .inl e⟩
theorem Grow.trans {W W1 W2 : Wd} {H H1 H2 : Hp} (a : Grow W H W1 H1) (b : Grow W1 H1 W2 H2) : Grow W H W2 H2 :=
  ⟨b.g.trans a.g, b.ad.trans a.ad, b.own.trans a.own, a.b.trans b.b, a.h.trans b.h, b.bh, fun x u e => (b.nb x u e).elim (fun e => a.nb x u e) fun e => .inr (a.h.free e)⟩
/-- a new thing that may be changed: a list -/
def Wd.put (W : Wd) (p : Addr) (k : Nat) : Wd := { W with ad := W.ad ++ [p], own := fun a => if a = p then some k else W.own a }
theorem put_own {W : Wd} {p : Addr} {k : Nat} : (W.put p k).own p = some k := if_pos rfl
theorem put_ne {W : Wd} {p a : Addr} {k : Nat} (h : a ≠ p) : (W.put p k).own a = W.own a := if_neg h
/-- a thing at p, known to none, is owned from here on -/
theorem Ok.put {K : PySem.W.Frag} {W : Wd} {H : Hp} {μ : Mu} (x : Ok K W H μ) {p : Addr} (hb : W.B p = none) (hg : W.G p = none) (ho : W.own p = none) (hh : H p ≠ none) {l : List T} {xs : List V} (e : H p = some (.lst xs)) (d : DnAll K W.B xs l) :
    Ok K (W.put p μ.length) H (μ ++ [.lst l]) ∧ W.Le (W.put p μ.length) := by
  have so : ∀ a j, W.own a = some j → (W.put p μ.length).own a = some j := fun a j q => by
    rw [put_ne (fun z => by subst z; rw [ho] at q; cases q)]
    exact q
  refine ⟨⟨x.sg, x.sb, fun a k q => ?_, by show (W.ad ++ [p]).length = _; simp [x.len], fun k r q => ?_⟩, ⟨rfl, Same.refl _, fun _ _ h => .inl h, fun k p q => ?_⟩⟩
  · by_cases z : a = p
    · subst z
      rw [put_own] at q
      cases q
      exact ⟨hb, hg, hh, by simp⟩
    · rw [put_ne z] at q
      obtain ⟨a1, a2, a3, a4⟩ := x.lab a k q
      exact ⟨a1, a2, a3, by simp; omega⟩
  · by_cases lt : k < μ.length
    · rw [List.getElem?_append_left lt] at q
      obtain ⟨p1, e1, r1⟩ := x.res k r q
      refine ⟨p1, ?_, ResOk.mono (W := W) (Same.refl _) so (fun _ _ _ q => q) r1⟩
      show (W.ad ++ [p])[k]? = _
      rw [List.getElem?_append_left (by rw [x.len]; exact lt)]
      exact e1
    · have ek : k = μ.length := by
        have := (List.getElem?_eq_some_iff.mp q).1
        simp at this
        omega
      subst ek
      simp at q
      subst q
      refine ⟨p, ?_, put_own, xs, e, d⟩
      show (W.ad ++ [p])[μ.length]? = _
      rw [← x.len]
      simp
  · show (W.ad ++ [_])[k]? = _
    rw [List.getElem?_append_left (List.getElem?_eq_some_iff.mp q).1]
    exact q
end Dl

set_option maxRecDepth 100000
set_option maxHeartbeats 4000000
namespace Dl
open PySem PySem.Spec PyProof.Rows L2 Gd

/-! ### what a reading asks of data -/
abbrev XW := Addr → List (PySem.Str × T) → Mu → Prop
abbrev DE := Rho → XW → Mu → (T → Mu → Prop) → Prop
abbrev DB := Rho → XW → Mu → (Bool → Mu → Prop) → Prop
abbrev DA := Rho → XW → Mu → (List T → Mu → Prop) → Prop
/-- what is wanted of an error, told of data -/
def XL (K : PySem.W.Frag) (W : Wd) (xw : XW) (E : XK) : Prop := ∀ {C d : Addr} {fs : List (PySem.Str × V)} {τs : List (PySem.Str × T)} {W' : Wd} {H' : Hp} {μ' : Mu}, W.Le W' → Ok K W' H' μ' → H' d = some (.xd fs) → DnF K W'.B fs τs → xw C τs μ' → E (.ref C) (some d) H'
theorem XL.mono {K : PySem.W.Frag} {W W' : Wd} {xw : XW} {E : XK} (l : W.Le W') (h : XL K W xw E) : XL K W' xw E := fun l' o e d x => h (l.trans l') o e d x
class SimE (K : PySem.W.Frag) (E : XK) (t : TE) (r : outParam DE) : Prop where
  run : ∀ {W : Wd} {H : Hp} {σ : L2.St} {ρ : Rho} {μ : Mu} {xw : XW} {Φ : T → Mu → Prop} {Q : VK}, Ok K W H μ → Sl K W σ ρ → XL K W xw E → r ρ xw μ Φ →
    (∀ {v τ W' H' μ'}, W.Le W' → Ok K W' H' μ' → Dv K W' v τ → Φ τ μ' → Q v H') → t σ H Q
class SimB (K : PySem.W.Frag) (E : XK) (t : TT) (r : outParam DB) : Prop where
  run : ∀ {W : Wd} {H : Hp} {σ : L2.St} {ρ : Rho} {μ : Mu} {xw : XW} {Φ : Bool → Mu → Prop} {Q : Bool → Hp → Prop}, Ok K W H μ → Sl K W σ ρ → XL K W xw E → r ρ xw μ Φ →
    (∀ {b W' H' μ'}, W.Le W' → Ok K W' H' μ' → Φ b μ' → Q b H') → t σ H Q
/-- several values, from the left -/
inductive DvAll (K : PySem.W.Frag) (W : Wd) : List V → List T → Prop
  | nil : DvAll K W [] []
  | cons {v : V} {t : T} {vs : List V} {ts : List T} (d : Dv K W v t) (r : DvAll K W vs ts) : DvAll K W (v :: vs) (t :: ts)
theorem DvAll.mono {K : PySem.W.Frag} {W W' : Wd} (l : W.Le W') : ∀ {vs : List V} {ts : List T}, DvAll K W vs ts → DvAll K W' vs ts
  | _, _, .nil => .nil
  | _, _, .cons d r => .cons (d.mono l) (r.mono l)
class SimA (K : PySem.W.Frag) (E : XK) (t : TA) (r : outParam DA) : Prop where
  run : ∀ {W : Wd} {H : Hp} {σ : L2.St} {ρ : Rho} {μ : Mu} {xw : XW} {Φ : List T → Mu → Prop} {Q : List V → Hp → Prop}, Ok K W H μ → Sl K W σ ρ → XL K W xw E → r ρ xw μ Φ →
    (∀ {vs τs W' H' μ'}, W.Le W' → Ok K W' H' μ' → DvAll K W' vs τs → Φ τs μ' → Q vs H') → t σ H Q

variable {K : PySem.W.Frag} {E : XK}
/-! ### names, constants -/
def rVar (i : Nat) : DE := fun ρ _ μ Φ => match ρ[i]? with
  | some (some t) => Φ t μ
  | _ => False
instance sim_var (i : Nat) : SimE K E (tVar i) (rVar i) := ⟨fun {W H σ ρ μ xw Φ Q} x s _ h q => by
  unfold rVar at h
  split at h
  · rename_i t e
    obtain ⟨v, e1, d⟩ := s.2 i t e
    exact ⟨v, e1, q Wd.Le.refl x d h⟩
  · exact h.elim⟩
def rC (t : T) : DE := fun _ _ μ Φ => Φ t μ
instance sim_int (i : Int) : SimE K E (tC (.int i)) (rC (.int i)) := ⟨fun x _ _ h q => q Wd.Le.refl x (.of (.int i)) h⟩
instance sim_bl (i : Bool) : SimE K E (tC (.bl i)) (rC (.bl i)) := ⟨fun x _ _ h q => q Wd.Le.refl x (.of (.bl i)) h⟩
instance sim_non : SimE K E (tC .non) (rC .non) := ⟨fun x _ _ h q => q Wd.Le.refl x (.of .non) h⟩
instance sim_tyc (n : String) : SimE K E (tC (.ty n)) (rC (.ty n)) := ⟨fun x _ _ h q => q Wd.Le.refl x (.of (.ty n)) h⟩
def okSb (z : PySem.Str) : Bool := z.cps.toList.all fun c => decide (c < 1114112)
theorem okSb_ok {z : PySem.Str} (h : okSb z = true) : okS z := fun c hc => by simpa using List.all_eq_true.mp h c hc
def rStr (z : PySem.Str) : DE := fun _ _ μ Φ => okSb z = true ∧ Φ (.str z) μ
instance sim_str (z : PySem.Str) : SimE K E (tC (.str z)) (rStr z) := ⟨fun x _ _ h q => q Wd.Le.refl x (.of (.str (okSb_ok h.1))) h.2⟩
/-! ### two values -/
class SimOp (K : PySem.W.Frag) (r : R2) (d : outParam (Mu → T → T → (T → Prop) → Prop)) : Prop where
  run : ∀ {W : Wd} {H : Hp} {μ : Mu} {x y : V} {tx ty : T} {Ψ : T → Prop} {Q : VK}, Ok K W H μ → Dv K W x tx → Dv K W y ty → d μ tx ty Ψ → (∀ {v τ W' H'}, Grow W H W' H' → Dv K W' v τ → Ψ τ → Q v H') → r x y H Q
def rOp (d : Mu → T → T → (T → Prop) → Prop) (ra rb : DE) : DE := fun ρ xw μ Φ => ra ρ xw μ fun a μ1 => rb ρ xw μ1 fun b μ2 => d μ2 a b fun z => Φ z μ2
instance sim_op {r : R2} {ta tb : TE} {d ra rb} [o : SimOp K r d] [a : SimE K E ta ra] [b : SimE K E tb rb] : SimE K E (tOp r ta tb) (rOp d ra rb) := ⟨fun {W H σ ρ μ xw Φ Q} x s n h q =>
  a.run x s n h fun {v τ W1 H1 μ1} l1 x1 d1 h1 => b.run x1 (s.mono l1) (n.mono l1) h1 fun {v2 τ2 W2 H2 μ2} l2 x2 d2 h2 => o.run x2 (d1.mono l2) d2 h2 fun {v3 τ3 W3 H3} g d3 h3 => q ((l1.trans l2).trans (g.le x2)) (g.ok x2) d3 h3⟩
/-- b, or not b -/
def nb : Bool → Bool → Bool
  | true, b => !b
  | false, b => b
theorem nb_if {n b : Bool} : nb n b = if n then !b else b := by cases n <;> rfl
def dI0 (f : Int → Int → T) : Mu → T → T → (T → Prop) → Prop := fun _ a b Ψ => match a, b with
  | .int i, .int j => Ψ (f i j)
  | _, _ => False
def dIC (C : Int → Int → Prop) (f : Int → Int → T) : Mu → T → T → (T → Prop) → Prop := fun _ a b Ψ => match a, b with
  | .int i, .int j => C i j ∧ Ψ (f i j)
  | _, _ => False
theorem Dv.int {W : Wd} {v : V} {i : Int} (h : Dv K W v (.int i)) : v = .int i := by
  cases (show Dn K W.B v (.int i) from h); rfl
theorem Dv.bl {W : Wd} {v : V} {i : Bool} (h : Dv K W v (.bl i)) : v = .bl i := by
  cases (show Dn K W.B v (.bl i) from h); rfl
theorem Dv.non {W : Wd} {v : V} (h : Dv K W v .non) : v = .non := by
  cases (show Dn K W.B v .non from h); rfl
theorem Dv.str {W : Wd} {v : V} {z : PySem.Str} (h : Dv K W v (.str z)) : v = .str z ∧ okS z := by
  cases (show Dn K W.B v (.str z) from h); exact ⟨rfl, by assumption⟩
theorem Dv.tyv {W : Wd} {v : V} {n : String} (h : Dv K W v (.ty n)) : v = .ty n := by
  cases (show Dn K W.B v (.ty n) from h); rfl
theorem sim_iI {g : Int → Int → V} {f : Int → Int → T} (hg : ∀ (B : Hp) i j, Dn K B (g i j) (f i j)) : SimOp K (rI0 g) (dI0 f) := ⟨fun {W H μ x y tx ty Ψ Q} o dx dy h q => by
  unfold dI0 at h
  split at h
  · cases dx.int; cases dy.int
    exact ⟨_, _, rfl, rfl, q (Grow.refl o.sb) (.of (hg _ _ _)) h⟩
  · exact h.elim⟩
theorem sim_iC {C : Int → Int → Prop} {g : Int → Int → V} {f : Int → Int → T} (hg : ∀ (B : Hp) i j, Dn K B (g i j) (f i j)) : SimOp K (rI C g) (dIC C f) := ⟨fun {W H μ x y tx ty Ψ Q} o dx dy h q => by
  unfold dIC at h
  split at h
  · cases dx.int; cases dy.int
    exact ⟨_, _, rfl, rfl, h.1, q (Grow.refl o.sb) (.of (hg _ _ _)) h.2⟩
  · exact h.elim⟩
instance sim_ii {f : Int → Int → Int} : SimOp K (rI0 fun i j => V.int (f i j)) (dI0 fun i j => .int (f i j)) := sim_iI fun _ _ _ => .int _
instance sim_ib {f : Int → Int → Bool} : SimOp K (rI0 fun i j => V.bl (f i j)) (dI0 fun i j => .bl (f i j)) := sim_iI fun _ _ _ => .bl _
instance sim_ici {C : Int → Int → Prop} {f : Int → Int → Int} : SimOp K (rI C fun i j => V.int (f i j)) (dIC C fun i j => .int (f i j)) := sim_iC fun _ _ _ => .int _
def dSS (f : PySem.Str → PySem.Str → Bool) : Mu → T → T → (T → Prop) → Prop := fun _ a b Ψ => match a, b with
  | .str i, .str j => Ψ (.bl (f i j))
  | _, _ => False
instance sim_ss {f : PySem.Str → PySem.Str → Bool} : SimOp K (fun x y H Q => ∃ i j, x = V.str i ∧ y = V.str j ∧ Q (V.bl (f i j)) H) (dSS f) := ⟨fun {W H μ x y tx ty Ψ Q} o dx dy h q => by
  unfold dSS at h
  split at h
  · cases dx.str.1; cases dy.str.1
    exact ⟨_, _, rfl, rfl, q (Grow.refl o.sb) (.of (.bl _)) h⟩
  · exact h.elim⟩
theorem okS.add {z y : PySem.Str} (h : okS z) (k : okS y) : okS (z ++ y) := fun c hc => by
  have e : (z ++ y).cps.toList = z.cps.toList ++ y.cps.toList := Array.toList_append
  rw [e] at hc
  exact (List.mem_append.mp hc).elim (h c) (k c)
def dCatS : Mu → T → T → (T → Prop) → Prop := fun _ a b Ψ => match a, b with
  | .str i, .str j => i.length + j.length ≤ 1000000 ∧ Ψ (.str (i ++ j))
  | _, _ => False
theorem line1 {n : Nat} (h : n ≤ 1000000) : n ≤ sizeLine := Nat.le_trans h (by rw [sizeLine_eq]; decide)
instance sim_cats : SimOp K (fun x y H Q => ∃ i j, x = V.str i ∧ y = V.str j ∧ i.length + j.length ≤ sizeLine ∧ Q (V.str (i ++ j)) H) dCatS := ⟨fun {W H μ x y tx ty Ψ Q} o dx dy h q => by
  unfold dCatS at h
  split at h
  · obtain ⟨rfl, a⟩ := dx.str
    obtain ⟨rfl, b⟩ := dy.str
    exact ⟨_, _, rfl, rfl, line1 h.1, q (Grow.refl o.sb) (.of (.str (a.add b))) h.2⟩
  · exact h.elim⟩
/-- a thing as it stands: a list that may be changed is told as a list -/
def seeR (μ : Mu) (k : Nat) : T := match μ[k]? with
  | some (.lst l) => .lst l
  | some (.obj C fs) => .obj C fs
  | _ => .rs k
def view (μ : Mu) : T → T
  | .rs k => seeR μ k
  | t => t
theorem view_dn {W : Wd} {H : Hp} {μ : Mu} {v : V} {t s : T} (x : Ok K W H μ) (d : Dv K W v t) (e : view μ t = s) (n : ∀ k, s ≠ .rs k) : Dn K H v s := by
  rcases d.dn with ⟨k, p, rfl, e1, rfl⟩ | d
  · have e : seeR μ k = s := e
    unfold seeR at e
    split at e
    · rename_i l e2
      obtain ⟨p1, e3, r⟩ := x.res k _ e2
      rw [e1] at e3
      cases e3
      obtain ⟨_, xs, e4, d4⟩ := r
      subst e
      exact .lst e4 (d4.mono x.sb)
    · rename_i C fs e2
      obtain ⟨p1, e3, r⟩ := x.res k _ e2
      rw [e1] at e3
      cases e3
      obtain ⟨_, dx, vs, _, e4, _, d4, c⟩ := r
      subst e
      exact .obj e4 c (d4.mono x.sb)
    · exact absurd e.symm (n k)
  · cases t with
    | rs k =>
      cases d
    | _ =>
      subst e
      exact d.mono x.sb
/-- a list or a tuple, its items -/
def asSeq (μ : Mu) (t : T) : Option (List T) := match view μ t with
  | .lst l => some l
  | .tup l => some l
  | _ => none
theorem view_lst {W : Wd} {H : Hp} {μ : Mu} {v : V} {t : T} {l : List T} (x : Ok K W H μ) (d : Dv K W v t) (e : view μ t = .lst l) : ∃ p xs, v = .ref p ∧ H p = some (.lst xs) ∧ DnAll K W.B xs l := by
  rcases d.dn with ⟨k, p, rfl, e1, rfl⟩ | d
  · have e : seeR μ k = .lst l := e
    unfold seeR at e
    split at e
    · rename_i l2 e2
      obtain ⟨p1, e3, r⟩ := x.res k _ e2
      rw [e1] at e3
      cases e3
      obtain ⟨_, xs, e4, d4⟩ := r
      cases e
      exact ⟨_, _, rfl, e4, d4⟩
    · cases e
    · cases e
  · cases t with
    | rs k => cases d
    | lst l2 =>
      cases e
      cases d with
      | lst e d => exact ⟨_, _, rfl, x.sb _ _ e, d⟩
    | _ => cases e
theorem view_tup {W : Wd} {H : Hp} {μ : Mu} {v : V} {t : T} {l : List T} (x : Ok K W H μ) (d : Dv K W v t) (e : view μ t = .tup l) : ∃ p xs, v = .ref p ∧ SqT K H p xs ∧ DnAll K W.B xs l := by
  rcases d.dn with ⟨k, p, rfl, e1, rfl⟩ | d
  · have e : seeR μ k = .tup l := e
    unfold seeR at e
    split at e <;> cases e
  · cases t with
    | rs k => cases d
    | tup l2 =>
      cases e
      cases d with
      | tup e d => exact ⟨_, _, rfl, sqT_mono x.sb e, d⟩
    | _ => cases e
theorem seq_is {W : Wd} {H : Hp} {μ : Mu} {v : V} {t : T} {l : List T} (x : Ok K W H μ) (d : Dv K W v t) (e : asSeq μ t = some l) : ∃ p xs, v = .ref p ∧ (SqL K H p xs ∨ SqT K H p xs) ∧ DnAll K W.B xs l := by
  unfold asSeq at e
  split at e
  · rename_i l2 e2
    cases e
    obtain ⟨p, xs, a, b, c⟩ := view_lst x d e2
    exact ⟨p, xs, a, .inl (SqL.of b), c⟩
  · rename_i l2 e2
    cases e
    obtain ⟨p, xs, a, b, c⟩ := view_tup x d e2
    exact ⟨p, xs, a, .inr b, c⟩
  · cases e
/-! scalars -/
def T.sc : T → Option V
  | .non => some .non
  | .bl b => some (.bl b)
  | .int i => some (.int i)
  | .str z => some (.str z)
  | .wst z => some (.str z)
  | _ => none
theorem Dv.wst {W : Wd} {v : V} {z : PySem.Str} (h : Dv K W v (.wst z)) : v = .str z := by
  cases (show Dn K W.B v (.wst z) from h); rfl
theorem Dv.sc {W : Wd} {v w : V} {t : T} (h : Dv K W v t) (e : t.sc = some w) : v = w := by
  cases t with
  | non => cases e; exact h.non
  | bl b => cases e; exact h.bl
  | int i => cases e; exact h.int
  | str z => cases e; exact h.str.1
  | wst z => cases e; exact h.wst
  | _ => cases e
theorem Dn.sc {B : Hp} {v w : V} {t : T} (h : Dn K B v t) (e : t.sc = some w) : v = w := by
  cases h <;> cases e <;> rfl
def dEq (neg : Bool) : Mu → T → T → (T → Prop) → Prop := fun _ a b Ψ => match a, b with
  | .int i, .int j => Ψ (.bl (nb neg (decide (i = j))))
  | .str i, .str j => Ψ (.bl (nb neg (decide (i = j))))
  | a, b => match a.sc, b.sc with
    | some x, some y => scal x y = true ∧ Ψ (.bl (nb neg (decide (x = y))))
    | _, _ => False
theorem vint_eq {i j : Int} : decide (V.int i = V.int j) = decide (i = j) := by
  by_cases h : i = j
  · rw [h]; simp
  · simp [h]
theorem vstr_eq {i j : PySem.Str} : decide (V.str i = V.str j) = decide (i = j) := by
  by_cases h : i = j
  · rw [h]; simp
  · simp [h]
instance sim_eq : SimOp K rEq (dEq false) := ⟨fun {W H μ x y tx ty Ψ Q} o dx dy h q => by
  unfold dEq at h
  split at h
  · cases dx.int; cases dy.int
    exact ⟨rfl, by rw [vint_eq]; exact q (Grow.refl o.sb) (.of (.bl _)) h⟩
  · cases dx.str.1; cases dy.str.1
    exact ⟨rfl, by rw [vstr_eq]; exact q (Grow.refl o.sb) (.of (.bl _)) h⟩
  · split at h
    · rename_i e1 e2
      cases dx.sc e1; cases dy.sc e2
      exact ⟨h.1, q (Grow.refl o.sb) (.of (.bl _)) h.2⟩
    · exact h.elim⟩
instance sim_ne : SimOp K rNe (dEq true) := ⟨fun {W H μ x y tx ty Ψ Q} o dx dy h q => by
  unfold dEq at h
  split at h
  · cases dx.int; cases dy.int
    exact ⟨rfl, by rw [vint_eq]; exact q (Grow.refl o.sb) (.of (.bl _)) h⟩
  · cases dx.str.1; cases dy.str.1
    exact ⟨rfl, by rw [vstr_eq]; exact q (Grow.refl o.sb) (.of (.bl _)) h⟩
  · split at h
    · rename_i e1 e2
      cases dx.sc e1; cases dy.sc e2
      exact ⟨h.1, q (Grow.refl o.sb) (.of (.bl _)) h.2⟩
    · exact h.elim⟩
def T.isN : T → Bool
  | .non => true
  | _ => false
theorem Dv.isN {W : Wd} {v : V} {t : T} (h : Dv K W v t) : decide (v = .non) = t.isN := by
  rcases h.dn with ⟨k, p, rfl, e1, rfl⟩ | h
  · rfl
  · cases h <;> rfl
def dN (neg : Bool) : Mu → T → T → (T → Prop) → Prop := fun _ a b Ψ => b.isN = true ∧ Ψ (.bl (nb neg (a.isN)))
theorem isN_is {W : Wd} {v : V} {t : T} (h : Dv K W v t) (e : t.isN = true) : v = .non := by
  rw [← h.isN] at e
  simpa using e
instance sim_isN : SimOp K (fun x y H Q => y = V.non ∧ Q (V.bl (decide (x = V.non))) H) (dN false) := ⟨fun {W H μ x y tx ty Ψ Q} o dx dy h q =>
  ⟨isN_is dy h.1, by rw [dx.isN]; exact q (Grow.refl o.sb) (.of (.bl _)) h.2⟩⟩
instance sim_notN : SimOp K (fun x y H Q => y = V.non ∧ Q (V.bl (!decide (x = V.non))) H) (dN true) := ⟨fun {W H μ x y tx ty Ψ Q} o dx dy h q =>
  ⟨isN_is dy h.1, by rw [dx.isN]; exact q (Grow.refl o.sb) (.of (.bl _)) h.2⟩⟩
def dTy (neg : Bool) : Mu → T → T → (T → Prop) → Prop := fun _ a b Ψ => match a, b with
  | .ty m, .ty n => Ψ (.bl (nb neg (decide (m = n))))
  | _, _ => False
instance sim_isTy : SimOp K (fun x y H Q => ∃ a b, x = V.ty a ∧ y = V.ty b ∧ Q (V.bl (decide (a = b))) H) (dTy false) := ⟨fun {W H μ x y tx ty Ψ Q} o dx dy h q => by
  unfold dTy at h
  split at h
  · cases dx.tyv; cases dy.tyv
    exact ⟨_, _, rfl, rfl, q (Grow.refl o.sb) (.of (.bl _)) h⟩
  · exact h.elim⟩
instance sim_notTy : SimOp K rNT (dTy true) := ⟨fun {W H μ x y tx ty Ψ Q} o dx dy h q => by
  unfold dTy at h
  split at h
  · cases dx.tyv; cases dy.tyv
    exact ⟨_, _, rfl, rfl, q (Grow.refl o.sb) (.of (.bl _)) h⟩
  · exact h.elim⟩
def T.tys : List T → Option (List String)
  | [] => some []
  | .ty n :: r => (T.tys r).map (n :: ·)
  | _ :: _ => none
theorem tys_is {B : Hp} : ∀ {xs : List V} {l : List T} {ns : List String}, DnAll K B xs l → T.tys l = some ns → xs = ns.map V.ty
  | _, _, _, .nil, e => by cases e; rfl
  | _, _, _, .cons (t := t) d r, e => by
    cases t with
    | ty n =>
      simp only [T.tys, Option.map_eq_some_iff] at e
      obtain ⟨ms, e1, rfl⟩ := e
      cases d
      rw [tys_is r e1]
      rfl
    | _ => cases e
def dInT (neg : Bool) : Mu → T → T → (T → Prop) → Prop := fun _ a b Ψ => match a, b with
  | .ty m, .tup l => ∃ ns, T.tys l = some ns ∧ OfTy m ∧ (∀ n ∈ ns, OfTy n) ∧ Ψ (.bl (nb neg (decide (m ∈ ns))))
  | _, _ => False
instance sim_inT {neg : Bool} : SimOp K (rInT K neg) (dInT neg) := ⟨fun {W H μ x y tx ty Ψ Q} o dx dy h q => by
  unfold dInT at h
  split at h
  · obtain ⟨ns, e, o1, o2, h⟩ := h
    cases dx.tyv
    obtain ⟨p, xs, rfl, sq, da⟩ := view_tup o dy (show view μ (.tup _) = .tup _ from rfl)
    rw [tys_is da e] at sq
    rw [nb_if] at h
    exact ⟨_, p, ns, rfl, rfl, sq, o1, o2, q (Grow.refl o.sb) (.of (.bl _)) h⟩
  · exact h.elim⟩
def T.scs : List T → Option (List V)
  | [] => some []
  | t :: r => t.sc.bind fun v => (T.scs r).map (v :: ·)
theorem scs_is {B : Hp} : ∀ {xs : List V} {l : List T} {ns : List V}, DnAll K B xs l → T.scs l = some ns → xs = ns
  | _, _, _, .nil, e => by cases e; rfl
  | _, _, _, .cons (t := t) d r, e => by
    simp only [T.scs, Option.bind_eq_some_iff, Option.map_eq_some_iff] at e
    obtain ⟨v, e0, ms, e1, rfl⟩ := e
    rw [d.sc e0, scs_is r e1]
theorem sc_flat {t : T} {v : V} (e : t.sc = some v) : flatV v = true := by
  cases t <;> cases e <;> rfl
theorem scs_flat : ∀ {l : List T} {ns : List V}, T.scs l = some ns → ns.all flatV = true
  | [], _, e => by cases e; rfl
  | t :: r, _, e => by
    simp only [T.scs, Option.bind_eq_some_iff, Option.map_eq_some_iff] at e
    obtain ⟨v, e0, ms, e1, rfl⟩ := e
    rw [List.all_cons, sc_flat e0, scs_flat e1]
    rfl
def dIn (neg : Bool) : Mu → T → T → (T → Prop) → Prop := fun μ a b Ψ => ∃ x l ys, a.sc = some x ∧ asSeq μ b = some l ∧ T.scs l = some ys ∧ Ψ (.bl (nb neg (inV x ys)))
instance sim_in {neg : Bool} : SimOp K (rIn K neg) (dIn neg) := ⟨fun {W H μ x y tx ty Ψ Q} o dx dy h q => by
  obtain ⟨v, l, ys, e1, e2, e3, h⟩ := h
  cases dx.sc e1
  obtain ⟨p, xs, rfl, sq, da⟩ := seq_is o dy e2
  cases scs_is da e3
  rw [nb_if] at h
  exact ⟨p, _, rfl, sq, sc_flat e1, scs_flat e3, q (Grow.refl o.sb) (.of (.bl _)) h⟩⟩
def dInS (neg : Bool) : Mu → T → T → (T → Prop) → Prop := fun _ a b Ψ => match a, b with
  | .str x, .str z => ∃ c, x = ⟨#[c]⟩ ∧ Ψ (.bl (nb neg (decide (c ∈ z.cps.toList))))
  | _, _ => False
instance sim_inS : SimOp K (fun x y H Q => ∃ (c : Nat) (z : PySem.Str), x = V.str ⟨#[c]⟩ ∧ y = V.str z ∧ Q (V.bl (decide (c ∈ z.cps.toList))) H) (dInS false) := ⟨fun {W H μ x y tx ty Ψ Q} o dx dy h q => by
  unfold dInS at h
  split at h
  · obtain ⟨c, rfl, h⟩ := h
    cases dx.str.1; cases dy.str.1
    exact ⟨_, _, rfl, rfl, q (Grow.refl o.sb) (.of (.bl _)) h⟩
  · exact h.elim⟩
/-! ### places -/
def dIx : Mu → T → T → (T → Prop) → Prop := fun μ a b Ψ => match b with
  | .int i => ∃ l t, asSeq μ a = some l ∧ atI l i = some t ∧ Ψ t
  | _ => False
theorem atI_get {α : Type} {l : List α} {i : Int} {t : α} (e : atI l i = some t) : ∃ j : Nat, ixN l.length i = some j ∧ l[j]? = some t := Option.bind_eq_some_iff.mp e
theorem DnAll.at_ {B : Hp} {xs : List V} {l : List T} {i : Int} {t : T} (d : DnAll K B xs l) (e : atI l i = some t) : ∃ v, atI xs i = some v ∧ Dn K B v t := by
  obtain ⟨j, e1, e2⟩ := atI_get e
  obtain ⟨v, e3, dv⟩ := d.get e2
  exact ⟨v, by unfold atI; rw [DnAll.length d, e1]; exact e3, dv⟩
def dIxL : Mu → T → T → (T → Prop) → Prop := fun μ a b Ψ => match b with
  | .int i => ∃ l t, view μ a = .lst l ∧ atI l i = some t ∧ Ψ t
  | _ => False
instance sim_ixL : SimOp K (rIxL K) dIxL := ⟨fun {W H μ x y tx ty Ψ Q} o dx dy h q => by
  unfold dIxL at h
  split at h
  · obtain ⟨l, t, e1, e2, h⟩ := h
    cases dy.int
    obtain ⟨p, xs, rfl, sq, da⟩ := view_lst o dx e1
    obtain ⟨v, e3, dv⟩ := da.at_ e2
    exact ⟨p, xs, _, v, rfl, rfl, SqL.of sq, e3, q (Grow.refl o.sb) (.of dv) h⟩
  · exact h.elim⟩
def dIxT : Mu → T → T → (T → Prop) → Prop := fun μ a b Ψ => match b with
  | .int i => ∃ l t, view μ a = .tup l ∧ atI l i = some t ∧ Ψ t
  | _ => False
instance sim_ixT : SimOp K (rIxT K) dIxT := ⟨fun {W H μ x y tx ty Ψ Q} o dx dy h q => by
  unfold dIxT at h
  split at h
  · obtain ⟨l, t, e1, e2, h⟩ := h
    cases dy.int
    obtain ⟨p, xs, rfl, sq, da⟩ := view_tup o dx e1
    obtain ⟨v, e3, dv⟩ := da.at_ e2
    exact ⟨p, xs, _, v, rfl, rfl, sq, e3, q (Grow.refl o.sb) (.of dv) h⟩
  · exact h.elim⟩
def dIxS : Mu → T → T → (T → Prop) → Prop := fun μ a b Ψ => match a, b with
  | .str z, .int i => z.length ≤ 1000000 ∧ ∃ c, atI z.cps.toList i = some c ∧ Ψ (.str ⟨#[c]⟩)
  | _, _ => False
theorem okS.at_ {z : PySem.Str} {i : Int} {c : Nat} (h : okS z) (e : atI z.cps.toList i = some c) : okS ⟨#[c]⟩ := fun d hd => by
  have : d = c := by simpa using hd
  rw [this]
  exact h c (atI_mem e)
instance sim_ixS : SimOp K rIxS dIxS := ⟨fun {W H μ x y tx ty Ψ Q} o dx dy h q => by
  unfold dIxS at h
  split at h
  · obtain ⟨z, c, e, h⟩ := h
    obtain ⟨rfl, k⟩ := dx.str
    cases dy.int
    exact ⟨_, _, c, rfl, rfl, line1 z, e, q (Grow.refl o.sb) (.of (.str (k.at_ e))) h⟩
  · exact h.elim⟩
/-! ### lists, tuples, one behind the other: a new one -/
theorem new_lst {W : Wd} {H : Hp} {μ : Mu} {p : Addr} {xs : List V} {l : List T} (o : Ok K W H μ) (f : H p = none) (d : DnAll K W.B xs l) : ∃ W', Grow W H W' (upd H p (.lst xs)) ∧ Dn K W'.B (.ref p) (.lst l) :=
  ⟨_, Grow.new o.sb _ f, .lst upd_same (d.mono (same_new (o.sb.free f)))⟩
theorem new_tup {W : Wd} {H : Hp} {μ : Mu} {p : Addr} {xs : List V} {l : List T} (o : Ok K W H μ) (f : H p = none) (d : DnAll K W.B xs l) : ∃ W', Grow W H W' (upd H p (.tup xs)) ∧ Dn K W'.B (.ref p) (.tup l) :=
  ⟨_, Grow.new o.sb _ f, .tup (SqT.of upd_same) (d.mono (same_new (o.sb.free f)))⟩
def dCat : Mu → T → T → (T → Prop) → Prop := fun μ a b Ψ => ∃ l m, view μ a = .lst l ∧ view μ b = .lst m ∧ l.length + m.length ≤ 1000000 ∧ Ψ (.lst (l ++ m))
instance sim_cat : SimOp K rCat dCat := ⟨fun {W H μ x y tx ty Ψ Q} o dx dy h q => by
  obtain ⟨l, m, e1, e2, z, h⟩ := h
  obtain ⟨p, xs, rfl, s1, d1⟩ := view_lst o dx e1
  obtain ⟨p2, ys, rfl, s2, d2⟩ := view_lst o dy e2
  refine ⟨p, p2, xs, ys, rfl, rfl, s1, s2, by rw [d1.length, d2.length]; exact line1 z, fun p3 f => ?_⟩
  obtain ⟨W', g, d⟩ := new_lst o f (d1.append d2)
  exact q g (.of d) h⟩
end Dl

set_option maxRecDepth 100000
set_option maxHeartbeats 4000000
namespace Dl
open PySem PySem.Spec PyProof.Rows L2 Gd
variable {K : PySem.W.Frag} {E : XK}
/-! ### truths -/
def rTest (r : DE) : DB := fun ρ xw μ Φ => r ρ xw μ fun t μ' => match t with
  | .bl b => Φ b μ'
  | _ => False
theorem sim_test {t : TE} {r} [a : SimE K E t r] {W : Wd} {H : Hp} {σ : L2.St} {ρ : Rho} {μ : Mu} {xw : XW} {Φ : Bool → Mu → Prop} {Q : Bool → Hp → Prop} (x : Ok K W H μ) (s : Sl K W σ ρ) (n : XL K W xw E) (h : rTest r ρ xw μ Φ)
    (q : ∀ {b W' H' μ'}, W.Le W' → Ok K W' H' μ' → Φ b μ' → Q b H') : t σ H fun y H' => ∃ k, y = .bl k ∧ Q k H' :=
  a.run x s n h fun {v τ W1 H1 μ1} l1 x1 d1 h1 => by
    cases τ with
    | bl b => exact ⟨b, d1.bl, q l1 x1 h1⟩
    | _ => exact h1.elim
instance sim_tTest {t : TE} {r} [a : SimE K E t r] : SimB K E (tTest t) (rTest r) := ⟨fun x s n h q => sim_test x s n h q⟩
instance sim_tB {t : TE} {r} [a : SimE K E t r] : SimB K E (tB t) (rTest r) := ⟨fun x s n h q => sim_test x s n h q⟩
def rAnd (r u : DB) : DB := fun ρ xw μ Φ => r ρ xw μ fun b μ' => if b = true then u ρ xw μ' Φ else Φ false μ'
def rOr (r u : DB) : DB := fun ρ xw μ Φ => r ρ xw μ fun b μ' => if b = true then Φ true μ' else u ρ xw μ' Φ
def rNot (r : DB) : DB := fun ρ xw μ Φ => r ρ xw μ fun b μ' => Φ (!b) μ'
instance sim_and {t u : TT} {r r'} [a : SimB K E t r] [b : SimB K E u r'] : SimB K E (tAnd t u) (rAnd r r') := ⟨fun x s n h q => a.run x s n h fun {b1 W1 H1 μ1} l1 x1 h1 => by
  cases b1 with
  | true => exact iteT (b.run x1 (s.mono l1) (n.mono l1) h1 fun l2 x2 h2 => q (l1.trans l2) x2 h2)
  | false => exact iteF (q l1 x1 h1)⟩
instance sim_or {t u : TT} {r r'} [a : SimB K E t r] [b : SimB K E u r'] : SimB K E (tOr t u) (rOr r r') := ⟨fun x s n h q => a.run x s n h fun {b1 W1 H1 μ1} l1 x1 h1 => by
  cases b1 with
  | false => exact iteF (b.run x1 (s.mono l1) (n.mono l1) h1 fun l2 x2 h2 => q (l1.trans l2) x2 h2)
  | true => exact iteT (q l1 x1 h1)⟩
instance sim_not {t : TT} {r} [a : SimB K E t r] : SimB K E (tNot t) (rNot r) := ⟨fun x s n h q => a.run x s n h fun l1 x1 h1 => q l1 x1 h1⟩
def rAndV (r u : DE) : DE := fun ρ xw μ Φ => r ρ xw μ fun t μ' => match t with
  | .bl b => if b = true then u ρ xw μ' Φ else Φ (.bl false) μ'
  | _ => False
def rOrV (r u : DE) : DE := fun ρ xw μ Φ => r ρ xw μ fun t μ' => match t with
  | .bl b => if b = true then Φ (.bl true) μ' else u ρ xw μ' Φ
  | _ => False
def rNotV (r : DE) : DE := fun ρ xw μ Φ => r ρ xw μ fun t μ' => match t with
  | .bl b => Φ (.bl !b) μ'
  | _ => False
instance sim_andV {t u : TE} {r r'} [a : SimE K E t r] [b : SimE K E u r'] : SimE K E (tAndV t u) (rAndV r r') := ⟨fun x s n h q => a.run x s n h fun {v τ W1 H1 μ1} l1 x1 d1 h1 => by
  cases τ with
  | bl b1 =>
    refine ⟨b1, d1.bl, ?_⟩
    cases b1 with
    | true => exact iteT (b.run x1 (s.mono l1) (n.mono l1) h1 fun l2 x2 d2 h2 => q (l1.trans l2) x2 d2 h2)
    | false => exact iteF (q l1 x1 (.of (.bl _)) h1)
  | _ => exact h1.elim⟩
instance sim_orV {t u : TE} {r r'} [a : SimE K E t r] [b : SimE K E u r'] : SimE K E (tOrV t u) (rOrV r r') := ⟨fun x s n h q => a.run x s n h fun {v τ W1 H1 μ1} l1 x1 d1 h1 => by
  cases τ with
  | bl b1 =>
    refine ⟨b1, d1.bl, ?_⟩
    cases b1 with
    | false => exact iteF (b.run x1 (s.mono l1) (n.mono l1) h1 fun l2 x2 d2 h2 => q (l1.trans l2) x2 d2 h2)
    | true => exact iteT (q l1 x1 (.of (.bl _)) h1)
  | _ => exact h1.elim⟩
instance sim_notV {t : TE} {r} [a : SimE K E t r] : SimE K E (tNotV t) (rNotV r) := ⟨fun x s n h q => a.run x s n h fun {v τ W1 H1 μ1} l1 x1 d1 h1 => by
  cases τ with
  | bl b1 => exact ⟨b1, d1.bl, q l1 x1 (.of (.bl _)) h1⟩
  | _ => exact h1.elim⟩
def rIf (c : DB) (r u : DE) : DE := fun ρ xw μ Φ => c ρ xw μ fun b μ' => if b = true then r ρ xw μ' Φ else u ρ xw μ' Φ
instance sim_if {c : TT} {t u : TE} {rc r r'} [cc : SimB K E c rc] [a : SimE K E t r] [b : SimE K E u r'] : SimE K E (tIf c t u) (rIf rc r r') := ⟨fun x s n h q => cc.run x s n h fun {b1 W1 H1 μ1} l1 x1 h1 => by
  cases b1 with
  | true => exact iteT (a.run x1 (s.mono l1) (n.mono l1) h1 fun l2 x2 d2 h2 => q (l1.trans l2) x2 d2 h2)
  | false => exact iteF (b.run x1 (s.mono l1) (n.mono l1) h1 fun l2 x2 d2 h2 => q (l1.trans l2) x2 d2 h2)⟩
def rChain (d d' : Mu → T → T → (T → Prop) → Prop) (ra rb rc : DE) : DE := fun ρ xw μ Φ => ra ρ xw μ fun a μ1 => rb ρ xw μ1 fun b μ2 => d μ2 a b fun z => match z with
  | .bl k => if k = true then rc ρ xw μ2 fun c μ3 => d' μ3 b c fun z => Φ z μ3 else Φ (.bl false) μ2
  | _ => False
instance sim_chain {r r' : R2} {ta tb tc : TE} {d d' ra rb rc} [o : SimOp K r d] [o' : SimOp K r' d'] [a : SimE K E ta ra] [b : SimE K E tb rb] [c : SimE K E tc rc] : SimE K E (tChain r r' ta tb tc) (rChain d d' ra rb rc) := ⟨fun {W H σ ρ μ xw Φ Q} x s n h q =>
  a.run x s n h fun {v τ W1 H1 μ1} l1 x1 d1 h1 => b.run x1 (s.mono l1) (n.mono l1) h1 fun {v2 τ2 W2 H2 μ2} l2 x2 d2 h2 => o.run x2 (d1.mono l2) d2 h2 fun {v3 τ3 W3 H3} g d3 h3 => by
    have l3 := (l1.trans l2).trans (g.le x2)
    cases τ3 with
    | bl k =>
      refine ⟨k, d3.bl, ?_⟩
      cases k with
      | true => exact iteT (c.run (g.ok x2) (s.mono l3) (n.mono l3) h3 fun {v4 τ4 W4 H4 μ4} l4 x4 d4 h4 => o'.run x4 ((d2.mono (g.le x2)).mono l4) d4 h4 fun g5 d5 h5 => q ((l3.trans l4).trans (g5.le x4)) (g5.ok x4) d5 h5)
      | false => exact iteF (q l3 (g.ok x2) (.of (.bl _)) h3)
    | _ => exact h3.elim⟩
/-- what a value's truth is -/
def T.tru (μ : Mu) (t : T) : Option Bool := match view μ t with
  | .bl b => some b
  | .int i => some (i != 0)
  | .str z => some ((z.length : Int) != 0)
  | .lst l => some !l.isEmpty
  | .tup l => some !l.isEmpty
  | .non => some false
  | _ => none
/-! ### arguments -/
def rNil : DA := fun _ _ μ Φ => Φ [] μ
def rCons (r : DE) (ra : DA) : DA := fun ρ xw μ Φ => r ρ xw μ fun t μ1 => ra ρ xw μ1 fun ts μ2 => Φ (t :: ts) μ2
instance sim_nil : SimA K E tNil rNil := ⟨fun x _ _ h q => q Wd.Le.refl x .nil h⟩
instance sim_cons {t : TE} {ta : TA} {r ra} [a : SimE K E t r] [b : SimA K E ta ra] : SimA K E (tCons t ta) (rCons r ra) := ⟨fun x s n h q =>
  a.run x s n h fun l1 x1 d1 h1 => b.run x1 (s.mono l1) (n.mono l1) h1 fun l2 x2 d2 h2 => q (l1.trans l2) x2 (.cons (d1.mono l2) d2) h2⟩
/-- data alone -/
def T.flat : T → Bool
  | .rs _ => false
  | _ => true
def flats : List T → Bool
  | [] => true
  | t :: r => t.flat && flats r
theorem flat_dn {W : Wd} {v : V} {t : T} (d : Dv K W v t) (h : t.flat = true) : Dn K W.B v t := by
  cases t with
  | rs k => cases h
  | _ => exact d
theorem flats_dn {W : Wd} : ∀ {vs : List V} {ts : List T}, DvAll K W vs ts → flats ts = true → DnAll K W.B vs ts
  | _, _, .nil, _ => .nil
  | _, _, .cons d r, h => by
    simp only [flats, Bool.and_eq_true] at h
    exact .cons (flat_dn d h.1) (flats_dn r h.2)
/-! ### displays -/
def rTup (ra : DA) : DE := fun ρ xw μ Φ => ra ρ xw μ fun ts μ' => flats ts = true ∧ ts.length ≤ 1000000 ∧ Φ (.tup ts) μ'
instance sim_tup {ta : TA} {ra} [a : SimA K E ta ra] : SimE K E (tTup ta) (rTup ra) := ⟨fun x s n h q => a.run x s n h fun {vs τs W1 H1 μ1} l1 x1 d1 h1 => by
  have dn := flats_dn d1 h1.1
  refine ⟨by rw [dn.length]; exact line1 h1.2.1, fun p f => ?_⟩
  obtain ⟨W', g, d⟩ := new_tup x1 f dn
  exact q (l1.trans (g.le x1)) (g.ok x1) (.of d) h1.2.2⟩
/-- a list that is new: known to none -/
structure Fr (K : PySem.W.Frag) (W : Wd) (H : Hp) (p : Addr) (xs : List V) (l : List T) : Prop where
  b : W.B p = none
  g : W.G p = none
  o : W.own p = none
  h : H p = some (.lst xs)
  d : DnAll K W.B xs l
theorem Fr.froz {W : Wd} {H : Hp} {μ : Mu} {p : Addr} {xs : List V} {l : List T} (x : Ok K W H μ) (f : Fr K W H p xs l) : ∃ W', W.Le W' ∧ Ok K W' H μ ∧ Dn K W'.B (.ref p) (.lst l) := by
  have sB : Same W.B (upd W.B p (.lst xs)) := same_new f.b
  refine ⟨{ W with B := upd W.B p (.lst xs) }, ⟨rfl, sB, fun a u e => ?_, fun _ _ e => e⟩, ⟨x.sg, fun a u e => ?_, fun a k e => ?_, x.len, fun k r e => ?_⟩, .lst upd_same (f.d.mono sB)⟩
  · by_cases z : a = p
    · subst z
      exact .inr f.g
    · exact .inl ((upd_ne z).symm.trans e)
  · by_cases z : a = p
    · subst z
      have e : upd W.B a (.lst xs) a = some u := e
      rw [upd_same] at e
      cases e
      exact f.h
    · exact x.sb _ _ ((upd_ne z).symm.trans e)
  · obtain ⟨a1, a2, a3, a4⟩ := x.lab a k e
    refine ⟨?_, a2, a3, a4⟩
    have z : a ≠ p := fun z => by
      subst z
      rw [show W.own a = none from f.o] at e
      cases e
    exact (upd_ne z).trans a1
  · obtain ⟨p1, e1, r1⟩ := x.res k r e
    exact ⟨p1, e1, ResOk.mono (W := W) sB (fun _ _ q => q) (fun _ _ _ q => q) r1⟩
theorem Fr.keep {W : Wd} {H : Hp} {μ : Mu} {p : Addr} {xs : List V} {l : List T} (x : Ok K W H μ) (f : Fr K W H p xs l) : ∃ W', W.Le W' ∧ Ok K W' H (μ ++ [.lst l]) ∧ Dv K W' (.ref p) (.rs μ.length) := by
  obtain ⟨a, b⟩ := x.put f.b f.g f.o (by rw [f.h]; exact fun z => by cases z) f.h f.d
  refine ⟨_, b, a, p, ?_, rfl⟩
  show (W.ad ++ [p])[μ.length]? = _
  rw [← x.len]
  simp
/-- just laid -/
theorem Fr.new {W : Wd} {H : Hp} {μ : Mu} {p : Addr} {xs : List V} {l : List T} (x : Ok K W H μ) (f : H p = none) (d : DnAll K W.B xs l) : Ok K W (upd H p (.lst xs)) μ ∧ Fr K W (upd H p (.lst xs)) p xs l := by
  refine ⟨(Grow.side x.sb _ f).ok x, x.sb.free f, x.sg.free f, ?_, upd_same, d⟩
  cases e : W.own p with
  | none => rfl
  | some k => exact absurd f (x.lab p k e).2.2.1
abbrev DL := Rho → XW → Mu → (List T → Mu → Prop) → Prop
class SimL (K : PySem.W.Frag) (E : XK) (t : TE) (r : outParam DL) : Prop where
  run : ∀ {W : Wd} {H : Hp} {σ : L2.St} {ρ : Rho} {μ : Mu} {xw : XW} {Φ : List T → Mu → Prop} {Q : VK}, Ok K W H μ → Sl K W σ ρ → XL K W xw E → r ρ xw μ Φ →
    (∀ {p xs l W' H' μ'}, W.Le W' → Ok K W' H' μ' → Fr K W' H' p xs l → Φ l μ' → Q (.ref p) H') → t σ H Q
def rFroz (r : DL) : DE := fun ρ xw μ Φ => r ρ xw μ fun l μ' => Φ (.lst l) μ'
instance (priority := 50) sim_froz {t : TE} {r} [a : SimL K E t r] : SimE K E t (rFroz r) := ⟨fun x s n h q => a.run x s n h fun l1 x1 f h1 => by
  obtain ⟨W', l2, x2, d⟩ := f.froz x1
  exact q (l1.trans l2) x2 (.of d) h1⟩
/-- the list may be changed later -/
def tKeep (t : TE) : TE := t
def rKeep (r : DL) : DE := fun ρ xw μ Φ => r ρ xw μ fun l μ' => Φ (.rs μ'.length) (μ' ++ [.lst l])
instance sim_keep {t : TE} {r} [a : SimL K E t r] : SimE K E (tKeep t) (rKeep r) := ⟨fun x s n h q => a.run (t := t) x s n h fun l1 x1 f h1 => by
  obtain ⟨W', l2, x2, d⟩ := f.keep x1
  exact q (l1.trans l2) x2 d h1⟩
theorem pe_keep {X : Cx} {e : Expr} {t : TE} (h : PE X e t) : PE X e (tKeep t) := h
def rLst (ra : DA) : DL := fun ρ xw μ Φ => ra ρ xw μ fun ts μ' => flats ts = true ∧ ts.length ≤ 1000000 ∧ Φ ts μ'
instance sim_lst {ta : TA} {ra} [a : SimA K E ta ra] : SimL K E (tLst ta) (rLst ra) := ⟨fun x s n h q => a.run x s n h fun {vs τs W1 H1 μ1} l1 x1 d1 h1 => by
  have dn := flats_dn d1 h1.1
  refine ⟨by rw [dn.length]; exact line1 h1.2.1, fun p f => ?_⟩
  obtain ⟨x2, fr⟩ := Fr.new x1 f dn
  exact q l1 x2 fr h1.2.2⟩
/-- a + b of lists, kept -/
class SimOpL (K : PySem.W.Frag) (r : R2) (d : outParam (Mu → T → T → (List T → Prop) → Prop)) : Prop where
  run : ∀ {W : Wd} {H : Hp} {μ : Mu} {x y : V} {tx ty : T} {Ψ : List T → Prop} {Q : VK}, Ok K W H μ → Dv K W x tx → Dv K W y ty → d μ tx ty Ψ → (∀ {p xs l H'}, Ok K W H' μ → Fr K W H' p xs l → Ψ l → Q (.ref p) H') → r x y H Q
def rOpL (d : Mu → T → T → (List T → Prop) → Prop) (ra rb : DE) : DL := fun ρ xw μ Φ => ra ρ xw μ fun a μ1 => rb ρ xw μ1 fun b μ2 => d μ2 a b fun z => Φ z μ2
instance sim_opL {r : R2} {ta tb : TE} {d ra rb} [o : SimOpL K r d] [a : SimE K E ta ra] [b : SimE K E tb rb] : SimL K E (tOp r ta tb) (rOpL d ra rb) := ⟨fun {W H σ ρ μ xw Φ Q} x s n h q =>
  a.run x s n h fun {v τ W1 H1 μ1} l1 x1 d1 h1 => b.run x1 (s.mono l1) (n.mono l1) h1 fun {v2 τ2 W2 H2 μ2} l2 x2 d2 h2 => o.run x2 (d1.mono l2) d2 h2 fun x3 f h3 => q (l1.trans l2) x3 f h3⟩
def dCatL : Mu → T → T → (List T → Prop) → Prop := fun μ a b Ψ => ∃ l m, view μ a = .lst l ∧ view μ b = .lst m ∧ l.length + m.length ≤ 1000000 ∧ Ψ (l ++ m)
instance sim_catL : SimOpL K rCat dCatL := ⟨fun {W H μ x y tx ty Ψ Q} o dx dy h q => by
  obtain ⟨l, m, e1, e2, z, h⟩ := h
  obtain ⟨p, xs, rfl, s1, d1⟩ := view_lst o dx e1
  obtain ⟨p2, ys, rfl, s2, d2⟩ := view_lst o dy e2
  refine ⟨p, p2, xs, ys, rfl, rfl, s1, s2, by rw [d1.length, d2.length]; exact line1 z, fun p3 f => ?_⟩
  obtain ⟨x2, fr⟩ := Fr.new o f (d1.append d2)
  exact q x2 fr h⟩
/-! ### slices -/
abbrev DO := Rho → XW → Mu → (Option Int → Mu → Prop) → Prop
class SimO (K : PySem.W.Frag) (E : XK) (t : TO) (r : outParam DO) : Prop where
  run : ∀ {W : Wd} {H : Hp} {σ : L2.St} {ρ : Rho} {μ : Mu} {xw : XW} {Φ : Option Int → Mu → Prop} {Q : Option Int → Hp → Prop}, Ok K W H μ → Sl K W σ ρ → XL K W xw E → r ρ xw μ Φ →
    (∀ {o W' H' μ'}, W.Le W' → Ok K W' H' μ' → Φ o μ' → Q o H') → t σ H Q
def rNoPart : DO := fun _ _ μ Φ => Φ none μ
def rPart (r : DE) : DO := fun ρ xw μ Φ => r ρ xw μ fun t μ' => match t with
  | .int i => Φ (some i) μ'
  | _ => False
instance sim_noPart : SimO K E tNoPart rNoPart := ⟨fun x _ _ h q => q Wd.Le.refl x h⟩
instance sim_part {t : TE} {r} [a : SimE K E t r] : SimO K E (tPart t) (rPart r) := ⟨fun x s n h q => a.run x s n h fun {v τ W1 H1 μ1} l1 x1 d1 h1 => by
  cases τ with
  | int i => exact ⟨i, d1.int, q l1 x1 h1⟩
  | _ => exact h1.elim⟩
def cutT {α : Type} (xs : List α) (lo hi : Option Int) : List α := (xs.drop (HT.sIx xs.length 0 lo)).take (HT.sIx xs.length xs.length hi - HT.sIx xs.length 0 lo)
theorem DnAll.cut {B : Hp} {xs : List V} {l : List T} (d : DnAll K B xs l) (lo hi : Option Int) : DnAll K B (cutV xs lo hi) (cutT l lo hi) := by
  unfold cutV cutT
  rw [d.length]
  exact (d.drop _).take _
def rSlcL (r : DE) (rl rh : DO) : DL := fun ρ xw μ Φ => r ρ xw μ fun t μ1 => rl ρ xw μ1 fun lo μ2 => rh ρ xw μ2 fun hi μ3 => ∃ l, view μ3 t = .lst l ∧ Φ (cutT l lo hi) μ3
instance sim_slL {t : TE} {tl th : TO} {r rl rh} [a : SimE K E t r] [b : SimO K E tl rl] [c : SimO K E th rh] : SimL K E (tSl (rSlL K) t tl th) (rSlcL r rl rh) := ⟨fun x s n h q => a.run x s n h fun l1 x1 d1 h1 => b.run x1 (s.mono l1) (n.mono l1) h1 fun l2 x2 h2 =>
  c.run x2 (s.mono (l1.trans l2)) (n.mono (l1.trans l2)) h2 fun l3 x3 h3 => by
    obtain ⟨l, e, h3⟩ := h3
    obtain ⟨p, xs, rfl, s1, da⟩ := view_lst x3 ((d1.mono l2).mono l3) e
    refine ⟨p, xs, rfl, SqL.of s1, fun p2 f => ?_⟩
    obtain ⟨x4, fr⟩ := Fr.new x3 f (da.cut _ _)
    exact q ((l1.trans l2).trans l3) x4 fr h3⟩
theorem view_tup_eq {μ : Mu} {t : T} {l : List T} (e : view μ t = .tup l) : t = .tup l := by
  cases t with
  | rs k =>
    have e : seeR μ k = .tup l := e
    unfold seeR at e
    split at e <;> cases e
  | _ => exact e
def rSlcT (r : DE) (rl rh : DO) : DE := fun ρ xw μ Φ => r ρ xw μ fun t μ1 => rl ρ xw μ1 fun lo μ2 => rh ρ xw μ2 fun hi μ3 => ∃ l, view μ3 t = .tup l ∧ Φ (.tup (cutT l lo hi)) μ3
theorem cut_whole {α : Type} {l : List α} {lo hi : Option Int} (h : HT.sIx l.length 0 lo = 0 ∧ HT.sIx l.length l.length hi = l.length) : cutT l lo hi = l := by
  unfold cutT
  rw [h.1, h.2, List.drop_zero, Nat.sub_zero, List.take_length]
instance sim_slT {t : TE} {tl th : TO} {r rl rh} [a : SimE K E t r] [b : SimO K E tl rl] [c : SimO K E th rh] : SimE K E (tSl (rSlA K) t tl th) (rSlcT r rl rh) := ⟨fun x s n h q => a.run x s n h fun l1 x1 d1 h1 => b.run x1 (s.mono l1) (n.mono l1) h1 fun l2 x2 h2 =>
  c.run x2 (s.mono (l1.trans l2)) (n.mono (l1.trans l2)) h2 fun {hi W3 H3 μ3} l3 x3 h3 => by
    obtain ⟨l, e, h3⟩ := h3
    obtain ⟨p, xs, rfl, s1, da⟩ := view_tup x3 ((d1.mono l2).mono l3) e
    refine ⟨p, xs, rfl, s1, fun w => ?_, fun w p2 f => ?_⟩
    · rw [da.length] at w
      rw [cut_whole w] at h3
      have dn := (d1.mono l2).mono l3
      rw [view_tup_eq e] at dn
      exact q ((l1.trans l2).trans l3) x3 dn h3
    · obtain ⟨W', g, d⟩ := new_tup x3 f (da.cut _ _)
      exact q (((l1.trans l2).trans l3).trans (g.le x3)) (g.ok x3) (.of d) h3⟩
def rSlcS (r : DE) (rl rh : DO) : DE := fun ρ xw μ Φ => r ρ xw μ fun t μ1 => rl ρ xw μ1 fun lo μ2 => rh ρ xw μ2 fun hi μ3 => match t with
  | .str z => z.length ≤ 1000000 ∧ Φ (.str (cutS z lo hi)) μ3
  | _ => False
theorem okS.cut {z : PySem.Str} (h : okS z) (lo hi : Option Int) : okS (cutS z lo hi) := fun c hc => by
  have e : (cutS z lo hi).cps.toList = (z.cps.toList.drop (HT.sIx z.length 0 lo)).take (HT.sIx z.length z.length hi - HT.sIx z.length 0 lo) := by
    show (List.toArray _).toList = _
    rw [List.toList_toArray]
  rw [e] at hc
  exact h c (List.mem_of_mem_drop (List.mem_of_mem_take hc))
instance sim_slS {t : TE} {tl th : TO} {r rl rh} [a : SimE K E t r] [b : SimO K E tl rl] [c : SimO K E th rh] : SimE K E (tSl rSlS t tl th) (rSlcS r rl rh) := ⟨fun x s n h q => a.run x s n h fun {v τ W1 H1 μ1} l1 x1 d1 h1 => b.run x1 (s.mono l1) (n.mono l1) h1 fun l2 x2 h2 =>
  c.run x2 (s.mono (l1.trans l2)) (n.mono (l1.trans l2)) h2 fun {hi W3 H3 μ3} l3 x3 h3 => by
    cases τ with
    | str z => exact ⟨z, d1.str.1, line1 h3.1, q ((l1.trans l2).trans l3) x3 (.of (.str (d1.str.2.cut _ _))) h3.2⟩
    | _ => exact h3.elim⟩
/-! ### fields -/
def rFld (r : DE) (f : PySem.Str) : DE := fun ρ xw μ Φ => r ρ xw μ fun t μ' => match view μ' t with
  | .obj _ fs => match fs.lookup f with
    | some s => Φ s μ'
    | none => False
  | _ => False
theorem lookup_mem {fs : List (PySem.Str × T)} {f : PySem.Str} {s : T} (e : fs.lookup f = some s) : f ∈ fs.map (·.1) := by
  induction fs with
  | nil => cases e
  | cons a l ih =>
    by_cases h : f = a.1
    · simp [h]
    · have hb : (f == a.1) = false := by simpa using h
      simp only [List.lookup, hb] at e
      simp only [List.map_cons, List.mem_cons]
      exact .inr (ih e)
/-- an object as it stands -/
theorem view_obj {W : Wd} {H : Hp} {μ : Mu} {v : V} {t : T} {C : Addr} {fs : List (PySem.Str × T)} (x : Ok K W H μ) (d : Dv K W v t) (e : view μ t = .obj C fs) : ∃ p dx vs, v = .ref p ∧ H p = some (.ins C dx vs) ∧ DnF K W.B vs fs ∧ COk K C (fs.map (·.1)) := by
  rcases d.dn with ⟨k, p, rfl, e1, rfl⟩ | d
  · have e : seeR μ k = .obj C fs := e
    unfold seeR at e
    split at e
    · cases e
    · rename_i C2 fs2 e2
      obtain ⟨p1, e3, r⟩ := x.res k _ e2
      rw [e1] at e3
      cases e3
      obtain ⟨_, dx, vs, _, e4, _, d4, c⟩ := r
      cases e
      exact ⟨_, _, _, rfl, e4, d4, c⟩
    · cases e
  · cases t with
    | rs k => cases d
    | obj C2 fs2 =>
      cases e
      cases d with
      | obj e c d => exact ⟨_, _, _, rfl, x.sb _ _ e, d, c⟩
    | _ => cases e
instance sim_fld {t : TE} {r} {f : PySem.Str} [a : SimE K E t r] : SimE K E (tFld K t f) (rFld r f) := ⟨fun x s n h q => a.run x s n h fun {v τ W1 H1 μ1} l1 x1 d1 h1 => by
  split at h1
  · rename_i C fs e
    split at h1
    · rename_i s2 e2
      obtain ⟨p, dx, vs, rfl, e3, d3, c⟩ := view_obj x1 d1 e
      obtain ⟨v2, e4, d4⟩ := d3.look e2
      exact ⟨p, C, dx, vs, v2, rfl, e3, c.cl, c.no _ (lookup_mem e2), e4, q l1 x1 (.of d4) h1⟩
    · exact h1.elim
  · exact h1.elim⟩
end Dl

set_option maxRecDepth 100000
set_option maxHeartbeats 4000000
namespace Dl
open PySem PySem.Spec PyProof.Rows L2 Gd
variable {K : PySem.W.Frag} {E : XK}
/-! ### built-in functions -/
class SimC (K : PySem.W.Frag) (r : List V → Hp → VK → Prop) (d : outParam (Mu → List T → (T → Prop) → Prop)) : Prop where
  run : ∀ {W : Wd} {H : Hp} {μ : Mu} {vs : List V} {ts : List T} {Ψ : T → Prop} {Q : VK}, Ok K W H μ → DvAll K W vs ts → d μ ts Ψ → (∀ {v τ W' H'}, Grow W H W' H' → Dv K W' v τ → Ψ τ → Q v H') → r vs H Q
def rCB (d : Mu → List T → (T → Prop) → Prop) (ra : DA) : DE := fun ρ xw μ Φ => ra ρ xw μ fun ts μ' => d μ' ts fun z => Φ z μ'
instance sim_cb {r : List V → Hp → VK → Prop} {t : TA} {d ra} [o : SimC K r d] [a : SimA K E t ra] : SimE K E (tCB r t) (rCB d ra) := ⟨fun x s n h q => a.run x s n h fun l1 x1 d1 h1 => o.run x1 d1 h1 fun g d2 h2 => q (l1.trans (g.le x1)) (g.ok x1) d2 h2⟩
def d1 (f : Mu → T → (T → Prop) → Prop) : Mu → List T → (T → Prop) → Prop := fun μ ts Ψ => match ts with
  | [t] => f μ t Ψ
  | _ => False
theorem one_dv {W : Wd} {vs : List V} {t : T} (d : DvAll K W vs [t]) : ∃ v, vs = [v] ∧ Dv K W v t := by
  cases d with
  | cons a b => cases b; exact ⟨_, rfl, a⟩
theorem two_dv {W : Wd} {vs : List V} {t u : T} (d : DvAll K W vs [t, u]) : ∃ v w, vs = [v, w] ∧ Dv K W v t ∧ Dv K W w u := by
  cases d with
  | cons a b => cases b with
    | cons c e => cases e; exact ⟨_, _, rfl, a, c⟩
theorem sim_1 {r : List V → Hp → VK → Prop} {f : Mu → T → (T → Prop) → Prop} (h : ∀ {W : Wd} {H : Hp} {μ : Mu} {v : V} {t : T} {Ψ : T → Prop} {Q : VK}, Ok K W H μ → Dv K W v t → f μ t Ψ → (∀ {v τ W' H'}, Grow W H W' H' → Dv K W' v τ → Ψ τ → Q v H') → r [v] H Q) : SimC K r (d1 f) := ⟨fun {W H μ vs ts Ψ Q} x d e q => by
  unfold d1 at e
  split at e
  · obtain ⟨v, rfl, dv⟩ := one_dv d
    exact h x dv e q
  · exact e.elim⟩
def fLenS : Mu → T → (T → Prop) → Prop := fun _ t Ψ => match t with
  | .str z => z.length ≤ 1000000 ∧ Ψ (.int z.length)
  | _ => False
instance sim_lenS : SimC K (fun xs H Q => ∃ z, xs = [V.str z] ∧ z.length ≤ sizeLine ∧ Q (V.int z.length) H) (d1 fLenS) := sim_1 fun {W H μ v t Ψ Q} x d e q => by
  cases t with
  | str z => exact ⟨z, by rw [d.str.1], line1 e.1, q (Grow.refl x.sb) (.of (.int _)) e.2⟩
  | _ => exact e.elim
def fLenQ : Mu → T → (T → Prop) → Prop := fun μ t Ψ => match view μ t with
  | .lst l => Ψ (.int l.length)
  | .tup l => Ψ (.int l.length)
  | _ => False
theorem sim_lenq : SimC K (fun xs H Q => ∃ p ys, xs = [V.ref p] ∧ (SqL K H p ys ∨ SqT K H p ys) ∧ Q (V.int (ys.length : Nat)) H) (d1 fLenQ) := sim_1 fun {W H μ v t Ψ Q} x d e q => by
  unfold fLenQ at e
  split at e
  · rename_i l e1
    obtain ⟨p, xs, rfl, s, da⟩ := view_lst x d e1
    exact ⟨p, xs, rfl, .inl (SqL.of s), q (Grow.refl x.sb) (.of (.int _)) (by rw [da.length]; exact e)⟩
  · rename_i l e1
    obtain ⟨p, xs, rfl, s, da⟩ := view_tup x d e1
    exact ⟨p, xs, rfl, .inr s, q (Grow.refl x.sb) (.of (.int _)) (by rw [da.length]; exact e)⟩
  · exact e.elim
instance sim_lenQ : SimC K (fun xs H Q => ∃ p ys, xs = [V.ref p] ∧ (SqL K H p ys ∨ SqT K H p ys) ∧ Q (V.int (ys.length : Nat)) H) (d1 fLenQ) := sim_lenq
instance sim_lenK : SimC K (rLenK K) (d1 fLenQ) := sim_lenq
/-- of which built-in type -/
def T.tyn : T → Option String
  | .non => some "NoneType"
  | .bl _ => some "bool"
  | .int _ => some "int"
  | .str _ => some "str"
  | .lst _ => some "list"
  | .tup _ => some "tuple"
  | .far _ n => some n
  | _ => none
theorem Dn.tyB {H : Hp} {v : V} {t : T} {n : String} (d : Dn K H v t) (e : t.tyn = some n) : TyB K H v n := by
  cases d with
  | non => cases e; exact .non
  | bl b => cases e; exact .bl b
  | int i => cases e; exact .int i
  | str t => cases e; exact .str _
  | lst a b => cases e; exact .lst (SqL.of a)
  | tup a b => cases e; exact .tup a
  | far o => cases e; exact o.ty
  | _ => cases e
def fTyp : Mu → T → (T → Prop) → Prop := fun μ t Ψ => match (view μ t).tyn with
  | some n => Ψ (.ty n)
  | none => False
theorem tyn_rs {t : T} {n : String} (e : t.tyn = some n) : ∀ k, t ≠ .rs k := fun k z => by
  subst z
  cases e
instance sim_typ : SimC K (rTyp K) (d1 fTyp) := sim_1 fun {W H μ v t Ψ Q} x d e q => by
  unfold fTyp at e
  split at e
  · rename_i n e1
    exact ⟨v, n, rfl, (view_dn x d rfl (tyn_rs e1)).tyB e1, q (Grow.refl x.sb) (.of (.ty _)) e⟩
  · exact e.elim
def T.bls : List T → Option (List Bool)
  | [] => some []
  | .bl b :: r => (T.bls r).map (b :: ·)
  | _ :: _ => none
theorem bls_is {B : Hp} : ∀ {xs : List V} {l : List T} {ns : List Bool}, DnAll K B xs l → T.bls l = some ns → xs = ns.map V.bl
  | _, _, _, .nil, e => by cases e; rfl
  | _, _, _, .cons (t := t) d r, e => by
    cases t with
    | bl n =>
      simp only [T.bls, Option.map_eq_some_iff] at e
      obtain ⟨ms, e1, rfl⟩ := e
      cases d
      rw [bls_is r e1]
      rfl
    | _ => cases e
theorem bls_map (bs : List Bool) : T.bls (bs.map T.bl) = some bs := by
  induction bs with
  | nil => rfl
  | cons b r ih => simp [T.bls, ih]
def fAll (all : Bool) : Mu → T → (T → Prop) → Prop := fun μ t Ψ => ∃ l bs, view μ t = .lst l ∧ T.bls l = some bs ∧ Ψ (.bl (match all with | true => bs.all id | false => bs.any id))
instance sim_all : SimC K (rAll K) (d1 (fAll true)) := sim_1 fun {W H μ v t Ψ Q} x d e q => by
  obtain ⟨l, bs, e1, e2, e⟩ := e
  obtain ⟨p, xs, rfl, s, da⟩ := view_lst x d e1
  rw [bls_is da e2] at s
  exact ⟨p, bs, rfl, SqL.of s, q (Grow.refl x.sb) (.of (.bl _)) e⟩
instance sim_any : SimC K (rAny K) (d1 (fAll false)) := sim_1 fun {W H μ v t Ψ Q} x d e q => by
  obtain ⟨l, bs, e1, e2, e⟩ := e
  obtain ⟨p, xs, rfl, s, da⟩ := view_lst x d e1
  rw [bls_is da e2] at s
  exact ⟨p, bs, rfl, SqL.of s, q (Grow.refl x.sb) (.of (.bl _)) e⟩
def T.ints : List T → Option (List Int)
  | [] => some []
  | .int b :: r => (T.ints r).map (b :: ·)
  | _ :: _ => none
theorem ints_is {B : Hp} : ∀ {xs : List V} {l : List T} {ns : List Int}, DnAll K B xs l → T.ints l = some ns → xs = ns.map V.int
  | _, _, _, .nil, e => by cases e; rfl
  | _, _, _, .cons (t := t) d r, e => by
    cases t with
    | int n =>
      simp only [T.ints, Option.map_eq_some_iff] at e
      obtain ⟨ms, e1, rfl⟩ := e
      cases d
      rw [ints_is r e1]
      rfl
    | _ => cases e
theorem ints_map (bs : List Int) : T.ints (bs.map T.int) = some bs := by
  induction bs with
  | nil => rfl
  | cons b r ih => simp [T.ints, ih]
def fSum : Mu → T → (T → Prop) → Prop := fun μ t Ψ => ∃ l bs, view μ t = .lst l ∧ T.ints l = some bs ∧ Ψ (.int bs.sum)
instance sim_sum : SimC K (rSum K) (d1 fSum) := sim_1 fun {W H μ v t Ψ Q} x d e q => by
  obtain ⟨l, bs, e1, e2, e⟩ := e
  obtain ⟨p, xs, rfl, s, da⟩ := view_lst x d e1
  rw [ints_is da e2] at s
  exact ⟨p, bs, rfl, SqL.of s, q (Grow.refl x.sb) (.of (.int _)) e⟩
def fStrI : Mu → T → (T → Prop) → Prop := fun _ t Ψ => match t with
  | .int i => 0 ≤ i ∧ i.natAbs.log2 < 1920 ∧ Ψ (.str (toString i))
  | _ => False
theorem okS_int {i : Int} (h : 0 ≤ i) : okS (PySem.Str.ofString (toString i)) := by
  obtain ⟨n, rfl⟩ := Int.eq_ofNat_of_zero_le h
  intro c hc
  have e : (PySem.Str.ofString (toString (n : Int))).cps.toList = TL.numL n := TL.tl_num n
  rw [e] at hc
  have := TL.numL_digits n c hc
  omega
instance sim_strI : SimC K (fun xs H Q => ∃ i, xs = [V.int i] ∧ i.natAbs.log2 < 1920 ∧ Q (V.str (toString i)) H) (d1 fStrI) := sim_1 fun {W H μ v t Ψ Q} x d e q => by
  cases t with
  | int i => exact ⟨i, by rw [d.int], e.2.1, q (Grow.refl x.sb) (.of (.str (okS_int e.1))) e.2.2⟩
  | _ => exact e.elim
def dII (f : Int → Int → Int) : Mu → List T → (T → Prop) → Prop := fun _ ts Ψ => match ts with
  | [.int i, .int j] => Ψ (.int (f i j))
  | _ => False
instance sim_cII {f : Int → Int → Int} : SimC K (fun xs H Q => ∃ i j, xs = [V.int i, V.int j] ∧ Q (V.int (f i j)) H) (dII f) := ⟨fun {W H μ vs ts Ψ Q} x d e q => by
  unfold dII at e
  split at e
  · obtain ⟨v, w, rfl, a, b⟩ := two_dv d
    exact ⟨_, _, by rw [a.int, b.int], q (Grow.refl x.sb) (.of (.int _)) e⟩
  · exact e.elim⟩
/-- tuple(x) -/
def fTupOf : Mu → T → (T → Prop) → Prop := fun μ t Ψ => match view μ t with
  | .lst l => Ψ (.tup l)
  | .tup l => Ψ (.tup l)
  | _ => False
instance sim_tupOf : SimC K (fun xs H Q => ∃ p ys, xs = [V.ref p] ∧ ((SqL K H p ys ∧ ∀ l, H l = none → Q (V.ref l) (upd H l (.tup ys))) ∨ (SqT K H p ys ∧ Q (V.ref p) H))) (d1 fTupOf) := sim_1 fun {W H μ v t Ψ Q} x d e q => by
  unfold fTupOf at e
  split at e
  · rename_i l e1
    obtain ⟨p, xs, rfl, s, da⟩ := view_lst x d e1
    refine ⟨p, xs, rfl, .inl ⟨SqL.of s, fun p2 f => ?_⟩⟩
    obtain ⟨W', g, d2⟩ := new_tup x f da
    exact q g (.of d2) e
  · rename_i l e1
    rw [view_tup_eq e1] at d
    obtain ⟨p, xs, rfl, s, da⟩ := view_tup x d rfl
    exact ⟨p, xs, rfl, .inr ⟨s, q (Grow.refl x.sb) d e⟩⟩
  · exact e.elim
/-- .. a new list -/
class SimCL (K : PySem.W.Frag) (r : List V → Hp → VK → Prop) (d : outParam (Mu → List T → (List T → Prop) → Prop)) : Prop where
  run : ∀ {W : Wd} {H : Hp} {μ : Mu} {vs : List V} {ts : List T} {Ψ : List T → Prop} {Q : VK}, Ok K W H μ → DvAll K W vs ts → d μ ts Ψ → (∀ {p xs l H'}, Ok K W H' μ → Fr K W H' p xs l → Ψ l → Q (.ref p) H') → r vs H Q
def rCBL (d : Mu → List T → (List T → Prop) → Prop) (ra : DA) : DL := fun ρ xw μ Φ => ra ρ xw μ fun ts μ' => d μ' ts fun z => Φ z μ'
instance sim_cbL {r : List V → Hp → VK → Prop} {t : TA} {d ra} [o : SimCL K r d] [a : SimA K E t ra] : SimL K E (tCB r t) (rCBL d ra) := ⟨fun x s n h q => a.run x s n h fun l1 x1 d1 h1 => o.run x1 d1 h1 fun x2 f h2 => q l1 x2 f h2⟩
def dListOf : Mu → List T → (List T → Prop) → Prop := fun μ ts Ψ => match ts with
  | [t] => match view μ t with
    | .lst l => Ψ l
    | .tup l => Ψ l
    | _ => False
  | _ => False
instance sim_listOf : SimCL K (fun xs H Q => ∃ p ys, xs = [V.ref p] ∧ (SqL K H p ys ∨ SqT K H p ys) ∧ ∀ l, H l = none → Q (V.ref l) (upd H l (.lst ys))) dListOf := ⟨fun {W H μ vs ts Ψ Q} x d e q => by
  unfold dListOf at e
  split at e
  · obtain ⟨v, rfl, dv⟩ := one_dv d
    split at e
    · rename_i l e1
      obtain ⟨p, xs, rfl, s, da⟩ := view_lst x dv e1
      refine ⟨p, xs, rfl, .inl (SqL.of s), fun p2 f => ?_⟩
      obtain ⟨x2, fr⟩ := Fr.new x f da
      exact q x2 fr e
    · rename_i l e1
      obtain ⟨p, xs, rfl, s, da⟩ := view_tup x dv e1
      refine ⟨p, xs, rfl, .inr s, fun p2 f => ?_⟩
      obtain ⟨x2, fr⟩ := Fr.new x f da
      exact q x2 fr e
    · exact e.elim
  · exact e.elim⟩
/-! ### plain data: ==, repr -/
mutual
def T.pd : T → Option PyData
  | .non => some .none
  | .bl b => some (.bool b)
  | .int i => some (.int i)
  | .str z => some (.str z)
  | .lst l => (T.pds l).map .list
  | .tup l => (T.pds l).map .tuple
  | _ => none
def T.pds : List T → Option (List PyData)
  | [] => some []
  | t :: r => (T.pd t).bind fun d => (T.pds r).map (d :: ·)
end
mutual
theorem pd_dp {H : Hp} : ∀ {t : T} {v : V} {d : PyData}, Dn K H v t → t.pd = some d → Dp K H v d
  | .non, _, _, .non, e => by simp only [T.pd] at e; cases e; exact .non
  | .bl b, _, _, .bl _, e => by simp only [T.pd] at e; cases e; exact .bl b
  | .int b, _, _, .int _, e => by simp only [T.pd] at e; cases e; exact .int b
  | .str b, _, _, .str _, e => by simp only [T.pd] at e; cases e; exact .str b
  | .lst l, _, _, .lst s a, e => by
    simp only [T.pd, Option.map_eq_some_iff] at e
    obtain ⟨ds, e1, rfl⟩ := e
    exact .lst (SqL.of s) (pds_dp a e1)
  | .tup l, _, _, .tup s a, e => by
    simp only [T.pd, Option.map_eq_some_iff] at e
    obtain ⟨ds, e1, rfl⟩ := e
    exact .tup s (pds_dp a e1)
theorem pds_dp {H : Hp} : ∀ {ts : List T} {vs : List V} {ds : List PyData}, DnAll K H vs ts → T.pds ts = some ds → DpAll K H vs ds
  | [], _, _, .nil, e => by simp only [T.pds] at e; cases e; exact .nil
  | t :: r, _, _, .cons a b, e => by
    simp only [T.pds, Option.bind_eq_some_iff, Option.map_eq_some_iff] at e
    obtain ⟨d, e0, ms, e1, rfl⟩ := e
    exact .cons (pd_dp a e0) (pds_dp b e1)
end
mutual
theorem pd_lay {H : Hp} : ∀ {t : T} {v : V} {d : PyData}, Dn K H v t → t.pd = some d → d.canLay0 = true
  | .non, _, _, .non, e => by simp only [T.pd] at e; cases e; simp [PyData.canLay0]
  | .bl b, _, _, .bl _, e => by simp only [T.pd] at e; cases e; simp [PyData.canLay0]
  | .int b, _, _, .int _, e => by simp only [T.pd] at e; cases e; simp [PyData.canLay0]
  | .str b, _, _, .str o, e => by
    simp only [T.pd] at e
    cases e
    simp only [PyData.canLay0]
    unfold PyData.strOk
    rw [← Array.all_toList, List.all_eq_true]
    exact fun c hc => decide_eq_true (o c hc)
  | .lst l, _, _, .lst s a, e => by
    simp only [T.pd, Option.map_eq_some_iff] at e
    obtain ⟨ds, e1, rfl⟩ := e
    simp only [PyData.canLay0]
    exact pds_lay a e1
  | .tup l, _, _, .tup s a, e => by
    simp only [T.pd, Option.map_eq_some_iff] at e
    obtain ⟨ds, e1, rfl⟩ := e
    simp only [PyData.canLay0]
    exact pds_lay a e1
theorem pds_lay {H : Hp} : ∀ {ts : List T} {vs : List V} {ds : List PyData}, DnAll K H vs ts → T.pds ts = some ds → PyData.canLayAll0 ds = true
  | [], _, _, .nil, e => by simp only [T.pds] at e; cases e; simp [PyData.canLayAll0]
  | t :: r, _, _, .cons a b, e => by
    simp only [T.pds, Option.bind_eq_some_iff, Option.map_eq_some_iff] at e
    obtain ⟨d, e0, ms, e1, rfl⟩ := e
    simp only [PyData.canLayAll0, pd_lay a e0, pds_lay b e1, Bool.and_self]
end
theorem pd_rs {t : T} {d : PyData} (e : t.pd = some d) : ∀ k, t ≠ .rs k := fun k z => by
  subst z
  simp only [T.pd] at e
  cases e
theorem shaped_of {d : PyData} (h : d.canLay0 = true) (k : d.depth ≤ 64) : SeqAt.shaped d = true := by
  simp [SeqAt.shaped, h, k]
def dEqD (neg : Bool) : Mu → T → T → (T → Prop) → Prop := fun μ a b Ψ => ∃ d e, (view μ a).pd = some d ∧ (view μ b).pd = some e ∧ d.depth ≤ 64 ∧ e.depth ≤ 64 ∧ Ψ (.bl (nb neg (PyData.eqv d e)))
instance sim_eqD : SimOp K (rEqD K) (dEqD false) := ⟨fun {W H μ x y tx ty Ψ Q} o dx dy h q => by
  obtain ⟨d, e, e1, e2, k1, k2, h⟩ := h
  have a := view_dn o dx rfl (pd_rs e1)
  have b := view_dn o dy rfl (pd_rs e2)
  exact ⟨d, e, pd_dp a e1, pd_dp b e2, shaped_of (pd_lay a e1) k1, shaped_of (pd_lay b e2) k2, q (Grow.refl o.sb) (.of (.bl _)) h⟩⟩
instance sim_neD : SimOp K (rNeD K) (dEqD true) := ⟨fun {W H μ x y tx ty Ψ Q} o dx dy h q => by
  obtain ⟨d, e, e1, e2, k1, k2, h⟩ := h
  have a := view_dn o dx rfl (pd_rs e1)
  have b := view_dn o dy rfl (pd_rs e2)
  exact ⟨d, e, pd_dp a e1, pd_dp b e2, shaped_of (pd_lay a e1) k1, shaped_of (pd_lay b e2) k2, q (Grow.refl o.sb) (.of (.bl _)) h⟩⟩
theorem shw_of {d : PyData} (h1 : d.showable = true) (h2 : d.hasDict = false) (h3 : d.depth ≤ 60) (h4 : d.leavesShort 30 = true) (h5 : d.bulk ≤ 100000) : Shw d := by
  refine ⟨h1, h2, h3, ?_⟩
  have := PyData.shown_le_bulk 30 (by decide) d h4
  rw [sizeLine_eq]
  omega
def fRepr : Mu → T → (T → Prop) → Prop := fun μ t Ψ => ∃ d, (view μ t).pd = some d ∧ Shw d ∧ Ψ (.wst d.shown)
instance sim_repr : SimC K (rRepr K) (d1 fRepr) := sim_1 fun {W H μ v t Ψ Q} x d e q => by
  obtain ⟨dd, e1, s, e⟩ := e
  exact ⟨v, dd, rfl, pd_dp (view_dn x d rfl (pd_rs e1)) e1, s, q (Grow.refl x.sb) (.of (.wst _)) e⟩
/-! ### methods of built-in types -/
/-- a method that changes its list -/
class SimM (K : PySem.W.Frag) (T' : String) (r : V → List V → Hp → VK → Prop) (d : outParam (Mu → T → List T → (T → Mu → Prop) → Prop)) : Prop where
  run : ∀ {W : Wd} {H : Hp} {μ : Mu} {v : V} {vs : List V} {t : T} {ts : List T} {Ψ : T → Mu → Prop} {Q : VK}, Ok K W H μ → Dv K W v t → DvAll K W vs ts → d μ t ts Ψ → (∀ {v τ W' H' μ'}, W.Le W' → Ok K W' H' μ' → Dv K W' v τ → Ψ τ μ' → Q v H') → r v vs H Q
/-- of which type the thing is -/
def T.mty (μ : Mu) (t : T) : Option String := match view μ t with
  | .str _ => some "str"
  | .int _ => some "int"
  | .lst _ => some "list"
  | _ => none
theorem mty_is {W : Wd} {H : Hp} {μ : Mu} {v : V} {t : T} {n : String} (x : Ok K W H μ) (d : Dv K W v t) (e : t.mty μ = some n) : tyV K n v H := by
  unfold T.mty at e
  split at e
  · rename_i z e1
    cases e
    have dn := view_dn x d e1 (fun k z => by cases z)
    cases dn
    rfl
  · rename_i z e1
    cases e
    have dn := view_dn x d e1 (fun k z => by cases z)
    cases dn
    rfl
  · rename_i l e1
    cases e
    obtain ⟨p, xs, rfl, s, _⟩ := view_lst x d e1
    exact .inl ⟨rfl, xs, SqL.of s⟩
  · cases e
def rBM (n : String) (d : Mu → T → List T → (T → Mu → Prop) → Prop) (ro : DE) (ra : DA) : DE := fun ρ xw μ Φ => ro ρ xw μ fun t μ1 => t.mty μ1 = some n ∧ ra ρ xw μ1 fun ts μ2 => d μ2 t ts Φ
instance sim_bm {n : String} {r : V → List V → Hp → VK → Prop} {to : TE} {t : TA} {d ro ra} [m : SimM K n r d] [a : SimE K E to ro] [b : SimA K E t ra] : SimE K E (tBM K n r to t) (rBM n d ro ra) := ⟨fun x s k h q => a.run x s k h fun l1 x1 d1 h1 =>
  ⟨mty_is x1 d1 h1.1, b.run x1 (s.mono l1) (k.mono l1) h1.2 fun l2 x2 d2 h2 => m.run x2 (d1.mono l2) d2 h2 fun l3 x3 d3 h3 => q ((l1.trans l2).trans l3) x3 d3 h3⟩⟩
instance sim_bm0 {n : String} {r : V → List V → Hp → VK → Prop} {to : TE} {d ro} [m : SimM K n r d] [a : SimE K E to ro] : SimE K E (tBM0 K n r to) (rBM n d ro rNil) := ⟨fun x s k h q => a.run x s k h fun l1 x1 d1 h1 =>
  ⟨mty_is x1 d1 h1.1, m.run x1 d1 .nil h1.2 fun l3 x3 d3 h3 => q (l1.trans l3) x3 d3 h3⟩⟩
/-- the list that may be changed gets other items -/
theorem res_put {W : Wd} {H : Hp} {μ : Mu} {k : Nat} {p : Addr} {l' : List T} {xs' : List V} {l : List T} (x : Ok K W H μ) (e : μ[k]? = some (.lst l)) (ep : W.ad[k]? = some p) (d : DnAll K W.B xs' l') : Ok K W (upd H p (.lst xs')) (μ.set k (.lst l')) := by
  obtain ⟨p1, e1, o, xs, eh, _⟩ := x.res k _ e
  rw [ep] at e1
  cases e1
  obtain ⟨b1, g1, _, lt⟩ := x.lab p k o
  have ne : ∀ {a : Addr} {u : HO}, W.B a = some u → a ≠ p := fun q z => by
    subst z
    rw [b1] at q
    cases q
  have neg : ∀ {a : Addr} {u : HO}, W.G a = some u → a ≠ p := fun q z => by
    subst z
    rw [g1] at q
    cases q
  refine ⟨fun a u q => ?_, fun a u q => ?_, fun a j q => ?_, by rw [List.length_set]; exact x.len, fun j r q => ?_⟩
  · rw [upd_ne (neg q)]
    exact x.sg _ _ q
  · rw [upd_ne (ne q)]
    exact x.sb _ _ q
  · obtain ⟨a1, a2, a3, a4⟩ := x.lab a j q
    refine ⟨a1, a2, ?_, by rw [List.length_set]; exact a4⟩
    by_cases z : a = p
    · subst z
      rw [upd_same]
      exact fun z => by cases z
    · rw [upd_ne z]
      exact a3
  · by_cases z : k = j
    · subst z
      rw [List.getElem?_set_self lt] at q
      cases q
      exact ⟨p, ep, o, xs', upd_same, d⟩
    · rw [List.getElem?_set_ne z] at q
      obtain ⟨p2, e2, r2⟩ := x.res j r q
      refine ⟨p2, e2, ResOk.mono (W := W) (Same.refl _) (fun _ _ q => q) (fun a u o2 eh2 => ?_) r2⟩
      rw [upd_ne (fun z2 => by subst z2; rw [o] at o2; cases o2; exact z rfl)]
      exact eh2
def dAppend : Mu → T → List T → (T → Mu → Prop) → Prop := fun μ t ts Ψ => match t, ts with
  | .rs k, [y] => ∃ l, μ[k]? = some (.lst l) ∧ y.flat = true ∧ l.length < 1000000 ∧ Ψ .non (μ.set k (.lst (l ++ [y])))
  | _, _ => False
instance sim_append {n : String} : SimM K n rAppend dAppend := ⟨fun {W H μ v vs t ts Ψ Q} x d da e q => by
  unfold dAppend at e
  split at e
  · obtain ⟨l, e1, f, sz, e⟩ := e
    obtain ⟨y, rfl, dy⟩ := one_dv da
    obtain ⟨p, ep, rfl⟩ := (show ∃ p, _ from d)
    obtain ⟨p1, ep1, o, xs, eh, dx⟩ := x.res _ _ e1
    rw [ep] at ep1
    cases ep1
    exact ⟨p, xs, y, rfl, rfl, eh, by rw [dx.length]; exact Nat.lt_of_lt_of_le sz (line1 (Nat.le_refl _)), q Wd.Le.refl (res_put x e1 ep (dx.append (.cons (flat_dn dy f) .nil))) (.of .non) e⟩
  · exact e.elim⟩
def dReverse : Mu → T → List T → (T → Mu → Prop) → Prop := fun μ t ts Ψ => match t, ts with
  | .rs k, [] => ∃ l, μ[k]? = some (.lst l) ∧ Ψ .non (μ.set k (.lst l.reverse))
  | _, _ => False
instance sim_reverse {n : String} : SimM K n rReverse dReverse := ⟨fun {W H μ v vs t ts Ψ Q} x d da e q => by
  unfold dReverse at e
  split at e
  · obtain ⟨l, e1, e⟩ := e
    cases da
    obtain ⟨p, ep, rfl⟩ := (show ∃ p, _ from d)
    obtain ⟨p1, ep1, o, xs, eh, dx⟩ := x.res _ _ e1
    rw [ep] at ep1
    cases ep1
    exact ⟨p, xs, rfl, rfl, eh, q Wd.Le.refl (res_put x e1 ep dx.reverse) (.of .non) e⟩
  · exact e.elim⟩
def dClear : Mu → T → List T → (T → Mu → Prop) → Prop := fun μ t ts Ψ => match t, ts with
  | .rs k, [] => ∃ l, μ[k]? = some (.lst l) ∧ Ψ .non (μ.set k (.lst []))
  | _, _ => False
instance sim_clear {n : String} : SimM K n rClear dClear := ⟨fun {W H μ v vs t ts Ψ Q} x d da e q => by
  unfold dClear at e
  split at e
  · obtain ⟨l, e1, e⟩ := e
    cases da
    obtain ⟨p, ep, rfl⟩ := (show ∃ p, _ from d)
    obtain ⟨p1, ep1, o, xs, eh, dx⟩ := x.res _ _ e1
    rw [ep] at ep1
    cases ep1
    exact ⟨p, xs, rfl, rfl, eh, q Wd.Le.refl (res_put x e1 ep .nil) (.of .non) e⟩
  · exact e.elim⟩
/-- '..'.join(x) -/
def T.strs : List T → Option (List PySem.Str)
  | [] => some []
  | .str b :: r => (T.strs r).map (b :: ·)
  | _ :: _ => none
theorem strs_is {B : Hp} : ∀ {xs : List V} {l : List T} {ns : List PySem.Str}, DnAll K B xs l → T.strs l = some ns → xs = ns.map V.str ∧ ∀ z ∈ ns, okS z
  | _, _, _, .nil, e => by cases e; exact ⟨rfl, fun z hz => by cases hz⟩
  | _, _, _, .cons (t := t) d r, e => by
    cases t with
    | str n =>
      simp only [T.strs, Option.map_eq_some_iff] at e
      obtain ⟨ms, e1, rfl⟩ := e
      cases d with
      | str o =>
        obtain ⟨a, b⟩ := strs_is r e1
        rw [a]
        exact ⟨rfl, fun z hz => (List.mem_cons.mp hz).elim (fun q => by subst q; exact o) (b z)⟩
    | _ => cases e
theorem strs_map (bs : List PySem.Str) : T.strs (bs.map T.str) = some bs := by
  induction bs with
  | nil => rfl
  | cons b r ih => simp [T.strs, ih]
def dJoin : Mu → T → List T → (T → Mu → Prop) → Prop := fun μ t ts Ψ => match t, ts with
  | .str a, [u] => ∃ l ys, asSeq μ u = some l ∧ T.strs l = some ys ∧ (ys.map (·.length)).sum + ys.length * a.length ≤ 1000000 ∧ okSb a = true ∧ Ψ (.str (Txt.join a ys)) μ
  | _, _ => False
theorem okS_joinS {a : PySem.Str} (ha : okS a) : ∀ (ys : List PySem.Str), (∀ z ∈ ys, okS z) → okS (PySem.Str.join a ys)
  | [], _ => fun c hc => by cases hc
  | [x], h => h x (List.mem_singleton.mpr rfl)
  | x :: y :: r, h => ((h x List.mem_cons_self).add ha).add (okS_joinS ha (y :: r) fun z hz => h z (List.mem_cons_of_mem _ hz))
theorem txt_join (a : PySem.Str) (ys : List PySem.Str) : Txt.join a ys = PySem.Str.join a ys := eq_of_beq (PyProof.Rows.join_plain_closes a ys)
instance sim_join : SimM K "str" (fun x xs H Q => ∃ a p, ∃ ys : List PySem.Str, x = V.str a ∧ xs = [V.ref p] ∧ (SqL K H p (ys.map V.str) ∨ SqT K H p (ys.map V.str)) ∧
    (ys.map (·.length)).sum + ys.length * a.length ≤ 16777216 ∧ Q (V.str (Txt.join a ys)) H) dJoin := ⟨fun {W H μ v vs t ts Ψ Q} x d da e q => by
  unfold dJoin at e
  split at e
  · obtain ⟨l, ys, e1, e2, sz, oa, e⟩ := e
    obtain ⟨y, rfl, dy⟩ := one_dv da
    obtain ⟨p, xs, rfl, s, dx⟩ := seq_is x dy e1
    obtain ⟨rfl, o⟩ := strs_is dx e2
    refine ⟨_, p, ys, d.str.1, rfl, s, by omega, q Wd.Le.refl x (.of (.str ?_)) e⟩
    rw [txt_join]
    exact okS_joinS (okSb_ok oa) ys o
  · exact e.elim⟩
/-! ### f-strings -/
def rFmt (r : DE) : DE := fun ρ xw μ Φ => r ρ xw μ fun t μ' => match t with
  | .str z => z.length ≤ 1000000 ∧ Φ (.str z) μ'
  | .int i => 0 ≤ i ∧ i.natAbs.log2 < 1920 ∧ Φ (.str (toString i)) μ'
  | _ => False
instance sim_fmt {t : TE} {r} [a : SimE K E t r] : SimE K E (tFmt t) (rFmt r) := ⟨fun x s n h q => a.run x s n h fun {v τ W1 H1 μ1} l1 x1 d1 h1 => by
  cases τ with
  | str z => exact .inl ⟨z, d1.str.1, line1 h1.1, q l1 x1 (.of (.str d1.str.2)) h1.2⟩
  | int i => exact .inr ⟨i, d1.int, h1.2.1, q l1 x1 (.of (.str (okS_int h1.1))) h1.2.2⟩
  | _ => exact h1.elim⟩
class SimJ (K : PySem.W.Frag) (E : XK) (ts : List TE) (r : outParam (PySem.Str → Rho → XW → Mu → (PySem.Str → Mu → Prop) → Prop)) : Prop where
  run : ∀ {acc : PySem.Str} {W : Wd} {H : Hp} {σ : L2.St} {ρ : Rho} {μ : Mu} {xw : XW} {Φ : PySem.Str → Mu → Prop} {Q : PySem.Str → Hp → Prop}, okS acc → Ok K W H μ → Sl K W σ ρ → XL K W xw E → r acc ρ xw μ Φ →
    (∀ {z W' H' μ'}, W.Le W' → Ok K W' H' μ' → okS z → Φ z μ' → Q z H') → tJs ts acc σ H Q
def rJn : PySem.Str → Rho → XW → Mu → (PySem.Str → Mu → Prop) → Prop := fun acc _ _ μ Φ => Φ acc μ
def rJc (r : DE) (rs : PySem.Str → Rho → XW → Mu → (PySem.Str → Mu → Prop) → Prop) : PySem.Str → Rho → XW → Mu → (PySem.Str → Mu → Prop) → Prop := fun acc ρ xw μ Φ => r ρ xw μ fun t μ1 => match t with
  | .str y => (acc ++ y).length ≤ 1000000 ∧ rs (acc ++ y) ρ xw μ1 Φ
  | _ => False
instance sim_jn : SimJ K E [] rJn := ⟨fun o x _ _ h q => q Wd.Le.refl x o h⟩
instance sim_jc {t : TE} {ts : List TE} {r rs} [a : SimE K E t r] [b : SimJ K E ts rs] : SimJ K E (t :: ts) (rJc r rs) := ⟨fun o x s n h q => a.run x s n h fun {v τ W1 H1 μ1} l1 x1 d1 h1 => by
  cases τ with
  | str y => exact ⟨y, d1.str.1, line1 h1.1, b.run (o.add d1.str.2) x1 (s.mono l1) (n.mono l1) h1.2 fun l2 x2 o2 h2 => q (l1.trans l2) x2 o2 h2⟩
  | _ => exact h1.elim⟩
def rJs (rs : PySem.Str → Rho → XW → Mu → (PySem.Str → Mu → Prop) → Prop) : DE := fun ρ xw μ Φ => rs Str.empty ρ xw μ fun z μ' => Φ (.str z) μ'
instance sim_js {ts : List TE} {rs} [b : SimJ K E ts rs] : SimE K E (fun σ H Q => tJs ts Str.empty σ H fun out H1 => Q (V.str out) H1) (rJs rs) := ⟨fun x s n h q => b.run (fun c hc => by cases hc) x s n h fun l1 x1 o h1 => q l1 x1 (.of (.str o)) h1⟩
/-! ### a value's truth, as a test -/
def T.shs : T → Prop
  | .str z => z.length ≤ 1000000
  | _ => True
def rTru (r : DE) : DB := fun ρ xw μ Φ => r ρ xw μ fun t μ' => match t.tru μ' with
  | some b => t.shs ∧ Φ b μ'
  | none => False
end Dl
namespace Dl
open PySem PySem.Spec PyProof.Rows L2 Gd
variable {K : PySem.W.Frag} {E : XK}
theorem isEmpty_dn {B : Hp} {xs : List V} {l : List T} (d : DnAll K B xs l) : (!l.isEmpty) = !xs.isEmpty := by
  cases d <;> rfl
theorem tru_is {W : Wd} {H : Hp} {μ : Mu} {v : V} {t : T} {b : Bool} (x : Ok K W H μ) (d : Dv K W v t) (e : t.tru μ = some b) (z : t.shs) : TruV K v H b := by
  unfold T.tru at e
  split at e
  · rename_i c e1
    cases e
    have dn := view_dn x d e1 (fun k z => by cases z)
    cases dn
    rfl
  · rename_i c e1
    cases e
    have dn := view_dn x d e1 (fun k z => by cases z)
    cases dn
    rfl
  · rename_i c e1
    cases e
    have dn := view_dn x d e1 (fun k z => by cases z)
    cases dn
    cases t with
    | rs k =>
      have e1 : seeR μ k = .str c := e1
      unfold seeR at e1
      split at e1 <;> cases e1
    | str c2 =>
      cases e1
      exact ⟨line1 z, rfl⟩
    | _ => cases e1
  · rename_i l e1
    cases e
    obtain ⟨p, xs, rfl, s, da⟩ := view_lst x d e1
    exact .inl ⟨xs, SqL.of s, isEmpty_dn da⟩
  · rename_i l e1
    cases e
    obtain ⟨p, xs, rfl, s, da⟩ := view_tup x d e1
    exact .inr (.inl ⟨xs, s, isEmpty_dn da⟩)
  · rename_i e1
    cases e
    have dn := view_dn x d e1 (fun k z => by cases z)
    cases dn
    rfl
  · cases e
instance sim_truth {t : TE} {r} [a : SimE K E t r] : SimB K E (fun σ H Q => t σ H fun x H' => ∃ k, TruV K x H' k ∧ Q k H') (rTru r) := ⟨fun x s n h q => a.run x s n h fun {v τ W1 H1 μ1} l1 x1 d1 h1 => by
  split at h1
  · rename_i b e
    exact ⟨b, tru_is x1 d1 e h1.1, q l1 x1 h1.2⟩
  · exact h1.elim⟩
end Dl

set_option maxRecDepth 100000
set_option maxHeartbeats 4000000
namespace Dl
open PySem PySem.Spec PyProof.Rows L2 Gd
variable {K : PySem.W.Frag} {E : XK}
/-! ### statements -/
structure DEnds where
  nx : Rho → Mu → Prop
  rt : T → Mu → Prop
  bk : Rho → Mu → Prop := fun _ _ => False
  ct : Rho → Mu → Prop := fun _ _ => False
abbrev DS := DEnds → XW → Rho → Mu → Prop
/-- what is wanted behind, told of data -/
structure Lk (K : PySem.W.Frag) (W : Wd) (D : DEnds) (De : Ends) : Prop where
  nx : ∀ {σ ρ W' H' μ'}, W.Le W' → Ok K W' H' μ' → Sl K W' σ ρ → D.nx ρ μ' → De.nx σ H'
  rt : ∀ {v τ W' H' μ'}, W.Le W' → Ok K W' H' μ' → Dv K W' v τ → D.rt τ μ' → De.rt v H'
  bk : ∀ {σ ρ W' H' μ'}, W.Le W' → Ok K W' H' μ' → Sl K W' σ ρ → D.bk ρ μ' → De.bk σ H'
  ct : ∀ {σ ρ W' H' μ'}, W.Le W' → Ok K W' H' μ' → Sl K W' σ ρ → D.ct ρ μ' → De.ct σ H'
theorem Lk.mono {W W' : Wd} {D : DEnds} {De : Ends} (l : W.Le W') (k : Lk K W D De) : Lk K W' D De :=
  ⟨fun l' => k.nx (l.trans l'), fun l' => k.rt (l.trans l'), fun l' => k.bk (l.trans l'), fun l' => k.ct (l.trans l')⟩
class SimS (K : PySem.W.Frag) (E : XK) (t : TS) (r : outParam DS) : Prop where
  run : ∀ {W : Wd} {H : Hp} {σ : L2.St} {ρ : Rho} {μ : Mu} {xw : XW} {D : DEnds} {De : Ends}, Ok K W H μ → Sl K W σ ρ → XL K W xw E → Lk K W D De → r D xw ρ μ → t De σ H
def rNext : DS := fun D _ ρ μ => D.nx ρ μ
instance sim_next : SimS K E tNext rNext := ⟨fun x s _ k h => k.nx Wd.Le.refl x s h⟩
def rBreak : DS := fun D _ ρ μ => D.bk ρ μ
instance sim_break : SimS K E tBreak rBreak := ⟨fun x s _ k h => k.bk Wd.Le.refl x s h⟩
def rCont : DS := fun D _ ρ μ => D.ct ρ μ
instance sim_cont : SimS K E tCont rCont := ⟨fun x s _ k h => k.ct Wd.Le.refl x s h⟩
instance sim_never : SimS K E tNever (fun _ _ _ _ => False) := ⟨fun x s _ k h => h.elim⟩
def rSeq (a b : DS) : DS := fun D xw ρ μ => a { D with nx := fun ρ' μ' => b D xw ρ' μ' } xw ρ μ
instance sim_seq {t u : TS} {a b} [x : SimS K E t a] [y : SimS K E u b] : SimS K E (tSeq t u) (rSeq a b) := ⟨fun {W H σ ρ μ xw D De} o s n k h =>
  x.run (xw := xw) (D := { D with nx := fun ρ' μ' => b D xw ρ' μ' }) o s n ⟨fun l o' s' h' => y.run (xw := xw) (D := D) o' s' (n.mono l) (k.mono l) h', k.rt, k.bk, k.ct⟩ h⟩
def rDrop (r : DE) : DS := fun D xw ρ μ => r ρ xw μ fun _ μ' => D.nx ρ μ'
instance sim_drop {t : TE} {r} [a : SimE K E t r] : SimS K E (tDrop t) (rDrop r) := ⟨fun o s n k h => a.run o s n h fun l o' _ h' => k.nx l o' (s.mono l) h'⟩
def rRet (r : DE) : DS := fun D xw ρ μ => r ρ xw μ D.rt
instance sim_ret {t : TE} {r} [a : SimE K E t r] : SimS K E (tRet t) (rRet r) := ⟨fun o s n k h => a.run o s n h fun l o' d h' => k.rt l o' d h'⟩
def rRetN : DS := fun D _ _ μ => D.rt .non μ
instance sim_retN : SimS K E tRetN rRetN := ⟨fun o s n k h => k.rt Wd.Le.refl o (.of .non) h⟩
def rIfS (c : DB) (a b : DS) : DS := fun D xw ρ μ => c ρ xw μ fun t μ' => if t = true then a D xw ρ μ' else b D xw ρ μ'
instance sim_ifS {c : TT} {t u : TS} {rc a b} [cc : SimB K E c rc] [x : SimS K E t a] [y : SimS K E u b] : SimS K E (tIfS c t u) (rIfS rc a b) := ⟨fun o s n k h => cc.run o s n h fun {b1 W1 H1 μ1} l o' h' => by
  cases b1 with
  | true => exact iteT (x.run o' (s.mono l) (n.mono l) (k.mono l) h')
  | false => exact iteF (y.run o' (s.mono l) (n.mono l) (k.mono l) h')⟩
/-! ### targets -/
abbrev DG := T → Rho → XW → Mu → (Rho → Mu → Prop) → Prop
class SimG (K : PySem.W.Frag) (E : XK) (g : TG) (vs : outParam (List Nat)) (r : outParam DG) : Prop where
  run : ∀ {W : Wd} {H : Hp} {σ : L2.St} {ρ : Rho} {μ : Mu} {xw : XW} {v : V} {t : T} {Ψ : Rho → Mu → Prop} {Q : L2.St → Hp → Prop}, Ok K W H μ → Sl K W σ ρ → XL K W xw E → Dv K W v t → r t ρ xw μ Ψ →
    (∀ {σ' ρ' W' H' μ'}, W.Le W' → Ok K W' H' μ' → Sl K W' σ' ρ' → (∀ js : List Nat, (∀ i ∈ vs, i ∈ js) → wipe σ' js = wipe σ js) → Ψ ρ' μ' → Q σ' H') → g v σ H Q
theorem wipe_at : ∀ (σ : L2.St) (vs : List Nat) (i : Nat), (wipe σ vs)[i]? = if i ∈ vs then (if i < σ.length then some none else none) else σ[i]?
  | σ, [], i => by simp [wipe]
  | σ, v :: vs, i => by
    show ((wipe σ vs).set v none)[i]? = _
    by_cases e : v = i
    · subst e
      rw [List.getElem?_set]
      simp [wipe_length]
    · rw [List.getElem?_set_ne e, wipe_at σ vs i]
      simp [show i ≠ v from fun z => e z.symm]
theorem wipe_set {σ : L2.St} {i : Nat} {v : Option V} {js : List Nat} (h : i ∈ js) : wipe (σ.set i v) js = wipe σ js := by
  apply List.ext_getElem?
  intro j
  rw [wipe_at, wipe_at, List.length_set]
  by_cases m : j ∈ js
  · simp [m]
  · simp only [m, if_false]
    rw [List.getElem?_set_ne (fun z => m (by rw [← z]; exact h))]
def rName (i : Nat) : DG := fun t ρ _ μ Ψ => Ψ (ρ.set i (some t)) μ
instance sim_name (i : Nat) : SimG K E (gName i) [i] (rName i) := ⟨fun o s n d h q => q Wd.Le.refl o (s.set d) (fun js hj => wipe_set (hj i (List.mem_singleton.mpr rfl))) h⟩
abbrev DGs := List T → Rho → XW → Mu → (Rho → Mu → Prop) → Prop
class SimGs (K : PySem.W.Frag) (E : XK) (g : TGs) (vs : outParam (List Nat)) (r : outParam DGs) : Prop where
  run : ∀ {W : Wd} {H : Hp} {σ : L2.St} {ρ : Rho} {μ : Mu} {xw : XW} {ws : List V} {ts : List T} {Ψ : Rho → Mu → Prop} {Q : L2.St → Hp → Prop}, Ok K W H μ → Sl K W σ ρ → XL K W xw E → DnAll K W.B ws ts → r ts ρ xw μ Ψ →
    (∀ {σ' ρ' W' H' μ'}, W.Le W' → Ok K W' H' μ' → Sl K W' σ' ρ' → (∀ js : List Nat, (∀ i ∈ vs, i ∈ js) → wipe σ' js = wipe σ js) → Ψ ρ' μ' → Q σ' H') → g ws σ H Q
def rGnil : DGs := fun ts ρ _ μ Ψ => match ts with
  | [] => Ψ ρ μ
  | _ => False
def rGcons (r : DG) (rs : DGs) : DGs := fun ts ρ xw μ Ψ => match ts with
  | t :: ts => r t ρ xw μ fun ρ1 μ1 => rs ts ρ1 xw μ1 Ψ
  | _ => False
instance sim_gnil : SimGs K E gNil [] rGnil := ⟨fun {W H σ ρ μ xw ws ts Ψ Q} o s n d h q => by
  cases d with
  | nil => exact ⟨rfl, q Wd.Le.refl o s (fun _ _ => rfl) h⟩
  | cons a b => exact h.elim⟩
instance sim_gcons {g : TG} {gs : TGs} {vs us r rs} [a : SimG K E g vs r] [b : SimGs K E gs us rs] : SimGs K E (gCons g gs) (vs ++ us) (rGcons r rs) := ⟨fun {W H σ ρ μ xw ws ts Ψ Q} o s n d h q => by
  cases d with
  | nil => exact h.elim
  | cons d1 d2 =>
    exact ⟨_, _, rfl, a.run o s n (.of d1) h fun l o1 s1 w1 h1 => b.run o1 s1 (n.mono l) (d2.mono l.b) h1 fun l2 o2 s2 w2 h2 => q (l.trans l2) o2 s2 (fun js hj => by
      rw [w2 js fun i hi => hj i (List.mem_append_right _ hi), w1 js fun i hi => hj i (List.mem_append_left _ hi)]) h2⟩⟩
def rGtup (n : Nat) (rs : DGs) : DG := fun t ρ xw μ Ψ => match view μ t with
  | .tup l => l.length = n ∧ rs l ρ xw μ Ψ
  | _ => False
instance sim_gtup {m : Nat} {gs : TGs} {vs rs} [b : SimGs K E gs vs rs] : SimG K E (gTup K m gs) vs (rGtup m rs) := ⟨fun {W H σ ρ μ xw v t Ψ Q} o s n d h q => by
  unfold rGtup at h
  split at h
  · rename_i l e
    obtain ⟨p, xs, rfl, sq, da⟩ := view_tup o d e
    exact ⟨p, xs, rfl, sq, by rw [da.length]; exact h.1, b.run o s n da h.2 q⟩
  · exact h.elim⟩
/-- xs[i] = v, of a list that may be changed -/
def rGset (ro ri : DE) : DG := fun t ρ xw μ Ψ => ro ρ xw μ fun o μ1 => ri ρ xw μ1 fun i μ2 => match o, i with
  | .rs k, .int i => ∃ l j, μ2[k]? = some (.lst l) ∧ ixN l.length i = some j ∧ t.flat = true ∧ Ψ ρ (μ2.set k (.lst (l.set j t)))
  | _, _ => False
instance sim_gset {to ti : TE} {ro ri} [a : SimE K E to ro] [b : SimE K E ti ri] : SimG K E (gSub to ti rSetL) [] (rGset ro ri) := ⟨fun {W H σ ρ μ xw v t Ψ Q} o s n d h q =>
  a.run o s n h fun {v1 τ1 W1 H1 μ1} l1 o1 d1 h1 => b.run o1 (s.mono l1) (n.mono l1) h1 fun {v2 τ2 W2 H2 μ2} l2 o2 d2 h2 => by
    split at h2
    · obtain ⟨l, j, e1, e2, f, h2⟩ := h2
      obtain ⟨p, ep, rfl⟩ := (show ∃ p, _ from d1.mono l2)
      obtain ⟨p1, ep1, o3, xs, eh, dx⟩ := o2.res _ _ e1
      rw [ep] at ep1
      cases ep1
      exact ⟨p, xs, _, j, rfl, d2.int, eh, by rw [dx.length]; exact e2, q (l1.trans l2) (res_put o2 e1 ep (dx.set (flat_dn (d.mono (l1.trans l2)) f) j)) (s.mono (l1.trans l2)) (fun _ _ => rfl) h2⟩
    · exact h2.elim⟩
def rAsg (r : DE) (g : DG) : DS := fun D xw ρ μ => r ρ xw μ fun t μ1 => g t ρ xw μ1 D.nx
instance sim_asg {t : TE} {g : TG} {vs r rg} [a : SimE K E t r] [b : SimG K E g vs rg] : SimS K E (tAsg t g) (rAsg r rg) := ⟨fun o s n k h => a.run o s n h fun l o1 d1 h1 => b.run o1 (s.mono l) (n.mono l) d1 h1 fun l2 o2 s2 _ h2 => k.nx (l.trans l2) o2 s2 h2⟩
def rPar (i j : Nat) (r : DA) : DS := fun D xw ρ μ => r ρ xw μ fun ts μ1 => match ts with
  | [a, b] => D.nx ((ρ.set i (some a)).set j (some b)) μ1
  | _ => False
instance sim_par {i j : Nat} {t : TA} {r} [a : SimA K E t r] : SimS K E (tPar i j t) (rPar i j r) := ⟨fun o s n k h => a.run o s n h fun l o1 d1 h1 => by
  split at h1
  · obtain ⟨v, w, rfl, a1, a2⟩ := two_dv d1
    exact ⟨v, w, rfl, k.nx l o1 (((s.mono l).set a1).set a2) h1⟩
  · exact h1.elim⟩
def rPar3 (i j m : Nat) (r : DA) : DS := fun D xw ρ μ => r ρ xw μ fun ts μ1 => match ts with
  | [a, b, c] => D.nx (((ρ.set i (some a)).set j (some b)).set m (some c)) μ1
  | _ => False
instance sim_par3 {i j m : Nat} {t : TA} {r} [a : SimA K E t r] : SimS K E (tPar3 i j m t) (rPar3 i j m r) := ⟨fun o s n k h => a.run o s n h fun l o1 d1 h1 => by
  split at h1
  · cases d1 with
    | cons x1 r1 => cases r1 with
      | cons x2 r2 => cases r2 with
        | cons x3 r3 =>
          cases r3
          exact ⟨_, _, _, rfl, k.nx l o1 ((((s.mono l).set x1).set x2).set x3) h1⟩
  · exact h1.elim⟩
/-! ### what is walked -/
/-- what is frozen, stays -/
structure Wd.Lb (W W' : Wd) : Prop where
  b : Same W.B W'.B
/-- the iterator yields l, whatever comes in between -/
def Wk (K : PySem.W.Frag) (W : Wd) (J : It) (l : List T) : Prop := ∀ {W' : Wd} {H' : Hp} {μ' : Mu}, W.Lb W' → Ok K W' H' μ' → ∀ i : Nat,
  (i < l.length → J.go i H' ∧ ∀ x H'', J.yld i H' x H'' → ∃ (W'' : Wd) (t : T), Grow W' H' W'' H'' ∧ l[i]? = some t ∧ Dn K W''.B x t) ∧ (l.length ≤ i → J.stop i H')
class SimI (K : PySem.W.Frag) (E : XK) (wi : TI) (r : outParam DL) : Prop where
  run : ∀ {W : Wd} {H : Hp} {σ : L2.St} {ρ : Rho} {μ : Mu} {xw : XW} {Φ : List T → Mu → Prop} {R : It → Hp → Prop}, Ok K W H μ → Sl K W σ ρ → XL K W xw E → r ρ xw μ Φ →
    (∀ {J l W' H' μ'}, W.Le W' → Ok K W' H' μ' → Wk K W' J l → Φ l μ' → R J H') → wi σ H R
def rIlst (r : DE) : DL := fun ρ xw μ Φ => r ρ xw μ fun t μ' => match t with
  | .lst l => Φ l μ'
  | _ => False
instance sim_ilist {t : TE} {r} [a : SimE K E t r] : SimI K E (iList K t) (rIlst r) := ⟨fun o s n h q => a.run o s n h fun {v τ W1 H1 μ1} l1 o1 d1 h1 => by
  cases τ with
  | lst l =>
    cases (show Dn K W1.B v (.lst l) from d1) with
    | @lst p xs _ e da =>
      refine ⟨p, rfl, ⟨xs, SqL.of (o1.sb _ _ e)⟩, q l1 o1 (fun {W' H' μ'} l' o' i => ?_) h1⟩
      have e' : H' p = some (.lst xs) := o'.sb _ _ (l'.b _ _ e)
      refine ⟨fun lt => ?_, fun le => ⟨xs, SqL.of e', by rw [da.length]; exact le⟩⟩
      obtain ⟨v, ev, dv⟩ := da.get (List.getElem?_eq_getElem lt)
      refine ⟨⟨xs, v, SqL.of e', ev⟩, fun y H'' yl => ?_⟩
      obtain ⟨rfl, k⟩ := yl
      have e2 := k xs (SqL.of e')
      rw [ev] at e2
      cases e2
      exact ⟨W', _, Grow.refl o'.sb, List.getElem?_eq_getElem lt, dv.mono l'.b⟩
  | _ => exact h1.elim⟩
def rItup (r : DE) : DL := fun ρ xw μ Φ => r ρ xw μ fun t μ' => match t with
  | .tup l => Φ l μ'
  | _ => False
theorem tup_inj {H : Hp} {p : Addr} {xs ys : List V} (a : SqT K H p xs) (b : SqT K H p ys) (fr : ∀ o, H p ≠ some (.frz o (.tup ys)) ∨ True) : True := trivial
instance sim_irng1 {t : TA} {r} [a : SimA K E t r] : SimI K E (iRng1 t) (fun ρ xw μ Φ => r ρ xw μ fun ts μ' => match ts with
    | [.int j] => -(2 ^ 62) ≤ j ∧ j < 2 ^ 62 ∧ Φ ((List.range j.toNat).map fun i => .int (i : Nat)) μ'
    | _ => False) := ⟨fun o s n h q => a.run o s n h fun {vs τs W1 H1 μ1} l1 o1 d1 h1 => by
  split at h1
  · obtain ⟨v, rfl, dv⟩ := one_dv d1
    refine ⟨_, by rw [dv.int], h1.1, h1.2.1, q l1 o1 (fun {W' H' μ'} l' o' i => ?_) h1.2.2⟩
    simp only [List.length_map, List.length_range]
    refine ⟨fun lt => ⟨lt, fun y H'' yl => ?_⟩, fun le => le⟩
    obtain ⟨rfl, rfl⟩ := yl
    refine ⟨W', .int (i : Nat), Grow.refl o'.sb, by simp [lt], ?_⟩
    rw [Int.zero_add]
    exact .int _
  · exact h1.elim⟩
instance sim_irng2 {t : TA} {r} [a : SimA K E t r] : SimI K E (iRng2 t) (fun ρ xw μ Φ => r ρ xw μ fun ts μ' => match ts with
    | [.int i, .int j] => (-(2 ^ 62) ≤ i ∧ i < 2 ^ 62 ∧ -(2 ^ 62) ≤ j ∧ j < 2 ^ 62) ∧ Φ ((List.range (j - i).toNat).map fun k => .int (i + (k : Nat))) μ'
    | _ => False) := ⟨fun o s n h q => a.run o s n h fun {vs τs W1 H1 μ1} l1 o1 d1 h1 => by
  split at h1
  · obtain ⟨v, w, rfl, dv, dw⟩ := two_dv d1
    refine ⟨_, _, by rw [dv.int, dw.int], h1.1, q l1 o1 (fun {W' H' μ'} l' o' i => ?_) h1.2⟩
    simp only [List.length_map, List.length_range]
    refine ⟨fun lt => ⟨lt, fun y H'' yl => ?_⟩, fun le => le⟩
    obtain ⟨rfl, rfl⟩ := yl
    exact ⟨W', .int (_ + (i : Nat)), Grow.refl o'.sb, by simp [lt], .int _⟩
  · exact h1.elim⟩
def rIenum (r : DA) : DL := fun ρ xw μ Φ => r ρ xw μ fun ts μ' => match ts with
  | [.lst l] => Φ ((l.zipIdx).map fun p => .tup [.int (p.2 : Nat), p.1]) μ'
  | _ => False
instance sim_ienum {t : TA} {r} [a : SimA K E t r] : SimI K E (iEnum K t) (rIenum r) := ⟨fun o s n h q => a.run o s n h fun {vs τs W1 H1 μ1} l1 o1 d1 h1 => by
  split at h1
  · rename_i l
    obtain ⟨v, rfl, dv⟩ := one_dv d1
    cases (show Dn K W1.B v (.lst l) from dv) with
    | @lst p xs _ e da =>
      refine ⟨p, xs, rfl, SqL.of (o1.sb _ _ e), q l1 o1 (fun {W' H' μ'} l' o' i => ?_) h1⟩
      have e' : H' p = some (.lst xs) := o'.sb _ _ (l'.b _ _ e)
      simp only [List.length_map, List.length_zipIdx]
      refine ⟨fun lt => ?_, fun le => ⟨xs, SqL.of e', by rw [da.length]; exact le⟩⟩
      obtain ⟨v, ev, dv⟩ := da.get (List.getElem?_eq_getElem lt)
      refine ⟨⟨xs, v, SqL.of e', ev⟩, fun y H'' yl => ?_⟩
      obtain ⟨p2, z, rfl, f, rfl, k⟩ := yl
      have e2 := k xs (SqL.of e')
      rw [ev] at e2
      cases e2
      refine ⟨{ W' with B := upd W'.B p2 (.tup [.int (i : Nat), v]) }, .tup [.int (i : Nat), l[i]], Grow.new o'.sb _ f, by simp [lt], ?_⟩
      exact .tup (SqT.of upd_same) (.cons (.int _) (.cons (dv.mono (l'.b.trans (same_new (o'.sb.free f)))) .nil))
  · exact h1.elim⟩
instance sim_istr {t : TE} {r} [a : SimE K E t r] : SimI K E (iStr t) (fun ρ xw μ Φ => r ρ xw μ fun t μ' => match t with
    | .str z => Φ (z.cps.toList.map fun c => .str ⟨#[c]⟩) μ'
    | _ => False) := ⟨fun o s n h q => a.run o s n h fun {v τ W1 H1 μ1} l1 o1 d1 h1 => by
  cases τ with
  | str z =>
    refine ⟨z, d1.str.1, q l1 o1 (fun {W' H' μ'} l' o' i => ?_) h1⟩
    simp only [List.length_map]
    refine ⟨fun lt => ⟨by show i < z.cps.size; simpa using lt, fun y H'' yl => ?_⟩, fun le => by show z.cps.size ≤ i; simpa using le⟩
    obtain ⟨rfl, c, ec, rfl⟩ := yl
    have ec' : z.cps.toList[i]? = some c := by simpa using ec
    refine ⟨W', .str ⟨#[c]⟩, Grow.refl o'.sb, by rw [List.getElem?_map, ec']; rfl, .str fun d hd => ?_⟩
    have : d = c := by simpa using hd
    rw [this]
    exact d1.str.2 c (List.mem_of_getElem? ec')
  | _ => exact h1.elim⟩
/-! ### for -/
def rFor (ri : DL) (g : DG) (b : DS) : DS := fun D xw ρ μ => ri ρ xw μ fun l μ1 => ∃ Pv : Nat → Rho → Mu → Prop, Pv 0 ρ μ1 ∧
  (∀ (i : Nat) (t : T) (ρ : Rho) (μ : Mu), l[i]? = some t → Pv i ρ μ → g t ρ xw μ fun ρ2 μ2 => b { D with nx := Pv (i + 1), ct := Pv (i + 1), bk := D.nx } xw ρ2 μ2) ∧ (∀ ρ μ, Pv l.length ρ μ → D.nx ρ μ)
instance sim_for {wi : TI} {g : TG} {tb : TS} {ri vs rg rb} [a : SimI K E wi ri] [b : SimG K E g vs rg] [c : SimS K E tb rb] : SimS K E (tFor wi g tb) (rFor ri rg rb) := ⟨fun {W H σ ρ μ xw D De} o s n k h => a.run o s n h fun {J l W1 H1 μ1} l1 o1 wk h1 => by
  obtain ⟨Pv, p0, turn, fin⟩ := h1
  refine ⟨fun i m σ H => i + m = l.length ∧ ∃ W' ρ μ, W1.Le W' ∧ Ok K W' H μ ∧ Sl K W' σ ρ ∧ Pv i ρ μ, ⟨l.length, Nat.zero_add _, W1, ρ, μ1, Wd.Le.refl, o1, s.mono l1, p0⟩, ?_⟩
  rintro i m σ2 H2 ⟨e, W2, ρ2, μ2, l2, o2, s2, p2⟩
  match m, e with
  | 0, e =>
    obtain rfl : i = l.length := e
    exact .inl ⟨(wk ⟨l2.b⟩ o2 _).2 (Nat.le_refl _), k.nx (l1.trans l2) o2 s2 (fin _ _ p2)⟩
  | m + 1, e =>
    have lt : i < l.length := by omega
    obtain ⟨go, yl⟩ := (wk ⟨l2.b⟩ o2 i).1 lt
    refine .inr ⟨go, fun σ H => ∃ W' ρ μ, W1.Le W' ∧ Ok K W' H μ ∧ Sl K W' σ ρ ∧ Pv (i + 1) ρ μ, fun σ' H' z => ⟨m, Nat.lt_succ_self m, by omega, z⟩, fun x H3 y => ?_⟩
    obtain ⟨W3, t, g3, et, dt⟩ := yl x H3 y
    have l3 := l2.trans (g3.le o2)
    refine b.run (g3.ok o2) (s2.mono (g3.le o2)) (n.mono (l1.trans l3)) (.of dt) (turn i t ρ2 μ2 et p2) fun l4 o4 s4 _ h4 => ?_
    have l5 := l3.trans l4
    exact c.run (xw := xw) (D := { D with nx := Pv (i + 1), ct := Pv (i + 1), bk := D.nx }) o4 s4 (n.mono (l1.trans l5)) ⟨fun l6 o6 s6 h6 => ⟨_, _, _, l5.trans l6, o6, s6, h6⟩, (k.mono (l1.trans l5)).rt, fun l6 o6 s6 h6 => (k.mono (l1.trans l5)).nx l6 o6 s6 h6, fun l6 o6 s6 h6 => ⟨_, _, _, l5.trans l6, o6, s6, h6⟩⟩ h4⟩
end Dl

set_option maxRecDepth 100000
set_option maxHeartbeats 4000000
namespace Dl
open PySem PySem.Spec PyProof.Rows L2 Gd
variable {K : PySem.W.Frag} {E : XK}
instance sim_yes : SimB K E tYes (fun ρ xw μ Φ => Φ true μ) := ⟨fun o _ _ h q => q Wd.Le.refl o h⟩
instance sim_itup {t : TE} {r} [a : SimE K E t r] : SimI K E (iTup K t) (rItup r) := ⟨fun o s n h q => a.run o s n h fun {v τ W1 H1 μ1} l1 o1 d1 h1 => by
  cases τ with
  | tup l =>
    cases (show Dn K W1.B v (.tup l) from d1) with
    | @tup p xs _ e da =>
      refine ⟨p, rfl, ⟨xs, sqT_mono o1.sb e⟩, q l1 o1 (fun {W' H' μ'} l' o' i => ?_) h1⟩
      have e' : SqT K H' p xs := sqT_mono (l'.b.trans o'.sb) e
      refine ⟨fun lt => ?_, fun le => ⟨xs, e', by rw [da.length]; exact le⟩⟩
      obtain ⟨v, ev, dv⟩ := da.get (List.getElem?_eq_getElem lt)
      refine ⟨⟨xs, v, e', ev⟩, fun y H'' yl => ?_⟩
      obtain ⟨rfl, k⟩ := yl
      have e2 := k xs e'
      rw [ev] at e2
      cases e2
      exact ⟨W', _, Grow.refl o'.sb, List.getElem?_eq_getElem lt, dv.mono l'.b⟩
  | _ => exact h1.elim⟩
/-! ### comprehensions -/
/-- a thing that is known to none is kept while the block runs -/
def Wd.gd (W : Wd) (D : Addr) (o : HO) : Wd := { W with G := upd W.G D o }
theorem gd_ok {W : Wd} {H : Hp} {μ : Mu} {D : Addr} {o : HO} (x : Ok K W H μ) (h : H D = some o) (ho : W.own D = none) : Ok K (W.gd D o) H μ := by
  refine ⟨fun a u q => ?_, x.sb, fun a k q => ?_, x.len, fun k r q => ?_⟩
  · by_cases z : a = D
    · subst z
      have q : upd W.G a o a = some u := q
      rw [upd_same] at q
      cases q
      exact h
    · exact x.sg _ _ ((upd_ne z).symm.trans q)
  · obtain ⟨a1, a2, a3, a4⟩ := x.lab a k q
    refine ⟨a1, ?_, a3, a4⟩
    have z : a ≠ D := fun z => by
      subst z
      have q : W.own a = some k := q
      rw [ho] at q
      cases q
    exact (upd_ne z).trans a2
  · obtain ⟨p, e, r1⟩ := x.res k r q
    exact ⟨p, e, ResOk.mono (W := W) (Same.refl _) (fun _ _ q => q) (fun _ _ _ q => q) r1⟩
/-- .. and told no more -/
theorem un_gd {W W2 : Wd} {H : Hp} {μ : Mu} {D : Addr} {o : HO} (g : W.G D = none) (b : W.B D = none) (l : (W.gd D o).Le W2) (x : Ok K W2 H μ) :
    W.Le { W2 with G := W.G } ∧ Ok K { W2 with G := W.G } H μ ∧ H D = some o ∧ W2.own D = none ∧ W2.B D = none := by
  have eg : W2.G = upd W.G D o := l.g
  have sg : Same W.G W2.G := by
    rw [eg]
    exact same_new g
  have gn : ∀ a, W2.G a = none → W.G a = none := fun a q => sg.free q
  refine ⟨⟨rfl, l.b, fun a u q => (l.nb a u q).imp id fun q => ?_, l.ad⟩, ⟨sg.trans x.sg, x.sb, fun a k q => ?_, x.len, fun k r q => ?_⟩, x.sg _ _ (by rw [eg]; exact upd_same), ?_, ?_⟩
  · rw [show (W.gd D o).G = W2.G from l.g.symm] at q
    exact gn a q
  · obtain ⟨a1, a2, a3, a4⟩ := x.lab a k q
    exact ⟨a1, gn a a2, a3, a4⟩
  · obtain ⟨p, e, r1⟩ := x.res k r q
    exact ⟨p, e, ResOk.mono (W := W2) (Same.refl _) (fun _ _ q => q) (fun _ _ _ q => q) r1⟩
  · cases q : W2.own D with
    | none => rfl
    | some k =>
      have := (x.lab D k q).2.1
      rw [eg, upd_same] at this
      cases this
  · cases q : W2.B D with
    | none => rfl
    | some u =>
      rcases l.nb D u q with q | q
      · rw [show (W.gd D o).B D = W.B D from rfl, b] at q
        cases q
      · rw [show (W.gd D o).G D = some o from upd_same] at q
        cases q
theorem write_ok {W : Wd} {H : Hp} {μ : Mu} {D : Addr} {o : HO} (x : Ok K W H μ) (hb : W.B D = none) (hg : W.G D = none) (ho : W.own D = none) : Ok K W (upd H D o) μ := by
  refine ⟨fun a u q => ?_, fun a u q => ?_, fun a k q => ?_, x.len, fun k r q => ?_⟩
  · rw [upd_ne (ne_of_none q hg)]
    exact x.sg _ _ q
  · rw [upd_ne (ne_of_none q hb)]
    exact x.sb _ _ q
  · obtain ⟨a1, a2, a3, a4⟩ := x.lab a k q
    refine ⟨a1, a2, ?_, a4⟩
    rw [upd_ne (fun z => by subst z; rw [ho] at q; cases q)]
    exact a3
  · obtain ⟨p, e, r1⟩ := x.res k r q
    refine ⟨p, e, ResOk.mono (W := W) (Same.refl _) (fun _ _ q => q) (fun a u o2 q => ?_) r1⟩
    rw [upd_ne (fun z => by subst z; rw [ho] at o2; cases o2)]
    exact q
def wipeR (ρ : Rho) : List Nat → Rho
  | [] => ρ
  | v :: vs => (wipeR ρ vs).set v none
theorem Sl.wipes {W : Wd} {σ : L2.St} {ρ : Rho} (s : Sl K W σ ρ) : ∀ vs : List Nat, Sl K W (L2.wipe σ vs) (wipeR ρ vs)
  | [] => s
  | _ :: vs => (s.wipes vs).wipe
def rLc (ri : DL) (js : List Nat) (rg : DG) (rt : DB) (re : DE) (vs : List Nat) : DL := fun ρ xw μ Φ => ri ρ xw μ fun l μ1 => (∀ i ∈ js, i ∈ vs) ∧ ∃ Pv : Nat → List T → Mu → Prop, Pv 0 [] μ1 ∧
  (∀ (i : Nat) (t : T) (acc : List T) (μ : Mu), l[i]? = some t → Pv i acc μ → rg t (wipeR ρ vs) xw μ fun ρ2 μ2 => rt ρ2 xw μ2 fun b μ3 => if b = true then re ρ2 xw μ3 fun y μ4 => y.flat = true ∧ acc.length < 1000000 ∧ Pv (i + 1) (acc ++ [y]) μ4 else Pv (i + 1) acc μ3) ∧
  ∀ acc μ, Pv l.length acc μ → Φ acc μ
theorem Wd.Le.own_free {W W' : Wd} {H : Hp} {μ : Mu} {D : Addr} (x : Ok K W' H μ) (h : H D = none) : W'.own D = none := by
  cases q : W'.own D with
  | none => rfl
  | some k => exact absurd h (x.lab D k q).2.2.1
instance sim_lc {wi : TI} {g : TG} {tt : TT} {te : TE} {vs ri js rg rt re} [a : SimI K E wi ri] [b : SimG K E g js rg] [c : SimB K E tt rt] [d : SimE K E te re] : SimL K E (tLc wi g tt te vs) (rLc ri js rg rt re vs) := ⟨fun {W H σ ρ μ xw Φ Q} o s n h q => a.run o s n h fun {J l W1 H1 μ1} l1 o1 wk h1 => by
  obtain ⟨sub, Pv, p0, turn, fin⟩ := h1
  intro D fD
  have gD : W1.G D = none := o1.sg.free fD
  refine ⟨fun i m H => i + m = l.length ∧ ∃ W' μ acc xs, W1.Le W' ∧ Ok K W' H μ ∧ Fr K W' H D xs acc ∧ Pv i acc μ, ⟨l.length, Nat.zero_add _, W1, μ1, [], [], Wd.Le.refl, (Fr.new o1 fD .nil).1, (Fr.new o1 fD .nil).2, p0⟩, ?_⟩
  rintro i m H2 ⟨e, W2, μ2, acc, xs, l2, o2, f2, p2⟩
  match m, e with
  | 0, e =>
    obtain rfl : i = l.length := e
    exact .inl ⟨(wk ⟨l2.b⟩ o2 _).2 (Nat.le_refl _), q (l1.trans l2) o2 f2 (fin _ _ p2)⟩
  | m + 1, e =>
    have lt : i < l.length := by omega
    obtain ⟨go, yl⟩ := (wk ⟨l2.b⟩ o2 i).1 lt
    refine .inr ⟨go, fun H => ∃ W' μ acc xs, W1.Le W' ∧ Ok K W' H μ ∧ Fr K W' H D xs acc ∧ Pv (i + 1) acc μ, fun H' z => ⟨m, Nat.lt_succ_self m, by omega, z⟩, fun x H3 y => ?_⟩
    obtain ⟨W3, t, g3, et, dt⟩ := yl x H3 y
    have l3 := l2.trans (g3.le o2)
    have o3 := g3.ok o2
    have h3 : H3 D = some (.lst xs) := g3.h _ _ f2.h
    have own3 : W3.own D = none := by rw [g3.own]; exact f2.o
    have b3 : W3.B D = none := by
      cases q : W3.B D with
      | none => rfl
      | some u =>
        rcases g3.nb D u q with q | q
        · rw [f2.b] at q; cases q
        · rw [f2.h] at q; cases q
    have g3n : W3.G D = none := by rw [g3.g]; exact f2.g
    have og := gd_ok o3 h3 own3
    have sg : Sl K (W3.gd D (.lst xs)) (L2.wipe σ vs) (wipeR ρ vs) := (s.mono (l1.trans l3)).wipes vs
    have xg : XL K (W3.gd D (.lst xs)) xw E := fun {C d fs τs W' H' μ'} l' o' ed df x => by
      obtain ⟨u1, u2, _⟩ := un_gd g3n b3 l' o'
      exact n ((l1.trans l3).trans u1) u2 ed df x
    have dt3 : Dv K (W3.gd D (.lst xs)) x t := .of dt
    refine b.run og sg xg dt3 (turn i t acc μ2 et p2) fun {σ5 ρ5 W5 H5 μ5} l5 o5 s5 w5 h5 => ⟨(w5 vs sub).trans ?_, ?_⟩
    · have : ∀ vs : List Nat, L2.wipe (L2.wipe σ vs) vs = L2.wipe σ vs := fun vs => by
        apply List.ext_getElem?
        intro j
        rw [wipe_at, wipe_at, wipe_length]
        by_cases m : j ∈ vs <;> simp [m]
      exact this vs
    · refine c.run o5 s5 (xg.mono l5) h5 fun {bb W6 H6 μ6} l6 o6 h6 => ?_
      cases bb with
      | false =>
        refine iteF ?_
        obtain ⟨u1, u2, u3, u4, u5⟩ := un_gd g3n b3 (l5.trans l6) o6
        have dn : DnAll K W6.B xs acc := (f2.d.mono g3.b).mono (l5.trans l6).b
        exact ⟨_, _, acc, xs, l3.trans u1, u2, ⟨u5, g3n, u4, u3, dn⟩, (if_neg Bool.false_ne_true).mp h6⟩
      | true =>
        refine iteT (d.run o6 (s5.mono l6) (xg.mono (l5.trans l6)) h6 fun {v7 τ7 W7 H7 μ7} l7 o7 d7 h7 => ?_)
        obtain ⟨u1, u2, u3, u4, u5⟩ := un_gd g3n b3 ((l5.trans l6).trans l7) o7
        have dn : DnAll K W7.B xs acc := (f2.d.mono g3.b).mono ((l5.trans l6).trans l7).b
        refine ⟨xs, u3, by rw [dn.length]; exact Nat.lt_of_lt_of_le h7.2.1 (line1 (Nat.le_refl _)), _, μ7, acc ++ [τ7], xs ++ [v7], l3.trans u1, write_ok u2 u5 g3n u4, ⟨u5, g3n, u4, upd_same, dn.append (.cons (flat_dn d7 h7.1) .nil)⟩, h7.2.2⟩⟩
/-- a map: nothing is changed by its turns -/
theorem rLc_map {l : List T} {js : List Nat} {rg : DG} {re : DE} {vs : List Nat} {ρ : Rho} {xw : XW} {μ : Mu} {Φ : List T → Mu → Prop} (f : T → T) (sub : ∀ i ∈ js, i ∈ vs) (sz : l.length ≤ 1000000)
    (turn : ∀ t ∈ l, (f t).flat = true ∧ ∀ Ψ : T → Mu → Prop, Ψ (f t) μ → rg t (wipeR ρ vs) xw μ fun ρ2 μ2 => re ρ2 xw μ2 Ψ) (h : Φ (l.map f) μ) :
    (∀ i ∈ js, i ∈ vs) ∧ ∃ Pv : Nat → List T → Mu → Prop, Pv 0 [] μ ∧
  (∀ (i : Nat) (t : T) (acc : List T) (μ : Mu), l[i]? = some t → Pv i acc μ → rg t (wipeR ρ vs) xw μ fun ρ2 μ2 => (fun ρ xw μ (Φ : Bool → Mu → Prop) => Φ true μ) ρ2 xw μ2 fun b μ3 => if b = true then re ρ2 xw μ3 fun y μ4 => y.flat = true ∧ acc.length < 1000000 ∧ Pv (i + 1) (acc ++ [y]) μ4 else Pv (i + 1) acc μ3) ∧
  ∀ acc μ, Pv l.length acc μ → Φ acc μ := by
  refine ⟨sub, fun i acc m => m = μ ∧ acc = (l.take i).map f, ⟨rfl, by simp⟩, ?_, ?_⟩
  · rintro i t acc m e ⟨rfl, rfl⟩
    obtain ⟨fl, tr⟩ := turn t (List.mem_of_getElem? e)
    have lt := (List.getElem?_eq_some_iff.mp e).1
    refine tr (fun y μ4 => y.flat = true ∧ _) ⟨fl, ?_, rfl, ?_⟩
    · rw [List.length_map, List.length_take]
      omega
    · rw [all_take e, List.map_append]
      rfl
  · rintro acc m ⟨rfl, rfl⟩
    rw [List.take_length]
    exact h
end Dl

set_option maxRecDepth 100000
set_option maxHeartbeats 4000000
namespace Dl
open PySem PySem.Spec PyProof.Rows L2 Gd
variable {K : PySem.W.Frag} {E : XK}
/-! ### what a def promises, told of data -/
/-- arguments (a thing that may be changed by its number among those handed in), what may be changed, what is wanted of an answer, of an error -/
abbrev DSpec := List T → Mu → (T → Mu → Prop) → XW → Prop
def liftSp (K : PySem.W.Frag) (n : Nat) (d : DSpec) : Sp := fun vs H Q E => vs.length = n ∧ ∃ (W : Wd) (ts : List T) (μ : Mu) (Φ : T → Mu → Prop) (xw : XW), Ok K W H μ ∧ DvAll K W vs ts ∧ d ts μ Φ xw ∧
  XL K W (fun C fs μ' => xw C fs (μ'.take μ.length)) E ∧ (∀ {v τ W' H' μ'}, W.Le W' → Ok K W' H' μ' → Dn K W'.B v τ → Φ τ (μ'.take μ.length) → Q v H')
/-- .. of a def that hands back a list that is new -/
def liftSpL (K : PySem.W.Frag) (n : Nat) (d : List T → Mu → (List T → Mu → Prop) → XW → Prop) : Sp := fun vs H Q E => vs.length = n ∧ ∃ (W : Wd) (ts : List T) (μ : Mu) (Φ : List T → Mu → Prop) (xw : XW), Ok K W H μ ∧ DvAll K W vs ts ∧ d ts μ Φ xw ∧
  XL K W (fun C fs μ' => xw C fs (μ'.take μ.length)) E ∧ (∀ {p xs l W' H' μ'}, W.Le W' → Ok K W' H' μ' → Fr K W' H' p xs l → Φ l (μ'.take μ.length) → Q (.ref p) H')
theorem DvAll.length {W : Wd} : ∀ {vs : List V} {ts : List T}, DvAll K W vs ts → vs.length = ts.length
  | _, _, .nil => rfl
  | _, _, .cons _ r => congrArg (· + 1) r.length
theorem DvAll.get {W : Wd} : ∀ {vs : List V} {ts : List T} {i : Nat} {t : T}, DvAll K W vs ts → ts[i]? = some t → ∃ v, vs[i]? = some v ∧ Dv K W v t
  | _, _, 0, _, .cons d _, e => by
    cases (Option.some.inj e)
    exact ⟨_, rfl, d⟩
  | _, _, i + 1, _, .cons _ r, e => r.get (i := i) e
theorem sl_start {W : Wd} {vs : List V} {ts : List T} (N : List PySem.Str) (d : DvAll K W vs ts) : Sl K W (L2.start N vs) (ts.map some ++ List.replicate (N.length - ts.length) none) := by
  unfold L2.start
  rw [d.length]
  refine ⟨by simp [d.length], fun i t e => ?_⟩
  by_cases lt : i < ts.length
  · rw [List.getElem?_append_left (by simpa using lt), List.getElem?_map] at e
    rw [List.getElem?_append_left (by simpa [d.length] using lt), List.getElem?_map]
    cases q : ts[i]? with
    | none => rw [q] at e; cases e
    | some s =>
      rw [q] at e
      cases e
      obtain ⟨v, a, b⟩ := d.get q
      exact ⟨v, by rw [a]; rfl, b⟩
  · rw [List.getElem?_append_right (by simpa using lt)] at e
    simp only [List.getElem?_replicate] at e
    split at e <;> cases e
/-- what may be changed is told no more: its place is known to none -/
theorem Ok.drop {W : Wd} {H : Hp} {μ : Mu} {k : Nat} {l : List T} (x : Ok K W H μ) (e : μ[k]? = some (.lst l)) : ∃ p xs W', W.ad[k]? = some p ∧ W.Le W' ∧ Ok K W' H (μ.set k .gone) ∧ Fr K W' H p xs l := by
  obtain ⟨p, e1, o, xs, eh, d⟩ := x.res k _ e
  obtain ⟨b1, g1, _, lt⟩ := x.lab p k o
  refine ⟨p, xs, { W with own := fun a => if a = p then none else W.own a }, e1, ⟨rfl, Same.refl _, fun _ _ q => .inl q, fun _ _ q => q⟩, ⟨x.sg, x.sb, fun a j q => ?_, by rw [List.length_set]; exact x.len, fun j r q => ?_⟩, ⟨b1, g1, if_pos rfl, eh, d⟩⟩
  · by_cases z : a = p
    · subst z
      have q : (if a = a then (none : Option Nat) else W.own a) = some j := q
      rw [if_pos rfl] at q
      cases q
    · have q : (if a = p then (none : Option Nat) else W.own a) = some j := q
      rw [if_neg z] at q
      obtain ⟨a1, a2, a3, a4⟩ := x.lab a j q
      exact ⟨a1, a2, a3, by rw [List.length_set]; exact a4⟩
  · by_cases z : k = j
    · subst z
      rw [List.getElem?_set_self lt] at q
      cases q
      exact ⟨p, e1, trivial⟩
    · rw [List.getElem?_set_ne z] at q
      obtain ⟨p2, e2, r2⟩ := x.res j r q
      refine ⟨p2, e2, ?_⟩
      have key : ∀ a i, W.own a = some i → i = j → (if a = p then (none : Option Nat) else W.own a) = some i := fun a i q2 q3 => by
        rw [if_neg (fun z2 => by subst z2; rw [o] at q2; cases q2; exact z q3)]
        exact q2
      cases r with
      | lst l =>
        obtain ⟨o2, xs2, eh2, d2⟩ := r2
        exact ⟨key _ _ o2 rfl, xs2, eh2, d2⟩
      | drw s n =>
        obtain ⟨o2, lc, ll, cs, ls, i, o3, o4, rest⟩ := r2
        exact ⟨key _ _ o2 rfl, lc, ll, cs, ls, i, key _ _ o3 rfl, key _ _ o4 rfl, rest⟩
      | obj C fs =>
        obtain ⟨o2, dx, vs, o3, rest⟩ := r2
        exact ⟨key _ _ o2 rfl, dx, vs, key _ _ o3 rfl, rest⟩
      | gone => trivial
/-- an answer -/
def rtD (n : Nat) (Φ : T → Mu → Prop) : T → Mu → Prop := fun τ μ => match τ with
  | .rs k => n ≤ k ∧ ∃ l, μ[k]? = some (.lst l) ∧ Φ (.lst l) (μ.take n)
  | τ => Φ τ (μ.take n)
def rtL (n : Nat) (Φ : List T → Mu → Prop) : T → Mu → Prop := fun τ μ => match τ with
  | .rs k => n ≤ k ∧ ∃ l, μ[k]? = some (.lst l) ∧ Φ l (μ.take n)
  | _ => False
theorem take_set {μ : Mu} {n k : Nat} {r : Res} (h : n ≤ k) : (μ.set k r).take n = μ.take n := by
  apply List.ext_getElem?
  intro i
  simp only [List.getElem?_take]
  by_cases lt : i < n
  · simp only [lt, if_true]
    rw [List.getElem?_set_ne (by omega)]
  · simp [lt]
theorem body_sim {t : TS} {r : DS} {N : List PySem.Str} {n : Nat} {d : DSpec} {vs : List V} {H : Hp} {Q : VK} (h : liftSp K n d vs H Q E) [s : SimS K E t r]
    (k : ∀ ts μ Φ xw, ts.length = n → d ts μ Φ xw → r ⟨fun _ μ' => Φ .non (μ'.take μ.length), rtD μ.length Φ, fun _ _ => False, fun _ _ => False⟩ (fun C fs μ' => xw C fs (μ'.take μ.length)) (ts.map some ++ List.replicate (N.length - n) none) μ) :
    t { nx := fun _ H' => Q .non H', rt := Q } (L2.start N vs) H := by
  obtain ⟨hn, W, ts, μ, Φ, xw, o, dv, sp, xl, q⟩ := h
  have ln : ts.length = n := by rw [← dv.length]; exact hn
  have st := sl_start N dv
  rw [ln] at st
  refine s.run o st xl ⟨fun l o' s' h => q l o' .non h, fun {v τ W' H' μ'} l o' d' h => ?_, fun _ _ _ h => h, fun _ _ _ h => h⟩ (k ts μ Φ xw ln sp)
  rcases d'.dn with ⟨k2, p, rfl, e1, rfl⟩ | dn
  · obtain ⟨le, l2, e2, h⟩ := h
    obtain ⟨p2, xs, W2, e3, l3, o3, f3⟩ := o'.drop e2
    rw [e1] at e3
    cases e3
    obtain ⟨W3, l4, o4, d4⟩ := f3.froz o3
    exact q ((l.trans l3).trans l4) o4 d4 (by rw [take_set le]; exact h)
  · cases τ with
    | rs k2 => cases dn
    | _ => exact q l o' dn h
theorem body_simL {t : TS} {r : DS} {N : List PySem.Str} {n : Nat} {d} {vs : List V} {H : Hp} {Q : VK} (h : liftSpL K n d vs H Q E) [s : SimS K E t r]
    (k : ∀ ts μ Φ xw, ts.length = n → d ts μ Φ xw → r ⟨fun _ μ' => False, rtL μ.length Φ, fun _ _ => False, fun _ _ => False⟩ (fun C fs μ' => xw C fs (μ'.take μ.length)) (ts.map some ++ List.replicate (N.length - n) none) μ) :
    t { nx := fun _ H' => Q .non H', rt := Q } (L2.start N vs) H := by
  obtain ⟨hn, W, ts, μ, Φ, xw, o, dv, sp, xl, q⟩ := h
  have ln : ts.length = n := by rw [← dv.length]; exact hn
  have st := sl_start N dv
  rw [ln] at st
  refine s.run o st xl ⟨fun l o' s' h => False.elim h, fun {v τ W' H' μ'} l o' d' h => ?_, fun _ _ _ h => h, fun _ _ _ h => h⟩ (k ts μ Φ xw ln sp)
  cases τ with
  | rs k2 =>
    obtain ⟨p, e1, rfl⟩ := (show ∃ p, _ from d')
    obtain ⟨le, l2, e2, h⟩ := h
    obtain ⟨p2, xs, W2, e3, l3, o3, f3⟩ := o'.drop e2
    rw [e1] at e3
    cases e3
    exact q (l.trans l3) o3 f3 (by rw [take_set le]; exact h)
  | _ => exact h.elim
/-! ### calls -/
inductive Ren (ks : List Nat) : T → T → Prop
  | fl {t : T} (h : t.flat = true) : Ren ks t t
  | rs {k i : Nat} (h : ks[i]? = some k) : Ren ks (.rs k) (.rs i)
inductive RenAll (ks : List Nat) : List T → List T → Prop
  | nil : RenAll ks [] []
  | cons {t s : T} {ts ss : List T} (h : Ren ks t s) (r : RenAll ks ts ss) : RenAll ks (t :: ts) (s :: ss)
def mget (μ : Mu) : List Nat → Option (List Res)
  | [] => some []
  | k :: ks => match μ[k]? with
    | some r => (mget μ ks).map (r :: ·)
    | none => none
def mput (μ : Mu) : List Nat → List Res → Mu
  | k :: ks, r :: rs => (mput μ ks rs).set k r
  | _, _ => μ
def CallD {α : Type} (d : List T → Mu → (α → Mu → Prop) → XW → Prop) (ts : List T) (μ : Mu) (Φ : α → Mu → Prop) (xw : XW) : Prop :=
  ∃ ks ts' rs, ks.Nodup ∧ RenAll ks ts ts' ∧ mget μ ks = some rs ∧ d ts' rs (fun τ μc => Φ τ (mput μ ks μc)) (fun C fs μc => xw C fs (mput μ ks μc))
theorem ren_flats : ∀ {ts : List T}, flats ts = true → RenAll [] ts ts
  | [], _ => .nil
  | t :: r, h => by
    simp only [flats, Bool.and_eq_true] at h
    exact .cons (.fl h.1) (ren_flats h.2)
theorem callF {α : Type} {d : List T → Mu → (α → Mu → Prop) → XW → Prop} {ts : List T} {μ : Mu} {Φ : α → Mu → Prop} {xw : XW} (h : flats ts = true) (k : d ts [] (fun τ _ => Φ τ μ) (fun C fs _ => xw C fs μ)) : CallD d ts μ Φ xw :=
  ⟨[], ts, [], .nil, ren_flats h, rfl, k⟩
/-- the first is the thing at k, all others are data -/
theorem callR {α : Type} {d : List T → Mu → (α → Mu → Prop) → XW → Prop} {k : Nat} {ts : List T} {μ : Mu} {r : Res} {Φ : α → Mu → Prop} {xw : XW} (e : μ[k]? = some r) (h : flats ts = true) (q : d (.rs 0 :: ts) [r] (fun τ μc => Φ τ (mput μ [k] μc)) (fun C fs μc => xw C fs (mput μ [k] μc))) : CallD d (.rs k :: ts) μ Φ xw := by
  refine ⟨[k], .rs 0 :: ts, [r], (by simp), .cons (.rs rfl) ?_, by simp [mget, e], q⟩
  have : ∀ {ts : List T}, flats ts = true → RenAll [k] ts ts := by
    intro ts
    induction ts with
    | nil => exact fun _ => .nil
    | cons t r ih =>
      intro h
      simp only [flats, Bool.and_eq_true] at h
      exact .cons (.fl h.1) (ih h.2)
  exact this h
def ixk (ks : List Nat) (k : Nat) : Option Nat := if k ∈ ks then some (ks.idxOf k) else none
theorem ixk_some {ks : List Nat} {k i : Nat} (h : ixk ks k = some i) : ks[i]? = some k := by
  unfold ixk at h
  split at h
  · rename_i m
    cases h
    rw [List.getElem?_eq_getElem (List.idxOf_lt_length_of_mem m), List.getElem_idxOf]
  · cases h
theorem ixk_of {ks : List Nat} (nd : ks.Nodup) {k i : Nat} (h : ks[i]? = some k) : ixk ks k = some i := by
  have m : k ∈ ks := List.mem_of_getElem? h
  obtain ⟨lt, e⟩ := List.getElem?_eq_some_iff.mp h
  unfold ixk
  rw [if_pos m]
  congr 1
  subst e
  exact nd.idxOf_getElem i lt
theorem mget_len {μ : Mu} : ∀ {ks : List Nat} {rs : List Res}, mget μ ks = some rs → rs.length = ks.length
  | [], _, h => by cases h; rfl
  | k :: ks, _, h => by
    simp only [mget] at h
    split at h
    · rw [Option.map_eq_some_iff] at h
      obtain ⟨r2, e, rfl⟩ := h
      simp [mget_len e]
    · cases h
theorem mget_at {μ : Mu} : ∀ {ks : List Nat} {rs : List Res} {i : Nat} {r : Res}, mget μ ks = some rs → rs[i]? = some r → ∃ k, ks[i]? = some k ∧ μ[k]? = some r
  | [], _, i, r, h, e => by cases h; simp at e
  | k :: ks, _, i, r, h, e => by
    simp only [mget] at h
    split at h
    · rename_i r0 e0
      rw [Option.map_eq_some_iff] at h
      obtain ⟨r2, e2, rfl⟩ := h
      match i, e with
      | 0, e => cases e; exact ⟨k, rfl, e0⟩
      | i + 1, e => exact mget_at e2 (i := i) e
    · cases h
theorem mget_lt {μ : Mu} : ∀ {ks : List Nat} {rs : List Res} {k : Nat}, mget μ ks = some rs → k ∈ ks → k < μ.length
  | k0 :: ks, _, k, h, m => by
    simp only [mget] at h
    split at h
    · rename_i r0 e0
      rw [Option.map_eq_some_iff] at h
      obtain ⟨r2, e2, rfl⟩ := h
      rcases List.mem_cons.mp m with z | z
      · subst z; exact (List.getElem?_eq_some_iff.mp e0).1
      · exact mget_lt e2 z
    · cases h
theorem mput_len {μ : Mu} : ∀ {ks : List Nat} {rs : List Res}, (mput μ ks rs).length = μ.length
  | [], _ => by simp [mput]
  | _ :: _, [] => by simp [mput]
  | k :: ks, r :: rs => by simp [mput, mput_len]
theorem mput_out {μ : Mu} {j : Nat} : ∀ {ks : List Nat} {rs : List Res}, j ∉ ks → (mput μ ks rs)[j]? = μ[j]?
  | [], _, _ => by simp [mput]
  | _ :: _, [], _ => by simp [mput]
  | k :: ks, r :: rs, h => by
    simp only [mput]
    rw [List.getElem?_set_ne (fun z => h (by simp [z])), mput_out (fun z => h (List.mem_cons_of_mem _ z))]
theorem mput_in {μ : Mu} : ∀ {ks : List Nat} {rs : List Res} {i k : Nat}, ks.Nodup → (∀ k ∈ ks, k < μ.length) → ks[i]? = some k → ks.length ≤ rs.length → (mput μ ks rs)[k]? = rs[i]?
  | k0 :: ks, r :: rs, 0, k, nd, lt, e, le => by
    cases e
    simp only [mput]
    rw [List.getElem?_set_self (by rw [mput_len]; exact lt _ List.mem_cons_self)]
    rfl
  | k0 :: ks, r :: rs, i + 1, k, nd, lt, e, le => by
    simp only [mput]
    have m : k ∈ ks := List.mem_of_getElem? (show ks[i]? = some k from e)
    rw [List.getElem?_set_ne (fun z => (List.nodup_cons.mp nd).1 (by rw [z]; exact m))]
    exact mput_in (List.nodup_cons.mp nd).2 (fun k hk => lt k (List.mem_cons_of_mem _ hk)) (show ks[i]? = some k from e) (by simpa using le)
/-- the callee's world -/
def Wd.cal (W : Wd) (H : Hp) (ks : List Nat) : Wd where
  G := fun a => if (∃ k, W.own a = some k ∧ k ∈ ks) then none else H a
  B := W.B
  ad := ks.filterMap fun k => W.ad[k]?
  own := fun a => (W.own a).bind (ixk ks)
open Classical in
theorem cal_ad {W : Wd} : ∀ {ks : List Nat} {i k : Nat}, (∀ k ∈ ks, k < W.ad.length) → ks[i]? = some k → (ks.filterMap fun k => W.ad[k]?)[i]? = W.ad[k]?
  | k0 :: ks, i, k, lt, e => by
    have h0 := lt k0 List.mem_cons_self
    rw [List.filterMap_cons, List.getElem?_eq_getElem h0]
    match i, e with
    | 0, e => cases e; simp [List.getElem?_eq_getElem h0]
    | i + 1, e => exact cal_ad (ks := ks) (fun k hk => lt k (List.mem_cons_of_mem _ hk)) (show ks[i]? = some k from e)
theorem cal_len {W : Wd} : ∀ {ks : List Nat}, (∀ k ∈ ks, k < W.ad.length) → (ks.filterMap fun k => W.ad[k]?).length = ks.length
  | [], _ => rfl
  | k0 :: ks, lt => by
    have h0 := lt k0 List.mem_cons_self
    rw [List.filterMap_cons, List.getElem?_eq_getElem h0]
    simp [cal_len (ks := ks) fun k hk => lt k (List.mem_cons_of_mem _ hk)]
theorem ResOk.relab {W W' : Wd} {H H' : Hp} {k j : Nat} {p : Addr} {r : Res} (b : Same W.B W'.B) (o : ∀ a, W.own a = some k → W'.own a = some j ∧ ∀ u, H a = some u → H' a = some u) (h : ResOk K W H k p r) : ResOk K W' H' j p r := by
  cases r with
  | lst l =>
    obtain ⟨o2, xs2, eh2, d2⟩ := h
    exact ⟨(o _ o2).1, xs2, (o _ o2).2 _ eh2, d2.mono b⟩
  | drw s n =>
    obtain ⟨o2, lc, ll, cs, ls, i, o3, o4, ne, e1, e2, e3, rest⟩ := h
    exact ⟨(o _ o2).1, lc, ll, cs, ls, i, (o _ o3).1, (o _ o4).1, ne, (o _ o2).2 _ e1, (o _ o3).2 _ e2, (o _ o4).2 _ e3, rest⟩
  | obj C fs =>
    obtain ⟨o2, dx, vs, o3, e1, e2, d, c⟩ := h
    exact ⟨(o _ o2).1, dx, vs, (o _ o3).1, (o _ o2).2 _ e1, (o _ o3).2 _ e2, d.mono b, c⟩
  | gone => trivial
theorem cal_ok {W : Wd} {H : Hp} {μ : Mu} {ks : List Nat} {rs : List Res} (x : Ok K W H μ) (nd : ks.Nodup) (g : mget μ ks = some rs) : Ok K (W.cal H ks) H rs := by
  have lt : ∀ k ∈ ks, k < W.ad.length := fun k hk => by rw [x.len]; exact mget_lt g hk
  refine ⟨fun a u q => ?_, x.sb, fun a i q => ?_, by rw [mget_len g]; exact cal_len lt, fun i r q => ?_⟩
  · have q : (if (∃ k, W.own a = some k ∧ k ∈ ks) then none else H a) = some u := q
    split at q
    · cases q
    · exact q
  · obtain ⟨k, e1, e2⟩ := Option.bind_eq_some_iff.mp (show (W.own a).bind (ixk ks) = some i from q)
    obtain ⟨a1, a2, a3, a4⟩ := x.lab a k e1
    have ek := ixk_some e2
    refine ⟨a1, ?_, a3, ?_⟩
    · show (if (∃ k, W.own a = some k ∧ k ∈ ks) then none else H a) = none
      rw [if_pos ⟨k, e1, List.mem_of_getElem? ek⟩]
    · rw [mget_len g]
      exact (List.getElem?_eq_some_iff.mp ek).1
  · obtain ⟨k, ek, er⟩ := mget_at g q
    obtain ⟨p, ep, r1⟩ := x.res k r er
    refine ⟨p, ?_, ResOk.relab (W := W) (H := H) (k := k) (Same.refl _) (fun a o => ⟨?_, fun _ q => q⟩) r1⟩
    · show (ks.filterMap fun k => W.ad[k]?)[i]? = some p
      rw [cal_ad lt ek]
      exact ep
    · show (W.own a).bind (ixk ks) = some i
      rw [o]
      exact ixk_of nd ek
theorem cal_dv {W : Wd} {H : Hp} {μ : Mu} {ks : List Nat} {rs : List Res} (x : Ok K W H μ) (g : mget μ ks = some rs) : ∀ {vs : List V} {ts ts' : List T}, DvAll K W vs ts → RenAll ks ts ts' → DvAll K (W.cal H ks) vs ts'
  | _, _, _, .nil, .nil => .nil
  | _, _, _, .cons d r, .cons h k => by
    refine .cons ?_ (cal_dv x g r k)
    cases h with
    | fl f =>
      have q : Dn K W.B _ _ := flat_dn d f
      exact Dv.of (W := W.cal H ks) q
    | rs e =>
      obtain ⟨p, ep, rfl⟩ := (show ∃ p, _ from d)
      refine ⟨p, ?_, rfl⟩
      show (ks.filterMap fun k => W.ad[k]?)[_]? = some p
      rw [cal_ad (fun k hk => by rw [x.len]; exact mget_lt g hk) e]
      exact ep
/-- behind the call -/
def Wd.bac (W W' : Wd) (ks : List Nat) : Wd where
  G := W.G
  B := W'.B
  ad := W.ad
  own := fun a => match W'.own a with
    | some i => ks[i]?
    | none => if (∃ k, W.own a = some k ∧ k ∈ ks) then none else W.own a
theorem cal_bac {W W' : Wd} {H H' : Hp} {μ μ' : Mu} {ks : List Nat} {rs : List Res} (x : Ok K W H μ) (nd : ks.Nodup) (g : mget μ ks = some rs) (l : (W.cal H ks).Le W') (x' : Ok K W' H' μ') :
    W.Le (W.bac W' ks) ∧ Ok K (W.bac W' ks) H' (mput μ ks (μ'.take ks.length)) ∧ (W.bac W' ks).B = W'.B := by
  have lt : ∀ k ∈ ks, k < μ.length := fun k hk => mget_lt g hk
  have lta : ∀ k ∈ ks, k < W.ad.length := fun k hk => by rw [x.len]; exact lt k hk
  have gn : ∀ a, (W.cal H ks).G a = none → W.G a = none := fun a q => by
    have q : (if (∃ k, W.own a = some k ∧ k ∈ ks) then none else H a) = none := q
    split at q
    · rename_i h
      obtain ⟨k, e, _⟩ := h
      exact (x.lab a k e).2.1
    · exact x.sg.free q
  -- a thing of another one stands as it stood
  have oth : ∀ a j, W.own a = some j → j ∉ ks → (W.cal H ks).G a = H a := fun a j e h => by
    show (if (∃ k, W.own a = some k ∧ k ∈ ks) then none else H a) = H a
    rw [if_neg]
    rintro ⟨k, e2, m⟩
    rw [e] at e2
    cases e2
    exact h m
  have nown : ∀ a j, W.own a = some j → j ∉ ks → W'.own a = none := fun a j e h => by
    cases q : W'.own a with
    | none => rfl
    | some i =>
      have := (x'.lab a i q).2.1
      rw [l.g, oth a j e h] at this
      exact absurd this (x.lab a j e).2.2.1
  have stay : ∀ a j u, W.own a = some j → j ∉ ks → H a = some u → H' a = some u := fun a j u e h q => x'.sg a u (by rw [l.g, oth a j e h]; exact q)
  have len' : ks.length ≤ μ'.length := by
    rw [← x'.len]
    have : ks.length = (W.cal H ks).ad.length := (cal_len lta).symm
    rw [this]
    cases q : (W.cal H ks).ad.length with
    | zero => omega
    | succ n =>
      have := l.ad n ((W.cal H ks).ad[n]'(by omega)) (List.getElem?_eq_getElem _)
      have := (List.getElem?_eq_some_iff.mp this).1
      omega
  refine ⟨⟨rfl, l.b, fun a u q => (l.nb a u q).imp id (gn a), fun _ _ q => q⟩, ⟨fun a u q => ?_, x'.sb, fun a k q => ?_, by rw [mput_len]; exact x.len, fun j r q => ?_⟩, rfl⟩
  · apply x'.sg
    rw [l.g]
    show (if (∃ k, W.own a = some k ∧ k ∈ ks) then none else H a) = some u
    rw [if_neg]
    · exact x.sg _ _ q
    · rintro ⟨k, e, _⟩
      have q : W.G a = some u := q
      rw [(x.lab a k e).2.1] at q
      cases q
  · have q : (match W'.own a with | some i => ks[i]? | none => if (∃ k, W.own a = some k ∧ k ∈ ks) then none else W.own a) = some k := q
    split at q
    · rename_i i e
      obtain ⟨a1, a2, a3, a4⟩ := x'.lab a i e
      refine ⟨a1, gn a (by rw [← l.g]; exact a2), a3, ?_⟩
      rw [mput_len]
      exact lt k (List.mem_of_getElem? q)
    · split at q
      · cases q
      · rename_i h
        have nk : k ∉ ks := fun m => h ⟨k, q, m⟩
        obtain ⟨a1, a2, a3, a4⟩ := x.lab a k q
        refine ⟨?_, a2, ?_, by rw [mput_len]; exact a4⟩
        · show W'.B a = none
          cases z : W'.B a with
          | none => rfl
          | some u =>
            rcases l.nb a u z with z | z
            · rw [show (W.cal H ks).B a = W.B a from rfl, a1] at z
              cases z
            · rw [oth a k q nk] at z
              exact absurd z a3
        · cases z : H a with
          | none => exact absurd z a3
          | some u =>
            rw [stay a k u q nk z]
            exact fun z => by cases z
  · by_cases m : j ∈ ks
    · obtain ⟨i, ei⟩ := List.getElem?_of_mem m
      have li : i < ks.length := (List.getElem?_eq_some_iff.mp ei).1
      rw [mput_in nd lt ei (by rw [List.length_take]; omega), List.getElem?_take, if_pos li] at q
      obtain ⟨p, ep, r1⟩ := x'.res i r q
      have ea : (W.cal H ks).ad[i]? = W.ad[j]? := cal_ad lta ei
      refine ⟨p, ?_, ResOk.relab (W := W') (H := H') (k := i) (Same.refl _) (fun a o => ⟨?_, fun _ q => q⟩) r1⟩
      · show W.ad[j]? = some p
        cases z : W.ad[j]? with
        | none =>
          have := lta j m
          rw [List.getElem?_eq_getElem this] at z
          cases z
        | some p2 =>
          rw [z] at ea
          have := l.ad i p2 ea
          rw [ep] at this
          exact this.symm
      · show (match W'.own a with | some i => ks[i]? | none => _) = some j
        rw [o]
        exact ei
    · rw [mput_out m] at q
      obtain ⟨p, ep, r1⟩ := x.res j r q
      refine ⟨p, ep, ResOk.relab (W := W) (H := H) (k := j) l.b (fun a o => ⟨?_, fun u q => stay a j u o m q⟩) r1⟩
      show (match W'.own a with | some i => ks[i]? | none => _) = some j
      rw [nown a j o m]
      show (if (∃ k, W.own a = some k ∧ k ∈ ks) then none else W.own a) = some j
      rw [if_neg]
      · exact o
      · rintro ⟨k, e2, m2⟩
        rw [o] at e2
        cases e2
        exact m m2
end Dl

set_option maxRecDepth 100000
set_option maxHeartbeats 4000000
namespace Dl
open PySem PySem.Spec PyProof.Rows L2 Gd
variable {K : PySem.W.Frag} {E : XK}
/-- defaults, told of data -/
class SimD (K : PySem.W.Frag) (vs : List V) (ts : outParam (List T)) : Prop where
  all : ∀ W : Wd, DvAll K W vs ts
instance sim_dnil : SimD K [] [] := ⟨fun _ => .nil⟩
instance sim_dint {i : Int} {vs : List V} {ts} [a : SimD K vs ts] : SimD K (.int i :: vs) (.int i :: ts) := ⟨fun W => .cons (Dv.of (.int i)) (a.all W)⟩
instance sim_dbl {i : Bool} {vs : List V} {ts} [a : SimD K vs ts] : SimD K (.bl i :: vs) (.bl i :: ts) := ⟨fun W => .cons (Dv.of (.bl i)) (a.all W)⟩
instance sim_dnon {vs : List V} {ts} [a : SimD K vs ts] : SimD K (.non :: vs) (.non :: ts) := ⟨fun W => .cons (Dv.of .non) (a.all W)⟩
theorem DvAll.app {W : Wd} : ∀ {vs us : List V} {ts ss : List T}, DvAll K W vs ts → DvAll K W us ss → DvAll K W (vs ++ us) (ts ++ ss)
  | _, _, _, _, .nil, h => h
  | _, _, _, _, .cons d r, h => .cons d (r.app h)
theorem xl_cal {W : Wd} {H : Hp} {μ : Mu} {ks : List Nat} {rs : List Res} {xw : XW} (x : Ok K W H μ) (nd : ks.Nodup) (g : mget μ ks = some rs) (n : XL K W xw E) : XL K (W.cal H ks) (fun C fs μ' => (fun C fs μc => xw C fs (mput μ ks μc)) C fs (μ'.take rs.length)) E := fun {C d fs τs W' H' μ'} l o e df h => by
  obtain ⟨b1, b2, b3⟩ := cal_bac x nd g l o
  rw [mget_len g] at h
  exact n b1 b2 e (by rw [b3]; exact df) h
/-- the promise is called -/
theorem call_sim {n : Nat} {d : DSpec} {W : Wd} {H : Hp} {μ : Mu} {vs : List V} {ts : List T} {Φ : T → Mu → Prop} {xw : XW} {Q : VK} (x : Ok K W H μ) (dv : DvAll K W vs ts) (ln : ts.length = n) (xl : XL K W xw E) (h : CallD d ts μ Φ xw)
    (q : ∀ {v τ W' H' μ'}, W.Le W' → Ok K W' H' μ' → Dv K W' v τ → Φ τ μ' → Q v H') : liftSp K n d vs H Q E := by
  obtain ⟨ks, ts', rs, nd, ren, g, h⟩ := h
  refine ⟨by rw [dv.length]; exact ln, W.cal H ks, ts', rs, _, _, cal_ok x nd g, cal_dv x g dv ren, h, xl_cal x nd g xl, fun {v τ W' H' μ'} l o d2 h2 => ?_⟩
  obtain ⟨b1, b2, b3⟩ := cal_bac x nd g l o
  rw [mget_len g] at h2
  exact q b1 b2 (.of (by rw [b3]; exact d2)) h2
theorem call_simL {n : Nat} {d} {W : Wd} {H : Hp} {μ : Mu} {vs : List V} {ts : List T} {Φ : List T → Mu → Prop} {xw : XW} {Q : VK} (x : Ok K W H μ) (dv : DvAll K W vs ts) (ln : ts.length = n) (xl : XL K W xw E) (h : CallD d ts μ Φ xw)
    (q : ∀ {p xs l W' H' μ'}, W.Le W' → Ok K W' H' μ' → Fr K W' H' p xs l → Φ l μ' → Q (.ref p) H') : liftSpL K n d vs H Q E := by
  obtain ⟨ks, ts', rs, nd, ren, g, h⟩ := h
  refine ⟨by rw [dv.length]; exact ln, W.cal H ks, ts', rs, _, _, cal_ok x nd g, cal_dv x g dv ren, h, xl_cal x nd g xl, fun {p xs l W' H' μ'} le o f h2 => ?_⟩
  obtain ⟨b1, b2, b3⟩ := cal_bac x nd g le o
  rw [mget_len g] at h2
  refine q b1 b2 ⟨by rw [b3]; exact f.b, ?_, ?_, f.h, by rw [b3]; exact f.d⟩ h2
  · have := f.g
    rw [le.g] at this
    have z : (if (∃ k, W.own p = some k ∧ k ∈ ks) then none else H p) = none := this
    split at z
    · rename_i h3
      obtain ⟨k, e, _⟩ := h3
      exact (x.lab p k e).2.1
    · exact x.sg.free z
  · show (match W'.own p with | some i => ks[i]? | none => if (∃ k, W.own p = some k ∧ k ∈ ks) then none else W.own p) = none
    rw [f.o]
    show (if (∃ k, W.own p = some k ∧ k ∈ ks) then none else W.own p) = none
    split
    · rfl
    · rename_i h3
      cases z : W.own p with
      | none => rfl
      | some k =>
        exfalso
        have nk : k ∉ ks := fun m => h3 ⟨k, z, m⟩
        have g2 : (W.cal H ks).G p = H p := by
          show (if (∃ k, W.own p = some k ∧ k ∈ ks) then none else H p) = H p
          rw [if_neg h3]
        have := f.g
        rw [le.g, g2] at this
        exact (x.lab p k z).2.2.1 this
def rCall (n : Nat) (d : DSpec) (τs : List T) (ra : DA) : DE := fun ρ xw μ Φ => ra ρ xw μ fun ts μ' => (ts ++ τs).length = n ∧ CallD d (ts ++ τs) μ' Φ xw
instance sim_call {n : Nat} {d : DSpec} {dvs : List V} {t : TA} {ra τs} [a : SimA K E t ra] [z : SimD K dvs τs] : SimE K E (tCall (liftSp K n d) dvs E t) (rCall n d τs ra) := ⟨fun x s k h q => a.run x s k h fun l1 x1 d1 h1 =>
  call_sim x1 (d1.app (z.all _)) h1.1 (k.mono l1) h1.2 fun l2 x2 d2 h2 => q (l1.trans l2) x2 d2 h2⟩
/-- .. of a def that raises nothing -/
theorem xl_none {W : Wd} {E : XK} : XL K W (fun _ _ _ => False) E := fun _ _ _ _ h => h.elim
theorem lift_E {n : Nat} {d : DSpec} {vs : List V} {H : Hp} {Q : VK} {E E' : XK} (h : liftSp K n d vs H Q E) (q : ∀ cls dx H', E cls dx H' → E' cls dx H') : liftSp K n d vs H Q E' := by
  obtain ⟨a, W, ts, μ, Φ, xw, o, dv, sp, xl, qq⟩ := h
  exact ⟨a, W, ts, μ, Φ, xw, o, dv, sp, fun l o e df x => q _ _ _ (xl l o e df x), qq⟩
def rCall0 (n : Nat) (d : DSpec) (τs : List T) (ra : DA) : DE := fun ρ xw μ Φ => ra ρ xw μ fun ts μ' => (ts ++ τs).length = n ∧ CallD d (ts ++ τs) μ' Φ (fun _ _ _ => False)
instance (priority := 500) sim_call0 {n : Nat} {d : DSpec} {dvs : List V} {t : TA} {ra τs} [a : SimA K E t ra] [z : SimD K dvs τs] : SimE K E (tCall (liftSp K n d) dvs (fun _ _ _ => False) t) (rCall0 n d τs ra) := ⟨fun x s k h q => a.run x s k h fun l1 x1 d1 h1 =>
  call_sim x1 (d1.app (z.all _)) h1.1 (@xl_none K _ _) h1.2 fun l2 x2 d2 h2 => q (l1.trans l2) x2 d2 h2⟩
def rCallL (n : Nat) (d : List T → Mu → (List T → Mu → Prop) → XW → Prop) (τs : List T) (ra : DA) : DL := fun ρ xw μ Φ => ra ρ xw μ fun ts μ' => (ts ++ τs).length = n ∧ CallD d (ts ++ τs) μ' Φ xw
instance sim_callL {n : Nat} {d} {dvs : List V} {t : TA} {ra τs} [a : SimA K E t ra] [z : SimD K dvs τs] : SimL K E (tCall (liftSpL K n d) dvs E t) (rCallL n d τs ra) := ⟨fun x s k h q => a.run x s k h fun l1 x1 d1 h1 =>
  call_simL x1 (d1.app (z.all _)) h1.1 (k.mono l1) h1.2 fun l2 x2 d2 h2 => q (l1.trans l2) x2 d2 h2⟩
def rCallL0 (n : Nat) (d : List T → Mu → (List T → Mu → Prop) → XW → Prop) (τs : List T) (ra : DA) : DL := fun ρ xw μ Φ => ra ρ xw μ fun ts μ' => (ts ++ τs).length = n ∧ CallD d (ts ++ τs) μ' Φ (fun _ _ _ => False)
instance (priority := 500) sim_callL0 {n : Nat} {d} {dvs : List V} {t : TA} {ra τs} [a : SimA K E t ra] [z : SimD K dvs τs] : SimL K E (tCall (liftSpL K n d) dvs (fun _ _ _ => False) t) (rCallL0 n d τs ra) := ⟨fun x s k h q => a.run x s k h fun l1 x1 d1 h1 =>
  call_simL x1 (d1.app (z.all _)) h1.1 (@xl_none K _ _) h1.2 fun l2 x2 d2 h2 => q (l1.trans l2) x2 d2 h2⟩
/-! ### methods of own objects -/
def rMeth (C : Addr) (m : PySem.Str) (n : Nat) (d : DSpec) (τs : List T) (r : DE) (ra : DA) : DE := fun ρ xw μ Φ => r ρ xw μ fun t μ1 => (∃ fs, view μ1 t = .obj C fs ∧ fs.lookup m = none) ∧
  ra ρ xw μ1 fun ts μ' => (t :: (ts ++ τs)).length = n ∧ CallD d (t :: (ts ++ τs)) μ' Φ xw
instance sim_meth {C : Addr} {m : PySem.Str} {n : Nat} {d : DSpec} {dvs : List V} {te : TE} {t : TA} {r ra τs} [b : SimE K E te r] [a : SimA K E t ra] [z : SimD K dvs τs] : SimE K E (tMeth C m (liftSp K n d) dvs E te t) (rMeth C m n d τs r ra) := ⟨fun x s k h q => b.run x s k h fun l0 x0 d0 h0 => by
  obtain ⟨⟨fs, e, no⟩, h0⟩ := h0
  obtain ⟨p, dx, vs, rfl, e3, d3, c⟩ := view_obj x0 d0 e
  exact ⟨p, dx, vs, rfl, e3, d3.lookN no, a.run x0 (s.mono l0) (k.mono l0) h0 fun l1 x1 d1 h1 => call_sim x1 (.cons (d0.mono l1) (d1.app (z.all _))) h1.1 (k.mono (l0.trans l1)) h1.2 fun l2 x2 d2 h2 => q ((l0.trans l1).trans l2) x2 d2 h2⟩⟩
def rMeth0 (C : Addr) (m : PySem.Str) (n : Nat) (d : DSpec) (τs : List T) (r : DE) (ra : DA) : DE := fun ρ xw μ Φ => r ρ xw μ fun t μ1 => (∃ fs, view μ1 t = .obj C fs ∧ fs.lookup m = none) ∧
  ra ρ xw μ1 fun ts μ' => (t :: (ts ++ τs)).length = n ∧ CallD d (t :: (ts ++ τs)) μ' Φ (fun _ _ _ => False)
instance (priority := 500) sim_meth0 {C : Addr} {m : PySem.Str} {n : Nat} {d : DSpec} {dvs : List V} {te : TE} {t : TA} {r ra τs} [b : SimE K E te r] [a : SimA K E t ra] [z : SimD K dvs τs] : SimE K E (tMeth C m (liftSp K n d) dvs (fun _ _ _ => False) te t) (rMeth0 C m n d τs r ra) := ⟨fun x s k h q => b.run x s k h fun l0 x0 d0 h0 => by
  obtain ⟨⟨fs, e, no⟩, h0⟩ := h0
  obtain ⟨p, dx, vs, rfl, e3, d3, c⟩ := view_obj x0 d0 e
  exact ⟨p, dx, vs, rfl, e3, d3.lookN no, a.run x0 (s.mono l0) (k.mono l0) h0 fun l1 x1 d1 h1 => call_sim x1 (.cons (d0.mono l1) (d1.app (z.all _))) h1.1 (@xl_none K _ _) h1.2 fun l2 x2 d2 h2 => q ((l0.trans l1).trans l2) x2 d2 h2⟩⟩
def rMethL0 (C : Addr) (m : PySem.Str) (n : Nat) (d : List T → Mu → (List T → Mu → Prop) → XW → Prop) (τs : List T) (r : DE) (ra : DA) : DL := fun ρ xw μ Φ => r ρ xw μ fun t μ1 => (∃ fs, view μ1 t = .obj C fs ∧ fs.lookup m = none) ∧
  ra ρ xw μ1 fun ts μ' => (t :: (ts ++ τs)).length = n ∧ CallD d (t :: (ts ++ τs)) μ' Φ (fun _ _ _ => False)
instance (priority := 500) sim_methL0 {C : Addr} {m : PySem.Str} {n : Nat} {d} {dvs : List V} {te : TE} {t : TA} {r ra τs} [b : SimE K E te r] [a : SimA K E t ra] [z : SimD K dvs τs] : SimL K E (tMeth C m (liftSpL K n d) dvs (fun _ _ _ => False) te t) (rMethL0 C m n d τs r ra) := ⟨fun x s k h q => b.run x s k h fun l0 x0 d0 h0 => by
  obtain ⟨⟨fs, e, no⟩, h0⟩ := h0
  obtain ⟨p, dx, vs, rfl, e3, d3, c⟩ := view_obj x0 d0 e
  exact ⟨p, dx, vs, rfl, e3, d3.lookN no, a.run x0 (s.mono l0) (k.mono l0) h0 fun l1 x1 d1 h1 => call_simL x1 (.cons (d0.mono l1) (d1.app (z.all _))) h1.1 (@xl_none K _ _) h1.2 fun l2 x2 d2 h2 => q ((l0.trans l1).trans l2) x2 d2 h2⟩⟩
/-! ### C(..) -/
/-- a new object, owned -/
theorem Ok.make {W : Wd} {H : Hp} {μ : Mu} {x dx C : Addr} (o : Ok K W H μ) (hx : H x = none) (hd : H dx = none) (ne : dx ≠ x) (c : COk K C []) :
    ∃ W', W.Le W' ∧ Ok K W' (upd (upd H dx (.own x)) x (.ins C dx [])) (μ ++ [.obj C []]) ∧ W'.ad[μ.length]? = some x := by
  have ad1 : (W.ad ++ [x])[μ.length]? = some x := by rw [← o.len]; simp
  have sH : Same H (upd (upd H dx (.own x)) x (.ins C dx [])) := (same_new hd).trans (same_new (by rw [upd_ne (Ne.symm ne)]; exact hx))
  have ox : ∀ a, H a = none → W.own a = none := fun a h => by
    cases e : W.own a with
    | none => rfl
    | some k => exact absurd h (o.lab a k e).2.2.1
  refine ⟨{ W with ad := W.ad ++ [x], own := fun a => if a = x ∨ a = dx then some μ.length else W.own a }, ⟨rfl, Same.refl _, fun _ _ q => .inl q, fun k p q => ?_⟩, ⟨o.sg.trans sH, o.sb.trans sH, fun a k q => ?_, by simp [o.len], fun k r q => ?_⟩, ad1⟩
  · show (W.ad ++ [x])[k]? = _
    rw [List.getElem?_append_left (List.getElem?_eq_some_iff.mp q).1]
    exact q
  · have q : (if a = x ∨ a = dx then some μ.length else W.own a) = some k := q
    by_cases z : a = x ∨ a = dx
    · rw [if_pos z] at q
      cases q
      have ha : H a = none := by rcases z with z | z <;> subst z <;> assumption
      refine ⟨o.sb.free ha, o.sg.free ha, ?_, by simp⟩
      rcases z with z | z
      · subst z; rw [upd_same]; exact fun z => by cases z
      · subst z; rw [upd_ne ne, upd_same]; exact fun z => by cases z
    · rw [if_neg z] at q
      obtain ⟨a1, a2, a3, a4⟩ := o.lab a k q
      refine ⟨a1, a2, ?_, by simp; omega⟩
      rw [upd_ne (fun y => z (.inl y)), upd_ne (fun y => z (.inr y))]
      exact a3
  · by_cases lt : k < μ.length
    · rw [List.getElem?_append_left lt] at q
      obtain ⟨p, ep, r1⟩ := o.res k r q
      refine ⟨p, ?_, ResOk.relab (W := W) (H := H) (k := k) (Same.refl _) (fun a oa => ⟨?_, fun u q => sH _ _ q⟩) r1⟩
      · show (W.ad ++ [x])[k]? = _
        rw [List.getElem?_append_left (by rw [o.len]; exact lt)]
        exact ep
      · show (if a = x ∨ a = dx then some μ.length else W.own a) = some k
        rw [if_neg]
        · exact oa
        · rintro (z | z) <;> subst z
          · rw [ox _ hx] at oa; cases oa
          · rw [ox _ hd] at oa; cases oa
    · have ek : k = μ.length := by
        have := (List.getElem?_eq_some_iff.mp q).1
        simp at this
        omega
      subst ek
      simp at q
      subst q
      exact ⟨x, ad1, if_pos (.inl rfl), dx, [], if_pos (.inr rfl), upd_same, by rw [upd_ne ne, upd_same], .nil, c⟩
/-- the object is done: data from here on -/
theorem Ok.done {W : Wd} {H : Hp} {μ : Mu} {k : Nat} {C : Addr} {fs : List (PySem.Str × T)} {p : Addr} (x : Ok K W H (μ ++ [.obj C fs])) (e : k = μ.length) (ep : W.ad[k]? = some p) : ∃ W', W'.G = W.G ∧ Same W.B W'.B ∧ (∀ a u, W'.B a = some u → W.B a = some u ∨ W.G a = none) ∧ W'.ad = W.ad.take μ.length ∧ Ok K W' H μ ∧ Dn K W'.B (.ref p) (.obj C fs) := by
  subst e
  obtain ⟨p1, e1, o, dx, vs, o2, eh, ed, d, c⟩ := x.res μ.length (.obj C fs) (by simp)
  rw [ep] at e1
  cases e1
  obtain ⟨b1, g1, _, _⟩ := x.lab p _ o
  have sB : Same W.B (upd W.B p (.ins C dx vs)) := same_new b1
  have oown : ∀ a k, W.own a = some k → k ≠ μ.length → a ≠ p := fun a k q h z => by
    subst z
    rw [o] at q
    cases q
    exact h rfl
  have lw : W.ad.length = μ.length + 1 := by rw [x.len]; simp
  refine ⟨⟨W.G, upd W.B p (.ins C dx vs), W.ad.take μ.length, fun a => if W.own a = some μ.length then none else W.own a⟩, rfl, sB, fun a u q => ?_, rfl, ⟨x.sg, fun a u q => ?_, fun a k q => ?_, by simp [lw], fun k r q => ?_⟩, .obj upd_same c (d.mono sB)⟩
  · have q : upd W.B p (.ins C dx vs) a = some u := q
    by_cases z : a = p
    · subst z; exact .inr g1
    · rw [upd_ne z] at q; exact .inl q
  · have q : upd W.B p (.ins C dx vs) a = some u := q
    by_cases z : a = p
    · subst z; rw [upd_same] at q; cases q; exact eh
    · rw [upd_ne z] at q; exact x.sb _ _ q
  · have q : (if W.own a = some μ.length then none else W.own a) = some k := q
    split at q
    · cases q
    · rename_i h
      obtain ⟨a1, a2, a3, a4⟩ := x.lab a k q
      have ne : k ≠ μ.length := fun z => h (by rw [q, z])
      refine ⟨?_, a2, a3, by simp at a4; omega⟩
      show upd W.B p (.ins C dx vs) a = none
      rw [upd_ne (oown a k q ne)]
      exact a1
  · have lt : k < μ.length := (List.getElem?_eq_some_iff.mp q).1
    obtain ⟨p2, e2, r2⟩ := x.res k r (by rw [List.getElem?_append_left lt]; exact q)
    refine ⟨p2, by simp [lt, e2], ResOk.relab (W := W) (H := H) (k := k) sB (fun a oa => ⟨?_, fun _ q => q⟩) r2⟩
    show (if W.own a = some μ.length then none else W.own a) = some k
    rw [if_neg (fun z => by rw [oa] at z; cases z; omega)]
    exact oa
/-- what C(..) comes to: __init__ of a new object, which is data then -/
def rMake (C : Addr) (n : Nat) (d : DSpec) (τs : List T) (K : PySem.W.Frag) (ra : DA) : DE := fun ρ xw μ Φ => ra ρ xw μ fun ts μ' => COk K C [] ∧ (ts ++ τs).length + 1 = n ∧
  CallD d (.rs μ'.length :: (ts ++ τs)) (μ' ++ [.obj C []]) (fun τ μ2 => τ = .non ∧ μ2.length = μ'.length + 1 ∧ ∃ fs, μ2[μ'.length]? = some (.obj C fs) ∧ Φ (.obj C fs) (μ2.take μ'.length)) (fun C2 fs μ2 => xw C2 fs (μ2.set μ'.length .gone))
theorem mget_app {μ ν : Mu} : ∀ {ks : List Nat} {rs : List Res}, mget μ ks = some rs → mget (μ ++ ν) ks = some rs
  | [], _, h => h
  | k :: ks, _, h => by
    simp only [mget] at h ⊢
    split at h
    · rename_i r e
      rw [List.getElem?_append_left (List.getElem?_eq_some_iff.mp e).1, e]
      rw [Option.map_eq_some_iff] at h
      obtain ⟨r2, e2, rfl⟩ := h
      rw [mget_app e2]
      rfl
    · cases h
theorem mput_app {μ ν : Mu} : ∀ {ks : List Nat} {rs : List Res}, (∀ k ∈ ks, k < μ.length) → mput (μ ++ ν) ks rs = mput μ ks rs ++ ν
  | [], _, _ => by simp [mput]
  | _ :: _, [], _ => by simp [mput]
  | k :: ks, r :: rs, h => by
    simp only [mput]
    rw [mput_app fun k hk => h k (List.mem_cons_of_mem _ hk), List.set_append_left _ _ (by rw [mput_len]; exact h k List.mem_cons_self)]
end Dl
namespace Dl
open PySem PySem.Spec PyProof.Rows L2 Gd
variable {K : PySem.W.Frag} {E : XK}
theorem Ok.gone {W : Wd} {H : Hp} {μ : Mu} {k : Nat} (x : Ok K W H μ) : Ok K W H (μ.set k .gone) := by
  refine ⟨x.sg, x.sb, fun a j q => ?_, by rw [List.length_set]; exact x.len, fun j r q => ?_⟩
  · rw [List.length_set]
    exact x.lab a j q
  · by_cases z : k = j
    · subst z
      have lt : k < μ.length := by simpa using (List.getElem?_eq_some_iff.mp q).1
      rw [List.getElem?_set_self lt] at q
      cases q
      obtain ⟨p, e, _⟩ := x.res k _ (List.getElem?_eq_getElem lt)
      exact ⟨p, e, trivial⟩
    · rw [List.getElem?_set_ne z] at q
      exact x.res j r q
instance sim_make {C : Addr} {n : Nat} {d : DSpec} {dvs : List V} {t : TA} {ra τs} [a : SimA K E t ra] [z : SimD K dvs τs] : SimE K E (tMake C (liftSp K n d) dvs E t) (rMake C n d τs K ra) := ⟨fun {W H σ ρ μ xw Φ Q} x s k h q => a.run x s k h fun {vs ts W1 H1 μ1} l1 x1 d1 h1 => by
  obtain ⟨c, ln, h1⟩ := h1
  intro ad dx fx fd ne
  obtain ⟨W2, l2, x2, e2⟩ := x1.make fx fd ne c
  refine call_sim (ts := .rs μ1.length :: (ts ++ τs)) x2 (.cons ⟨ad, e2, rfl⟩ ((d1.app (z.all _)).mono l2)) (by simp only [List.length_cons]; exact ln) (fun {C2 d2 fs τs2 W' H' μ'} l o e df h => k ((l1.trans l2).trans l) o.gone e df h) h1 (fun {v τ W' H' μ'} l o dv h => ?_)
  obtain ⟨rfl, len, fs, e3, h⟩ := h
  have em : μ' = μ'.take μ1.length ++ [.obj C fs] := by
    have : μ'.drop μ1.length = [.obj C fs] := by
      rw [List.drop_eq_getElem_cons (by omega), List.drop_eq_nil_of_le (by omega)]
      have := (List.getElem?_eq_some_iff.mp e3).2
      rw [this]
    rw [← this, List.take_append_drop]
  have tl : (μ'.take μ1.length).length = μ1.length := by rw [List.length_take]; omega
  rw [em] at o
  obtain ⟨W4, g4, b4, n4, a4, o4, dn⟩ := o.done tl.symm (l.ad _ _ e2)
  have le4 : W2.Le W4 → True := fun _ => trivial
  refine ⟨dv.non, q (W' := W4) (l1.trans ⟨g4.trans (l.g.trans l2.g), (l2.b.trans l.b).trans b4, fun a u e => ?_, fun j p e => ?_⟩) o4 (.of dn) h⟩
  · rcases n4 a u e with e | e
    · exact (l2.trans l).nb a u e
    · exact .inr (by rw [← (l2.trans l).g]; exact e)
  · rw [a4, tl]
    have lt := (List.getElem?_eq_some_iff.mp e).1
    rw [x1.len] at lt
    rw [List.getElem?_take, if_pos lt]
    exact (l2.trans l).ad _ _ e⟩
end Dl

set_option maxRecDepth 100000
set_option maxHeartbeats 4000000
namespace Gd
open PySem PySem.Spec PyProof.Rows L2
/-! ### enumerate(tuple) -/
def IteT (K : PySem.W.Frag) (a : Addr) : It :=
  ⟨fun i H => ∃ (xs : List V) (x : V), SqT K H a xs ∧ xs[i]? = some x, fun i H v H' => ∃ T x, v = .ref T ∧ H T = none ∧ H' = upd H T (.tup [.int (i : Nat), x]) ∧ ∀ xs, SqT K H a xs → xs[i]? = some x, fun i H => ∃ xs : List V, SqT K H a xs ∧ xs.length ≤ i⟩
theorem turn_enumT {P : Program} {w : World} {K : PySem.W.Frag} {elts : List Expr} {kk : Nat} {tpos : Pos} (a e it : Addr) (hai : a ≠ it) (hae : a ≠ e) :
    Turn P w K (.Tuple elts kk tpos) (IteT K a) [e, it] e (fun i h => (∃ old, IsEnum h e it ((i : Nat) : Int) old) ∧ h.IsTupleIter it a i ∧ e ≠ it) where
  mem := by simp
  obj := fun i h st b hb => by
    obtain ⟨⟨old, he⟩, ⟨o, ho, hc, hd⟩, _⟩ := st
    have e' : b = e ∨ b = it := by simpa using hb
    rcases e' with z | z
    · rw [z]; exact ⟨_, he, fun v q => nomatch q⟩
    · rw [z]; exact ⟨o, ho, fun v q => by rw [hd] at q; cases q⟩
  keep := fun i h h' st k => let ⟨⟨old, he⟩, hi, hne⟩ := st; ⟨⟨old, k e (by simp) _ he⟩, hi.at fun o q => k it (by simp) o q, hne⟩
  item := by
    intro X hP hw hK hc i pins s σ H E I hf st hg
    subst hP hw hK
    obtain ⟨⟨old, he⟩, hit, hne⟩ := st
    obtain ⟨xs, x, hq, hx⟩ := hg
    obtain ⟨its, rv, p, hz⟩ := I.tuple hq
    obtain ⟨u, hu, ru⟩ := rv.get hx
    have hel : e < s.heap.objs.size := Heap.lt_size he
    have hil : it < s.heap.objs.size := by obtain ⟨_, q, _⟩ := hit; exact Heap.lt_size q
    have lt : i < its.toArray.size := by simpa using (List.getElem?_eq_some_iff.mp hu).1
    refine wpAny_pyNext_enum_itemD (Draws.tuple (show X.A.in1.handled = none from I.ok.hd hc) it a hai its.toArray) he ⟨hit, p⟩ lt hne (by simp [hne, Ne.symm hae]) fun x' h' tk hP ho hit' hT hsz hk => ?_
    have ex : x' = u := by
      have h1 : its.toArray[i]? = some x' := hP
      have h2 : its.toArray[i]? = some u := by simpa using hu
      rw [h1] at h2
      cases h2
      rfl
    subst ex
    refine ⟨_, rfl, wpAny_letOwnedTupleGo_enum (s := { s with heap := h', toks := tk + 1 }) ho fun h'' he' sb => ?_⟩
    have hT2 : h''.get? s.heap.objs.size = some { cls := .type "tuple", data := .seq #[.int i tk, x'] } := (sb.2 _ (Nat.ne_of_gt hel)).trans hT
    have new : ObjOk X.prog X.w (upd H s.heap.objs.size (.tup [.int (i : Nat), x])) h'' s.heap.objs.size (.tup [.int (i : Nat), x]) :=
      ⟨by show 2 ≤ sizeLine; decide, [.int i tk, x'], .cons ⟨_, rfl⟩ (.cons ru .nil), ⟨_, hT2, rfl, _, rfl⟩⟩
    have I1 : Inv X pins σ (upd H s.heap.objs.size (.tup [.int (i : Nat), x])) { s with heap := h'', toks := tk + 1 } :=
      I.turnedNew (ch := [e, it]) (fun b ob hb q => (sb.2 b (fun z => hb (by simp [z]))).trans (hk b ob (fun z => hb (by simp [z])) (fun z => hb (by simp [z])) q)) hf (Nat.le_refl _) new
    refine ⟨.ref s.heap.objs.size, _, I1, rfl, ⟨_, x, rfl, I.hok.fresh (Nat.le_refl _), rfl, fun ys hy => by rw [I.tuple_inj hy hq]; exact hx⟩, ⟨⟨x', ?_⟩, hit'.1.at fun o q => (sb.2 it (Ne.symm hne)).trans q, hne⟩, fun b hb => ?_⟩
    · have e1 : ((i + 1 : Nat) : Int) = (i : Int) + 1 := by omega
      rw [e1]; exact he'
    · have hb' : b < s.heap.objs.size := by
        have e' : b = e ∨ b = it := by simpa using hb
        rcases e' with z | z
        · rw [z]; exact hel
        · rw [z]; exact hil
      rw [upd_ne (Nat.ne_of_lt hb')]
      exact (hf b hb).1
  done := by
    intro X hP hw hK hc i pins s σ H E I hf st hg
    subst hP hw hK
    obtain ⟨⟨old, he⟩, hit, hne⟩ := st
    obtain ⟨xs, hq, hx⟩ := hg
    obtain ⟨its, rv, p, hz⟩ := I.tuple hq
    obtain ⟨f0, f1, f2, f3, f4, f5⟩ := hf it (by simp)
    have hl := rv.length
    have hT : s.TypeIs (.ref e) "enumerate" := ⟨_, he, rfl⟩
    unfold pyNext
    refine wpAny_bind (wpAny_attempt (wpAny_callSpecial?_slot (name := Str.ofString "__next__") hT F.slot_enumerate_next
      (wpAny_call_entry F.slot_enumerate_next hT F.entry_enumerate_next ?_ (F.args_enumerate_next_1 _))))
    show wpAny _ _ (field (.ref e) 2 >>= _) _ _ _
    refine wpAny_bind (wpAny_field he rfl (x := .ref it) rfl ?_)
    refine wpAny_bind (wpAny_nextOf_tuple_end (show X.A.in1.handled = none from I.ok.hd hc) hit p (by simp; omega) fun h' x he' hx' => ?_)
    obtain ⟨o, ho, hc'⟩ := hx'
    refine wpAny_bind (wpAny_isInstance (T := "StopIteration") (b := true) ⟨o, ho, hc'⟩ isSubtype_stop ?_)
    exact wpAny_pure ⟨rfl, I.turned (t' := s.toks) (fun b o hb q => he' b o hb q) f0 f1 f3 f4 f5⟩
  self := fun A i s Q E st h => let ⟨⟨_, he⟩, _⟩ := st; wpAny_pyIter_enum he h
def iEnumT (K : PySem.W.Frag) (ta : TA) : TI := fun σ H R => ta σ H fun vs H1 => ∃ a xs, vs = [.ref a] ∧ SqT K H1 a xs ∧ R (IteT K a) H1
open AutoSeq1 (wpAny_loadPart') in
set_option maxHeartbeats 4000000 in
theorem meets_enumerate_newT (l : Addr) (items : Array Value) (n : Nat) (dct : Option Addr) (sl : Array (Option Value)) :
    Meets (Builtin.«enumerate.__new__» ⟨[.type "enumerate", .ref l], []⟩) (fun _ R s => s.heap.get? l = some { cls := .type "tuple", dict := dct, data := .seq items n, slots := sl } ∧
      R (.ok (.ret (.ref (s.heap.push { cls := .type "tuple_iterator", data := .fields #[.ref l, .int 0 0] }).objs.size)))
        { s with heap := (s.heap.push { cls := .type "tuple_iterator", data := .fields #[.ref l, .int 0 0] }).push { cls := .type "enumerate", data := .fields #[.none, .bool false, .ref s.heap.objs.size, rawInt 0, .none, .none] } }) :=
  .of_wp fun prog w A R s h => by
    obtain ⟨hp, g, d, tk, os⟩ := s
    obtain ⟨hl, h⟩ := h
    have hL : hp.IsTuple l items := ⟨_, hl, rfl, _, rfl⟩
    have hsub := sub_enumerate
    wp_walk using wpAny_loadPart' hl
    refine wpAny_stack_any fun st => wpAny_pure ?_
    split
    · rename_i c _ _ _ _ _
      cases (c == Value.type "enumerate")
      · wp_walk using wpAny_loadPart' hl, wpAny_pyIter_tuple hL
        exact ⟨_, rfl, h⟩
      · wp_walk using wpAny_loadPart' hl, wpAny_pyIter_tuple hL
        exact ⟨_, rfl, h⟩
    · wp_walk using wpAny_loadPart' hl, wpAny_pyIter_tuple hL
      exact ⟨_, rfl, h⟩
theorem call_enumerate_tuple {prog : Program} {w : World} {A : Around} {E : Value → Shared → Prop} {s : Shared} {l : Addr} {items : Array Value} {Q : Value → Shared → Prop} (hL : s.heap.IsTuple l items)
    (h : ∀ h', IsEnum h' (s.heap.objs.size + 1) s.heap.objs.size 0 .none → h'.IsTupleIter s.heap.objs.size l 0 → h'.objs.size = s.heap.objs.size + 2 →
      (∀ b o, s.heap.get? b = some o → h'.get? b = some o) → Q (.ref (s.heap.objs.size + 1)) { s with heap := h' }) :
    wpAny (model prog w) A (call (.type "enumerate") [.ref l]) Q E s := by
  obtain ⟨⟨c, dct, dt, sl⟩, hl, hc, n, hd⟩ := hL
  replace hc : c = .type "tuple" := hc
  replace hd : dt = .seq items n := hd
  subst hc hd
  refine callType_new F.called_enumerate (by decide) (F.typeCall_enumerate_1 _) (F.newCall_enumerate_1 _) (fun obj => F.args_object_init_2 obj _) F.entry_enumerate_new
    (meets_enumerate_newT l items n dct sl) ⟨hl, ?_⟩
  have hz : (s.heap.push { cls := .type "tuple_iterator", data := .fields #[.ref l, .int 0 0] }).objs.size = s.heap.objs.size + 1 := Heap.size_push ..
  show _ ∧ _
  rw [hz]
  have he : IsEnum ((s.heap.push { cls := .type "tuple_iterator", data := .fields #[.ref l, .int 0 0] }).push
      { cls := .type "enumerate", data := .fields #[.none, .bool false, .ref s.heap.objs.size, rawInt 0, .none, .none] }) (s.heap.objs.size + 1) s.heap.objs.size 0 .none := by
    have := Heap.get?_push_size (s.heap.push { cls := .type "tuple_iterator", data := .fields #[.ref l, .int 0 0] })
      (o := { cls := .type "enumerate", data := .fields #[.none, .bool false, .ref s.heap.objs.size, rawInt 0, .none, .none] }) rfl
    rw [hz] at this; exact this
  refine ⟨⟨_, he, rfl⟩, h _ he ⟨_, Heap.get?_push_of_some _ (Heap.get?_push_size _ rfl), rfl, rfl⟩ (by rw [Heap.size_push, hz]) fun b o x => Heap.get?_push_of_some _ (Heap.get?_push_of_some _ x)⟩
theorem pi_enumT {X : Cx} {e : Expr} {ta : TA} {p pos tpos : Pos} {elts : List Expr} {kk : Nat} (hg : Gl X "enumerate") (hm : X.mg "enumerate" = none) (ha : PA X [e] ta) (hs : starEach [e] X.env = [(false, eval e X.env)] := by rfl) :
    PI X (.Tuple elts kk tpos) (.Call (.Name "enumerate" p) [e] [] pos) (iEnumT X.K ta) := by
  refine ⟨fun pins s σ H R I h => ?_⟩
  refine Call_ (ld_blt I hg hm boot_enumerate (PyProof.Rows.callWith_type1 (thn (ha.run pos pins s σ H _ I h) fun us s1 ⟨vs, H1, I1, r1, q1⟩ => ?_) hs rfl))
  obtain ⟨a, xs, ex, hq, q⟩ := q1
  subst ex
  cases r1 with
  | cons r rr =>
    cases rr
    cases r
    obtain ⟨its, rv, p', hz⟩ := I1.tuple hq
    have al : a < s1.heap.objs.size := p'.lt
    refine call_enumerate_tuple p' fun h' he hit hsz hk => wpAny_pyIter_enum he ?_
    have I2 : Inv X pins σ H1 { s1 with heap := h' } := I1.kept (t' := s1.toks) hk
    refine ⟨s1.heap.objs.size + 1, [s1.heap.objs.size + 1, s1.heap.objs.size], _, _, H1, rfl, I2, turn_enumT a (s1.heap.objs.size + 1) s1.heap.objs.size (Nat.ne_of_lt al) (Nat.ne_of_lt (Nat.lt_succ_of_lt al)), ⟨⟨.none, he⟩, hit, Nat.succ_ne_self _⟩, fun b hb => ?_, q⟩
    have e' : b = s1.heap.objs.size + 1 ∨ b = s1.heap.objs.size := by simpa using hb
    have hle : s1.heap.objs.size ≤ b := by
      rcases e' with z | z
      · rw [z]; exact Nat.le_add_right _ _
      · rw [z]; exact Nat.le_refl _
    exact I1.fpOk hle (I1.hok.fresh hle)
end Gd

set_option maxRecDepth 100000
set_option maxHeartbeats 4000000
namespace Gd
open PySem PySem.Spec PyProof.Rows L2
/-! ### calls by keywords, the values put in the parameters' order -/
def pick {α : Type} (perm : List Nat) (l : List α) : List α := perm.filterMap fun i => l[i]?
theorem pick_rel {a : List V} {b : List Value} (r : Vals a b) : ∀ perm : List Nat, Vals (pick perm a) (pick perm b)
  | [] => .nil
  | i :: is => by
    unfold pick
    rw [List.filterMap_cons, List.filterMap_cons]
    cases e : a[i]? with
    | none => rw [r.none_of e]; exact pick_rel r is
    | some v =>
      obtain ⟨u, e2, rv⟩ := r.get e
      rw [e2]
      exact .cons rv (pick_rel r is)
section
variable {K : PySem.W.Frag} {x qual : PySem.Str} {params : Arguments} {body : List Stmt} {scope : Scope} {dvs : List V} {f : Addr} {fd : FuncData} {ps : List PySem.Str}
theorem FunD.kb (F : FunD K x qual params body scope dvs [] f fd) (n : Nat) (ks : List PySem.Str) (perm : List Nat) (hd : dvs ≠ [])
    (h : ∀ (T : Addr) (kV doc pm : Value) (an : Option Addr) (cdv ct : Value) (us its ws : List Value), us.length = n → its.length = dvs.length → ws.length = ks.length →
      ∃ k, bindArgs (PySem.W.fnOf x qual params body scope (.ref T) kV doc pm an cdv ct) ⟨us, ks.zip ws⟩ = seqItems? (.ref T) >>= k ∧ k (some its.toArray) = pure (ps.zip (pick perm (us ++ (its ++ ws))))) :
    ∃ g, KBn K fd ps n ks g (fun vs zs => pick perm (vs ++ (dvs ++ zs))) := by
  obtain ⟨its, b⟩ := FunD.kbindsD F n ks (fun us its ws => pick perm (us ++ (its ++ ws))) hd (fun r1 r2 r3 => pick_rel (r1.append (r2.append r3)) perm) h
  exact ⟨_, b⟩
theorem FunD.kb0 (F : FunD K x qual params body scope [] [] f fd) (n : Nat) (ks : List PySem.Str) (perm : List Nat)
    (h : ∀ (kV doc pm : Value) (an : Option Addr) (cdv ct : Value) (us ws : List Value), us.length = n → ws.length = ks.length →
      bindArgs (PySem.W.fnOf x qual params body scope .none kV doc pm an cdv ct) ⟨us, ks.zip ws⟩ = pure (ps.zip (pick perm (us ++ ([] ++ ws))))) :
    ∃ g, KBn K fd ps n ks g (fun vs zs => pick perm (vs ++ ([] ++ zs))) := by
  obtain ⟨oc, od, dV, kV, doc, pm, an, cdv, ct, osl, rfl, lk, hcd, hD, hK⟩ := F.ex
  rcases hD with ⟨_, rfl⟩ | ⟨e, _⟩
  · exact ⟨fun us ws => pick perm (us ++ ([] ++ ws)), fun s us ws _ l1 l2 => .of_eq (h kV doc pm an cdv ct us ws l1 l2), fun r1 r2 => pick_rel (r1.append (Vals.append .nil r2)) perm⟩
  · exact absurd rfl e
theorem FunD.b0 (F : FunD K x qual params body scope [] [] f fd)
    (h : ∀ (kV doc pm : Value) (an : Option Addr) (cdv ct : Value) (us : List Value), us.length = ps.length → bindArgs (PySem.W.fnOf x qual params body scope .none kV doc pm an cdv ct) ⟨us, []⟩ = pure (ps.zip us)) : ∃ ds, Vals [] ds ∧ Binds K fd ps ds :=
  ⟨[], .nil, FunD.bindsN F h⟩
end
section
variable {X : Cx} {CX : CXT} {k n : Nat} {f C : Addr} {fd : FuncData} {ps ks : List PySem.Str} {sp : Sp} {dvs : List V} {E : XK} {x m : PySem.Str} {p pos apos : Pos} {e o : Expr} {es : List Expr} {kws : List Keyword} {ta : TE} {t tk : TA} {gV : List V → List V → List V}
theorem pe_callX (F : FnOk X.prog X.w X.K X.mg X.base CX k f fd ps sp) (hr : Room k X.A) (hg : Gl X x) (hm : X.mg x = some (.ref f)) (hk : PySem.W.keepIn X.K (.ref f) = true) (hb : ∃ ds, Vals dvs ds ∧ Binds X.K fd ps ds) (hx : Passes CX X E)
    (ha : PA X (e :: es) t) (hdb : (x == ("__debug__" : PySem.Str)) = false := by decide) (he : starEach (e :: es) X.env = (false, eval e X.env) :: starEach es X.env := by rfl) (hpl : (backTo pos (starEach es X.env)).any (·.1) = false := by rfl) :
    PE X (.Call (.Name x p) (e :: es) [] pos) (tCall sp dvs E t) := by
  obtain ⟨ds, a, b⟩ := hb
  exact pe_call F hr hg hm hk b a hx ha hdb he hpl
theorem pe_callX0 (F : FnOk X.prog X.w X.K X.mg X.base CX k f fd ps sp) (hr : Room k X.A) (hg : Gl X x) (hm : X.mg x = some (.ref f)) (hk : PySem.W.keepIn X.K (.ref f) = true) (hb : ∃ ds, Vals dvs ds ∧ Binds X.K fd ps ds) (hx : Passes CX X E)
    (hdb : (x == ("__debug__" : PySem.Str)) = false := by decide) : PE X (.Call (.Name x p) [] [] pos) (tCall sp dvs E tNil) := by
  obtain ⟨ds, a, b⟩ := hb
  exact pe_call0 F hr hg hm hk b a hx hdb
theorem pe_methX {pl : Sem Bool} (he : PE X o ta) (c : Cls X.K C) (hm : Meth X.K C m f) (F : FnOk X.prog X.w X.K X.mg X.base CX k f fd ps sp) (hr : Room k X.A) (hb : ∃ ds, Vals dvs ds ∧ Binds X.K fd ps ds) (hx : Passes CX X E) (ha : PA X (e :: es) t)
    (hst : starEach (e :: es) X.env = (false, eval e X.env) :: starEach es X.env := by rfl) (hpl : (backTo pos (starEach es X.env)).any (·.1) = false := by rfl)
    (ht : eval (.Call (.Attribute o m apos) (e :: es) [] pos) X.env = (do
      let ov ← eval o X.env
      standAt apos.atName
      let (f, first) ← holding [ov] (getMethod ov m pl)
      callWith pos f first (backTo pos (starEach (e :: es) X.env)) (backToKw pos (keywordEach [] X.env))) := by rfl) :
    PE X (.Call (.Attribute o m apos) (e :: es) [] pos) (tMeth C m sp dvs E ta t) := by
  obtain ⟨ds, a, b⟩ := hb
  exact pe_meth he c hm F hr b a hx ha hst hpl ht
theorem pe_methX0 {pl : Sem Bool} (he : PE X o ta) (c : Cls X.K C) (hm : Meth X.K C m f) (F : FnOk X.prog X.w X.K X.mg X.base CX k f fd ps sp) (hr : Room k X.A) (hb : ∃ ds, Vals dvs ds ∧ Binds X.K fd ps ds) (hx : Passes CX X E)
    (ht : eval (.Call (.Attribute o m apos) [] [] pos) X.env = (do
      let ov ← eval o X.env
      standAt apos.atName
      let (f, first) ← holding [ov] (getMethod ov m pl)
      callWith pos f first (backTo pos (starEach [] X.env)) (backToKw pos (keywordEach [] X.env))) := by rfl) :
    PE X (.Call (.Attribute o m apos) [] [] pos) (tMeth C m sp dvs E ta tNil) := by
  obtain ⟨ds, a, b⟩ := hb
  exact pe_meth0 he c hm F hr b a hx ht
theorem pe_makeX (M : Mk X.K C f) (F : FnOk X.prog X.w X.K X.mg X.base CX k f fd ps sp) (hr : Room (k + 1) X.A) (hg : Gl X x) (hm : X.mg x = some (.ref C)) (hb : ∃ ds, Vals dvs ds ∧ Binds X.K fd ps ds) (hx : Passes CX X E)
    (ha : PA X (e :: es) t) (hdb : (x == ("__debug__" : PySem.Str)) = false := by decide) (he : starEach (e :: es) X.env = (false, eval e X.env) :: starEach es X.env := by rfl) (hpl : (backTo pos (starEach es X.env)).any (·.1) = false := by rfl) :
    PE X (.Call (.Name x p) (e :: es) [] pos) (tMake C sp dvs E t) := by
  obtain ⟨ds, a, b⟩ := hb
  exact pe_make M F hr hg hm b a hx ha hdb he hpl
theorem pe_callKX (F : FnOk X.prog X.w X.K X.mg X.base CX k f fd ps sp) (hr : Room k X.A) (hg : Gl X x) (hm : X.mg x = some (.ref f)) (hk : PySem.W.keepIn X.K (.ref f) = true) (hb : ∃ g, KBn X.K fd ps n ks g gV) (hx : Passes CX X E)
    (ha : PA X (e :: es) t) (hkw : PK X kws tk) (hall : (backToKw pos (keywordEach kws X.env)).all (·.1.isSome) = true := by rfl) (hks : (backToKw pos (keywordEach kws X.env)).filterMap (·.1) = ks := by rfl)
    (hdb : (x == ("__debug__" : PySem.Str)) = false := by decide) (he : starEach (e :: es) X.env = (false, eval e X.env) :: starEach es X.env := by rfl)
    (hpl : ((backTo pos (starEach (e :: es) X.env)).any (·.1) || (backToKw pos (keywordEach kws X.env)).any (·.1.isNone)) = false := by rfl) :
    PE X (.Call (.Name x p) (e :: es) kws pos) (tCallN n ks.length sp gV E t tk) := by
  obtain ⟨g, b⟩ := hb
  exact pe_callN F hr hg hm hk b hx ha hkw hall hks hdb he hpl
theorem pe_callKX0 (F : FnOk X.prog X.w X.K X.mg X.base CX k f fd ps sp) (hr : Room k X.A) (hg : Gl X x) (hm : X.mg x = some (.ref f)) (hk : PySem.W.keepIn X.K (.ref f) = true) (hb : ∃ g, KBn X.K fd ps 0 ks g gV) (hx : Passes CX X E)
    (hkw : PK X kws tk) (hall : (backToKw pos (keywordEach kws X.env)).all (·.1.isSome) = true := by rfl) (hks : (backToKw pos (keywordEach kws X.env)).filterMap (·.1) = ks := by rfl)
    (hdb : (x == ("__debug__" : PySem.Str)) = false := by decide)
    (hpl : ((backTo pos (starEach [] X.env)).any (·.1) || (backToKw pos (keywordEach kws X.env)).any (·.1.isNone)) = false := by rfl) :
    PE X (.Call (.Name x p) [] kws pos) (tCallN 0 ks.length sp gV E tNil tk) := by
  obtain ⟨g, b⟩ := hb
  refine ⟨fun pins s σ H Q I h => ?_⟩
  refine wpAny_Call_Name_kw (ld_glob I hg hm ?_ hdb)
  refine PySem.W.callWith_KW0 (h₀ := X.base) I.ok.mod.kin hk hall (thn (hkw.run pos pins s σ H _ I h) fun ws s2 z => ?_) hpl
  obtain ⟨zs, H2, I2, rz, l1, l2, q2⟩ := z
  refine ⟨I2.kIn, ?_⟩
  rw [hks]
  exact run_fnN (us := []) (vs := []) F hr b hx I2 .nil rz l1 l2 q2
theorem pe_makeKX (M : Mk X.K C f) (F : FnOk X.prog X.w X.K X.mg X.base CX k f fd ps sp) (hr : Room (k + 1) X.A) (hg : Gl X x) (hm : X.mg x = some (.ref C)) (hb : ∃ g, KBn X.K fd ps (n + 1) ks g gV) (hx : Passes CX X E)
    (ha : PA X (e :: es) t) (hkw : PK X kws tk) (hall : (backToKw pos (keywordEach kws X.env)).all (·.1.isSome) = true := by rfl) (hks : (backToKw pos (keywordEach kws X.env)).filterMap (·.1) = ks := by rfl)
    (hdb : (x == ("__debug__" : PySem.Str)) = false := by decide) (he : starEach (e :: es) X.env = (false, eval e X.env) :: starEach es X.env := by rfl)
    (hpl : ((backTo pos (starEach (e :: es) X.env)).any (·.1) || (backToKw pos (keywordEach kws X.env)).any (·.1.isNone)) = false := by rfl) :
    PE X (.Call (.Name x p) (e :: es) kws pos) (tMakeN C n ks.length sp gV E t tk) := by
  obtain ⟨g, b⟩ := hb
  exact pe_makeN M F hr hg hm b hx ha hkw hall hks hdb he hpl
theorem pe_makeKX0 (M : Mk X.K C f) (F : FnOk X.prog X.w X.K X.mg X.base CX k f fd ps sp) (hr : Room (k + 1) X.A) (hg : Gl X x) (hm : X.mg x = some (.ref C)) (hb : ∃ g, KBn X.K fd ps 1 ks g gV) (hx : Passes CX X E)
    (hkw : PK X kws tk) (hall : (backToKw pos (keywordEach kws X.env)).all (·.1.isSome) = true := by rfl) (hks : (backToKw pos (keywordEach kws X.env)).filterMap (·.1) = ks := by rfl)
    (hdb : (x == ("__debug__" : PySem.Str)) = false := by decide)
    (hpl : ((backTo pos (starEach [] X.env)).any (·.1) || (backToKw pos (keywordEach kws X.env)).any (·.1.isNone)) = false := by rfl) :
    PE X (.Call (.Name x p) [] kws pos) (tMakeN C 0 ks.length sp gV E tNil tk) := by
  obtain ⟨g, b⟩ := hb
  refine ⟨fun pins s σ H Q I h => ?_⟩
  refine wpAny_Call_Name_kw (ld_glob I hg hm ?_ hdb)
  refine PySem.W.callWith_KW0 (h₀ := X.base) I.ok.mod.kin M.kp hall (thn (hkw.run pos pins s σ H _ I h) fun ws s2 z => ?_) hpl
  obtain ⟨zs, H2, I2, rz, l1, l2, q2⟩ := z
  refine ⟨I2.kIn, ?_⟩
  rw [hks]
  exact run_makeN (us := []) (vs := []) M F hr b hx I2 .nil rz l1 l2 q2
/-- o.m(e, .., k = v, ..) -/
def tMethN (C : Addr) (m : PySem.Str) (n j : Nat) (sp : Sp) (gV : List V → List V → List V) (E : XK) (ta : TE) (t tk : TA) : TE := fun σ H Q => ta σ H fun x H1 => ∃ a dx fs, x = .ref a ∧ H1 a = some (.ins C dx fs) ∧ fs.lookup m = none ∧
  t σ H1 fun vs H2 => tk σ H2 fun zs H3 => vs.length = n ∧ zs.length = j ∧ sp (gV (x :: vs) zs) H3 Q E
theorem pe_methKX {pl : Sem Bool} (he : PE X o ta) (c : Cls X.K C) (hm : Meth X.K C m f) (F : FnOk X.prog X.w X.K X.mg X.base CX k f fd ps sp) (hr : Room k X.A) (hb : ∃ g, KBn X.K fd ps (n + 1) ks g gV) (hx : Passes CX X E) (ha : PA X (e :: es) t) (hkw : PK X kws tk)
    (hall : (backToKw pos (keywordEach kws X.env)).all (·.1.isSome) = true := by rfl) (hks : (backToKw pos (keywordEach kws X.env)).filterMap (·.1) = ks := by rfl)
    (hst : starEach (e :: es) X.env = (false, eval e X.env) :: starEach es X.env := by rfl)
    (hpl : ((backTo pos (starEach (e :: es) X.env)).any (·.1) || (backToKw pos (keywordEach kws X.env)).any (·.1.isNone)) = false := by rfl)
    (ht : eval (.Call (.Attribute o m apos) (e :: es) kws pos) X.env = (do
      let ov ← eval o X.env
      standAt apos.atName
      let (f, first) ← holding [ov] (getMethod ov m pl)
      callWith pos f first (backTo pos (starEach (e :: es) X.env)) (backToKw pos (keywordEach kws X.env))) := by rfl) :
    PE X (.Call (.Attribute o m apos) (e :: es) kws pos) (tMethN C m n ks.length sp gV E ta t tk) := by
  obtain ⟨g, b⟩ := hb
  refine ⟨fun pins s σ H Q I h => ?_⟩
  refine PySem.W.methodCall_KW (pl := pl) (thn (he.run pins s σ H _ I h) fun u s1 ⟨x, H1, I1, rx, a, dx, fs, ex, ea, l, q⟩ => ?_) ht
  subst ex
  obtain rfl : u = Value.ref a := rx
  refine getmeth_ok I1 ea c hm l ?_
  refine PySem.W.callWith_KW (first := [.ref a]) (h₀ := X.base) I.ok.mod.kin hm.kp hall (thn (ha.run pos pins s1 σ H1 _ I1 q) fun us s2 ⟨vs, H2, I2, r, q2⟩ => ?_) hpl hst
  refine thn (hkw.run pos pins s2 σ H2 _ I2 q2) fun ws s3 ⟨zs, H3, I3, rz, l1, l2, q3⟩ => ⟨I3.kIn, ?_⟩
  rw [hks]
  exact run_fnN (us := .ref a :: us) (vs := .ref a :: vs) F hr b hx I3 (.cons rfl r) rz (by simp [l1]) l2 q3
theorem pe_methKX0 {pl : Sem Bool} (he : PE X o ta) (c : Cls X.K C) (hm : Meth X.K C m f) (F : FnOk X.prog X.w X.K X.mg X.base CX k f fd ps sp) (hr : Room k X.A) (hb : ∃ g, KBn X.K fd ps 1 ks g gV) (hx : Passes CX X E) (hkw : PK X kws tk)
    (hall : (backToKw pos (keywordEach kws X.env)).all (·.1.isSome) = true := by rfl) (hks : (backToKw pos (keywordEach kws X.env)).filterMap (·.1) = ks := by rfl)
    (hpl : ((backTo pos (starEach [] X.env)).any (·.1) || (backToKw pos (keywordEach kws X.env)).any (·.1.isNone)) = false := by rfl)
    (ht : eval (.Call (.Attribute o m apos) [] kws pos) X.env = (do
      let ov ← eval o X.env
      standAt apos.atName
      let (f, first) ← holding [ov] (getMethod ov m pl)
      callWith pos f first (backTo pos (starEach [] X.env)) (backToKw pos (keywordEach kws X.env))) := by rfl) :
    PE X (.Call (.Attribute o m apos) [] kws pos) (tMethN C m 0 ks.length sp gV E ta tNil tk) := by
  obtain ⟨g, b⟩ := hb
  refine ⟨fun pins s σ H Q I h => ?_⟩
  refine PySem.W.methodCall_KW (pl := pl) (thn (he.run pins s σ H _ I h) fun u s1 ⟨x, H1, I1, rx, a, dx, fs, ex, ea, l, q⟩ => ?_) ht
  subst ex
  obtain rfl : u = Value.ref a := rx
  refine getmeth_ok I1 ea c hm l ?_
  refine PySem.W.callWith_KW0 (first := [.ref a]) (h₀ := X.base) I.ok.mod.kin hm.kp hall (thn (hkw.run pos pins s1 σ H1 _ I1 q) fun ws s3 z => ?_) hpl
  obtain ⟨zs, H3, I3, rz, l1, l2, q3⟩ := z
  refine ⟨I3.kIn, ?_⟩
  rw [hks]
  exact run_fnN (us := [.ref a]) (vs := [.ref a]) F hr b hx I3 (.cons rfl .nil) rz rfl l2 q3
end
/-! ### rules whose written part is told by its name (within comprehensions) -/
section
variable {X : Cx} {K : PySem.W.Frag} {e : Expr} {f : PySem.Str} {pos : Pos} {ta : TE}
theorem fldK (h : X.K = K) (he : PE X e ta) (hb : attributeBase e f X.env (eval e X.env) = eval e X.env) : PE X (.Attribute e f pos) (tFld K ta f) := by
  subst h
  exact pe_fld he hb
theorem slAK (h : X.K = K) : SlR X (rSlA K) := by
  subst h
  exact sl_tupA
theorem allK (h : X.K = K) (hc : X.calm = true) : CallR X (.builtin "all") (rAll K) := by
  subst h
  exact cr_all hc
theorem sumK (h : X.K = K) (hc : X.calm = true) : CallR X (.builtin "sum") (rSum K) := by
  subst h
  exact cr_sum hc
end
end Gd
namespace Dl
open PySem PySem.Spec PyProof.Rows L2 Gd
variable {K : PySem.W.Frag} {E : XK}
theorem pick_dv {W : Wd} {a : List V} {b : List T} (r : DvAll K W a b) : ∀ perm : List Nat, DvAll K W (pick perm a) (pick perm b)
  | [] => .nil
  | i :: is => by
    unfold pick
    rw [List.filterMap_cons, List.filterMap_cons]
    cases e : b[i]? with
    | none =>
      have : a[i]? = none := by
        have := List.getElem?_eq_none_iff.mp e
        exact List.getElem?_eq_none_iff.mpr (by rw [r.length]; exact this)
      rw [this]
      exact pick_dv r is
    | some v =>
      obtain ⟨u, e2, rv⟩ := r.get e
      rw [e2]
      exact .cons rv (pick_dv r is)
def rCallN (n m k : Nat) (d : DSpec) (perm : List Nat) (τs : List T) (ra rk : DA) : DE := fun ρ xw μ Φ => ra ρ xw μ fun ts μ1 => rk ρ xw μ1 fun ss μ2 => ts.length = n ∧ ss.length = m ∧ (pick perm (ts ++ (τs ++ ss))).length = k ∧ CallD d (pick perm (ts ++ (τs ++ ss))) μ2 Φ xw
instance sim_callN {n m k : Nat} {d : DSpec} {perm : List Nat} {dvs : List V} {t tk : TA} {ra rk τs} [a : SimA K E t ra] [b : SimA K E tk rk] [z : SimD K dvs τs] : SimE K E (tCallN n m (liftSp K k d) (fun vs zs => pick perm (vs ++ (dvs ++ zs))) E t tk) (rCallN n m k d perm τs ra rk) := ⟨fun x s xl h q =>
  a.run x s xl h fun l1 x1 d1 h1 => b.run x1 (s.mono l1) (xl.mono l1) h1 fun l2 x2 d2 h2 => ⟨by rw [d1.length]; exact h2.1, by rw [d2.length]; exact h2.2.1, call_sim x2 (pick_dv ((d1.mono l2).app ((z.all _).app d2)) perm) h2.2.2.1 (xl.mono (l1.trans l2)) h2.2.2.2 fun l3 x3 d3 h3 => q ((l1.trans l2).trans l3) x3 d3 h3⟩⟩
def rCallN0 (n m k : Nat) (d : DSpec) (perm : List Nat) (τs : List T) (ra rk : DA) : DE := fun ρ xw μ Φ => ra ρ xw μ fun ts μ1 => rk ρ xw μ1 fun ss μ2 => ts.length = n ∧ ss.length = m ∧ (pick perm (ts ++ (τs ++ ss))).length = k ∧ CallD d (pick perm (ts ++ (τs ++ ss))) μ2 Φ (fun _ _ _ => False)
instance (priority := 500) sim_callN0 {n m k : Nat} {d : DSpec} {perm : List Nat} {dvs : List V} {t tk : TA} {ra rk τs} [a : SimA K E t ra] [b : SimA K E tk rk] [z : SimD K dvs τs] : SimE K E (tCallN n m (liftSp K k d) (fun vs zs => pick perm (vs ++ (dvs ++ zs))) (fun _ _ _ => False) t tk) (rCallN0 n m k d perm τs ra rk) := ⟨fun x s xl h q =>
  a.run x s xl h fun l1 x1 d1 h1 => b.run x1 (s.mono l1) (xl.mono l1) h1 fun l2 x2 d2 h2 => ⟨by rw [d1.length]; exact h2.1, by rw [d2.length]; exact h2.2.1, call_sim x2 (pick_dv ((d1.mono l2).app ((z.all _).app d2)) perm) h2.2.2.1 (@xl_none K _ _) h2.2.2.2 fun l3 x3 d3 h3 => q ((l1.trans l2).trans l3) x3 d3 h3⟩⟩
def rMethN0 (C : Addr) (mn : PySem.Str) (n m k : Nat) (d : DSpec) (perm : List Nat) (τs : List T) (r : DE) (ra rk : DA) : DE := fun ρ xw μ Φ => r ρ xw μ fun t μ1 => (∃ fs, view μ1 t = .obj C fs ∧ fs.lookup mn = none) ∧
  ra ρ xw μ1 fun ts μ1 => rk ρ xw μ1 fun ss μ2 => ts.length = n ∧ ss.length = m ∧ (pick perm ((t :: ts) ++ (τs ++ ss))).length = k ∧ CallD d (pick perm ((t :: ts) ++ (τs ++ ss))) μ2 Φ (fun _ _ _ => False)
instance (priority := 500) sim_methN0 {C : Addr} {mn : PySem.Str} {n m k : Nat} {d : DSpec} {perm : List Nat} {dvs : List V} {te : TE} {t tk : TA} {r ra rk τs} [c : SimE K E te r] [a : SimA K E t ra] [b : SimA K E tk rk] [z : SimD K dvs τs] : SimE K E (tMethN C mn n m (liftSp K k d) (fun vs zs => pick perm (vs ++ (dvs ++ zs))) (fun _ _ _ => False) te t tk) (rMethN0 C mn n m k d perm τs r ra rk) := ⟨fun x s xl h q => c.run x s xl h fun l0 x0 d0 h0 => by
  obtain ⟨⟨fs, e, no⟩, h0⟩ := h0
  obtain ⟨p, dx, vs, rfl, e3, d3, cc⟩ := view_obj x0 d0 e
  exact ⟨p, dx, vs, rfl, e3, d3.lookN no, a.run x0 (s.mono l0) (xl.mono l0) h0 fun l1 x1 d1 h1 => b.run x1 ((s.mono l0).mono l1) (xl.mono (l0.trans l1)) h1 fun l2 x2 d2 h2 => ⟨by rw [d1.length]; exact h2.1, by rw [d2.length]; exact h2.2.1,
    call_sim x2 (pick_dv (DvAll.app (.cons ((d0.mono l1).mono l2) (d1.mono l2)) ((z.all _).app d2)) perm) h2.2.2.1 (@xl_none K _ _) h2.2.2.2 fun l3 x3 d3 h3 => q (((l0.trans l1).trans l2).trans l3) x3 d3 h3⟩⟩⟩
def rIenumT (r : DA) : DL := fun ρ xw μ Φ => r ρ xw μ fun ts μ' => match ts with
  | [.tup l] => Φ ((l.zipIdx).map fun p => .tup [.int (p.2 : Nat), p.1]) μ'
  | _ => False
instance sim_ienumT {t : TA} {r} [a : SimA K E t r] : SimI K E (iEnumT K t) (rIenumT r) := ⟨fun o s n h q => a.run o s n h fun {vs τs W1 H1 μ1} l1 o1 d1 h1 => by
  split at h1
  · rename_i l
    obtain ⟨v, rfl, dv⟩ := one_dv d1
    cases (show Dn K W1.B v (.tup l) from dv) with
    | @tup p xs _ e da =>
      refine ⟨p, xs, rfl, sqT_mono o1.sb e, q l1 o1 (fun {W' H' μ'} l' o' i => ?_) h1⟩
      have e' : SqT K H' p xs := sqT_mono (l'.b.trans o'.sb) e
      simp only [List.length_map, List.length_zipIdx]
      refine ⟨fun lt => ?_, fun le => ⟨xs, e', by rw [da.length]; exact le⟩⟩
      obtain ⟨v, ev, dv⟩ := da.get (List.getElem?_eq_getElem lt)
      refine ⟨⟨xs, v, e', ev⟩, fun y H'' yl => ?_⟩
      obtain ⟨p2, z, rfl, f, rfl, k⟩ := yl
      have e2 := k xs e'
      rw [ev] at e2
      cases e2
      refine ⟨{ W' with B := upd W'.B p2 (.tup [.int (i : Nat), v]) }, .tup [.int (i : Nat), l[i]], Grow.new o'.sb _ f, by simp [lt], ?_⟩
      exact .tup (SqT.of upd_same) (.cons (.int _) (.cons (dv.mono (l'.b.trans (same_new (o'.sb.free f)))) .nil))
  · exact h1.elim⟩
end Dl

set_option maxRecDepth 100000
set_option maxHeartbeats 4000000
namespace Dl
open PySem PySem.Spec PyProof.Rows L2 Gd
variable {K : PySem.W.Frag} {E : XK}
/-! ### o.f = e, of an object that may be changed -/
def putT (f : PySem.Str) (v : T) : List (PySem.Str × T) → List (PySem.Str × T)
  | [] => [(f, v)]
  | (g, x) :: r => if g = f then (g, v) :: r else (g, x) :: putT f v r
theorem putT_names {f : PySem.Str} {v : T} : ∀ {fs : List (PySem.Str × T)} {g : PySem.Str}, g ∈ (putT f v fs).map (·.1) → g = f ∨ g ∈ fs.map (·.1)
  | [], g, h => by
    simp [putT] at h
    exact .inl h
  | (g0, x) :: r, g, h => by
    unfold putT at h
    split at h
    · exact .inr h
    · simp only [List.map_cons, List.mem_cons] at h ⊢
      rcases h with h | h
      · exact .inr (.inl h)
      · exact (putT_names h).imp id fun z => .inr z
theorem DnF.put {B : Hp} {f : PySem.Str} {v : V} {t : T} (d : Dn K B v t) : ∀ {vs : List (PySem.Str × V)} {ts : List (PySem.Str × T)}, DnF K B vs ts → DnF K B (putF f v vs) (putT f t ts)
  | _, _, .nil => .cons d .nil
  | _, _, .cons (f := g) e r => by
    unfold putF putT
    by_cases h : g = f
    · rw [if_pos h, if_pos h]
      exact .cons d r
    · rw [if_neg h, if_neg h]
      exact .cons e (DnF.put d r)
theorem DnF.length {B : Hp} : ∀ {vs : List (PySem.Str × V)} {ts : List (PySem.Str × T)}, DnF K B vs ts → vs.length = ts.length
  | _, _, .nil => rfl
  | _, _, .cons _ r => congrArg (· + 1) r.length
theorem res_putF {W : Wd} {H : Hp} {μ : Mu} {k : Nat} {p C dx : Addr} {fs : List (PySem.Str × T)} {vs vs' : List (PySem.Str × V)} {fs' : List (PySem.Str × T)} (x : Ok K W H μ) (e : μ[k]? = some (.obj C fs)) (ep : W.ad[k]? = some p) (eh : H p = some (.ins C dx vs)) (d : DnF K W.B vs' fs') (c : COk K C (fs'.map (·.1))) :
    Ok K W (upd H p (.ins C dx vs')) (μ.set k (.obj C fs')) := by
  obtain ⟨p1, e1, o, dx1, vs1, o2, eh1, ed1, _, _⟩ := x.res k _ e
  rw [ep] at e1
  cases e1
  rw [eh] at eh1
  cases eh1
  obtain ⟨b1, g1, _, lt⟩ := x.lab p k o
  have dp : dx ≠ p := fun z => by
    subst z
    rw [eh] at ed1
    cases ed1
  refine ⟨fun a u q => ?_, fun a u q => ?_, fun a j q => ?_, by rw [List.length_set]; exact x.len, fun j r q => ?_⟩
  · rw [upd_ne (fun z => by subst z; rw [g1] at q; cases q)]
    exact x.sg _ _ q
  · rw [upd_ne (fun z => by subst z; rw [b1] at q; cases q)]
    exact x.sb _ _ q
  · obtain ⟨a1, a2, a3, a4⟩ := x.lab a j q
    refine ⟨a1, a2, ?_, by rw [List.length_set]; exact a4⟩
    by_cases z : a = p
    · subst z
      rw [upd_same]
      exact fun z => by cases z
    · rw [upd_ne z]
      exact a3
  · by_cases z : k = j
    · subst z
      rw [List.getElem?_set_self lt] at q
      cases q
      exact ⟨p, ep, o, dx, vs', o2, upd_same, by rw [upd_ne dp]; exact ed1, d, c⟩
    · rw [List.getElem?_set_ne z] at q
      obtain ⟨p2, e2, r2⟩ := x.res j r q
      refine ⟨p2, e2, ResOk.mono (W := W) (Same.refl _) (fun _ _ q => q) (fun a u o2 eh2 => ?_) r2⟩
      rw [upd_ne (fun z2 => by subst z2; rw [o] at o2; cases o2; exact z rfl)]
      exact eh2
def rSetF (K : PySem.W.Frag) (f : PySem.Str) (ro rv : DE) : DS := fun D xw ρ μ => rv ρ xw μ fun t μ1 => ro ρ xw μ1 fun o μ2 => match o with
  | .rs k => ∃ C fs, μ2[k]? = some (.obj C fs) ∧ NoAttr K C f ∧ t.flat = true ∧ fs.length < 1000 ∧ D.nx ρ (μ2.set k (.obj C (putT f t fs)))
  | _ => False
instance sim_setF {to tv : TE} {f : PySem.Str} {ro rv} [a : SimE K E to ro] [b : SimE K E tv rv] : SimS K E (sFld K to tv f) (rSetF K f ro rv) := ⟨fun o s n k h => b.run o s n h fun {v1 τ1 W1 H1 μ1} l1 o1 d1 h1 => a.run o1 (s.mono l1) (n.mono l1) h1 fun {v2 τ2 W2 H2 μ2} l2 o2 d2 h2 => by
  split at h2
  · obtain ⟨C, fs, e, no, fl, sz, h2⟩ := h2
    obtain ⟨p, ep, rfl⟩ := (show ∃ p, _ from d2)
    obtain ⟨p1, ep1, ow, dx, vs, _, eh, ed, dn, c⟩ := o2.res _ _ e
    rw [ep] at ep1
    cases ep1
    refine ⟨p, C, dx, vs, rfl, eh, c.cl, no, by rw [dn.length]; exact sz, k.nx (l1.trans l2) (res_putF o2 e ep eh (dn.put (flat_dn (d1.mono l2) fl)) ⟨c.cl, fun g hg => ?_⟩) (s.mono (l1.trans l2)) h2⟩
    rcases putT_names hg with z | z
    · subst z; exact no
    · exact c.no _ z
  · exact h2.elim⟩
/-! ### the numbers that are drawn, as such a dict -/
theorem drw_dr {W : Wd} {H : Hp} {d n : Nat} {μ : Mu} (x : Ok K W H [.drw "spot" n]) (e : W.ad[0]? = some d) : Dr (fun a => if W.own a = some 0 then none else H a) H d n := by
  obtain ⟨p, e1, o, lc, ll, cs, ls, i, o1, o2, ne, hd, hc, hl, c64, cb, l63, i0, il⟩ := x.res 0 _ rfl
  rw [e] at e1
  cases e1
  refine ⟨⟨lc, ll, cs, ls, i, hd, hc, hl, ne, c64, cb, l63, i0, il, if_pos o1, if_pos o2⟩, fun a u q => ?_, if_pos o⟩
  have q : (if W.own a = some 0 then none else H a) = some u := q
  split at q
  · cases q
  · exact q
end Dl

set_option maxRecDepth 100000
set_option maxHeartbeats 4000000
namespace Dl
open PySem PySem.Spec PyProof.Rows L2 Gd
variable {K : PySem.W.Frag} {E : XK}
/-- the name of the count is none of the two others -/
structure Nm (s : PySem.Str) : Prop where
  c : ¬ kC = (Sum.inr s : Key)
  l : ¬ kL = (Sum.inr s : Key)
section
variable {s : PySem.Str} {lc ll l2 : Addr} {k j : Int}
theorem ms_C : valV (mKs s lc ll k) kC = some (.ref lc) := valV_pos rfl
theorem ms_L : valV (mKs s lc ll k) kL = some (.ref ll) := (valV_neg nCL).trans (valV_pos rfl)
theorem ms_S (n : Nm s) : valV (mKs s lc ll k) (Sum.inr s) = some (.int k) := (valV_neg n.c).trans ((valV_neg n.l).trans (valV_pos rfl))
theorem ms_put (n : Nm s) : putK (mKs s lc ll k) (Sum.inr s) (.int j) = mKs s lc ll j := by
  unfold putK
  rw [valV_any, ms_S n, Option.isSome_some, if_pos rfl]
  show [if kC = Sum.inr s then (kC, V.int j) else (kC, .ref lc), if kL = Sum.inr s then (kL, V.int j) else (kL, .ref ll), if (Sum.inr s : Key) = Sum.inr s then (Sum.inr s, V.int j) else (Sum.inr s, .int k)] = _
  rw [if_neg n.c, if_neg n.l, if_pos rfl]
  rfl
theorem ms_putL (n : Nm s) : putK (mKs s lc ll k) kL (.ref l2) = mKs s lc l2 k := by
  unfold putK
  rw [valV_any, ms_L, Option.isSome_some, if_pos rfl]
  show [if kC = kL then (kC, V.ref l2) else (kC, .ref lc), if kL = kL then (kL, V.ref l2) else (kL, .ref ll), if (Sum.inr s : Key) = kL then (Sum.inr s, V.ref l2) else (Sum.inr s, .int k)] = _
  rw [if_neg nCL, if_pos rfl, if_neg (fun z => n.l z.symm)]
  rfl
end
structure DrS (s : PySem.Str) (H0 H : Hp) (d n : Nat) : Prop where
  ex : ∃ (lc ll : Addr) (cs ls : List Int) (k : Int), H d = some (.dK (mKs s lc ll k)) ∧ H lc = some (.lst (cs.map V.int)) ∧ H ll = some (.lst (ls.map V.int)) ∧ lc ≠ ll ∧
    cs.length = 64 ∧ (∀ c ∈ cs, 0 ≤ c ∧ c < 2147483647) ∧ ls.length ≤ 63 ∧ 0 ≤ k ∧ k + n ≤ 2147483648 ∧ H0 lc = none ∧ H0 ll = none
  same : Same H0 H
  free : H0 d = none
theorem drw_drS {W : Wd} {H : Hp} {s : PySem.Str} {d n : Nat} (x : Ok K W H [.drw s n]) (e : W.ad[0]? = some d) : DrS s (fun a => if W.own a = some 0 then none else H a) H d n := by
  obtain ⟨p, e1, o, lc, ll, cs, ls, i, o1, o2, ne, hd, hc, hl, c64, cb, l63, i0, il⟩ := x.res 0 _ rfl
  rw [e] at e1
  cases e1
  refine ⟨⟨lc, ll, cs, ls, i, hd, hc, hl, ne, c64, cb, l63, i0, il, if_pos o1, if_pos o2⟩, fun a u q => ?_, if_pos o⟩
  have q : (if W.own a = some 0 then none else H a) = some u := q
  split at q
  · cases q
  · exact q
/-- the heap behind numbers that were drawn -/
theorem drS_ok {W : Wd} {H H' : Hp} {s : PySem.Str} {d n m : Nat} (x : Ok K W H [.drw s n]) (e : W.ad[0]? = some d) (dr : DrS s (fun a => if W.own a = some 0 then none else H a) H' d m) : ∃ W', W.Le W' ∧ Ok K W' H' [.drw s m] := by
  obtain ⟨⟨lc, ll, cs, ls, k, hd, hc, hl, ne, c64, cb, l63, k0, km, f1, f2⟩, sm, f3⟩ := dr
  have la : W.ad.length = 1 := x.len
  have own0 : ∀ a j, W.own a = some j → j = 0 := fun a j q => by
    have := (x.lab a j q).2.2.2
    simp at this
    omega
  -- what the things lean on is free
  have fr : ∀ a, (if W.own a = some 0 then none else H a) = none → W.B a = none ∧ W.G a = none := fun a q => by
    split at q
    · rename_i h
      exact ⟨(x.lab a 0 h).1, (x.lab a 0 h).2.1⟩
    · exact ⟨x.sb.free q, x.sg.free q⟩
  have keep : ∀ a u, W.own a = none → H a = some u → H' a = some u := fun a u o q => sm a u (by
    show (if W.own a = some 0 then none else H a) = some u
    rw [if_neg (by rw [o]; exact fun z => by cases z)]
    exact q)
  have bn : ∀ a u, W.B a = some u → W.own a = none := fun a u q => by
    cases z : W.own a with
    | none => rfl
    | some j =>
      rw [(x.lab a j z).1] at q
      cases q
  have gn : ∀ a u, W.G a = some u → W.own a = none := fun a u q => by
    cases z : W.own a with
    | none => rfl
    | some j =>
      rw [(x.lab a j z).2.1] at q
      cases q
  refine ⟨{ W with own := fun a => if a = d ∨ a = lc ∨ a = ll then some 0 else none }, ⟨rfl, Same.refl _, fun _ _ q => .inl q, fun _ _ q => q⟩, ⟨fun a u q => keep a u (gn a u q) (x.sg _ _ q), fun a u q => keep a u (bn a u q) (x.sb _ _ q), fun a j q => ?_, x.len, fun j r q => ?_⟩⟩
  · have q : (if a = d ∨ a = lc ∨ a = ll then some 0 else none) = some j := q
    split at q
    · rename_i z
      cases q
      rcases z with z | z | z <;> subst z
      · exact ⟨(fr _ f3).1, (fr _ f3).2, by rw [hd]; simp, by simp⟩
      · exact ⟨(fr _ f1).1, (fr _ f1).2, by rw [hc]; simp, by simp⟩
      · exact ⟨(fr _ f2).1, (fr _ f2).2, by rw [hl]; simp, by simp⟩
    · cases q
  · match j, q with
    | 0, q =>
      cases q
      exact ⟨d, e, if_pos (.inl rfl), lc, ll, cs, ls, k, if_pos (.inr (.inl rfl)), if_pos (.inr (.inr rfl)), ne, hd, hc, hl, c64, cb, l63, k0, km⟩
/-- the promise of what draws: of things, told by their places -/
def spDrawS (s : PySem.Str) : Sp := fun vs H Q _ => ∃ (d : Addr) (many : Int) (H0 : Hp) (n : Nat), vs = [.ref d, .int many] ∧ 0 < many ∧ many < 1073741824 ∧ DrS s H0 H d (n + 1) ∧ ∀ (v : Int) (H' : Hp), 0 ≤ v → v < many → DrS s H0 H' d n → Q (.int v) H'
/-- .. of data -/
def dDraw (s : PySem.Str) : DSpec := fun ts μ Φ _ => ∃ (n : Nat) (many : Int), ts = [.rs 0, .int many] ∧ μ = [.drw s (n + 1)] ∧ 0 < many ∧ many < 1073741824 ∧ ∀ v : Int, 0 ≤ v → v < many → Φ (.int v) [.drw s n]
theorem draw_imp {P : Program} {w : World} {mg : PySem.Str → Option Value} {base : Heap} {k : Nat} {f : Addr} {fd : FuncData} {ps : List PySem.Str} {s : PySem.Str} (F : FnOk P w K mg base CX0 k f fd ps (spDrawS s)) :
    FnOk P w K mg base CX0 k f fd ps (liftSp K 2 (dDraw s)) := F.imp fun vs H Q E h => by
  obtain ⟨_, W, ts, μ, Φ, xw, o, dv, ⟨n, many, rfl, rfl, m0, m1, k⟩, xl, q⟩ := h
  obtain ⟨v, w, rfl, a, b⟩ := two_dv dv
  obtain ⟨d, e, rfl⟩ := (show ∃ p, _ from a)
  refine ⟨d, many, _, n, by rw [b.int], m0, m1, drw_drS o e, fun v H' v0 v1 dr => ?_⟩
  obtain ⟨W', l, o'⟩ := drS_ok o e dr
  exact q l o' (.int v) (k v v0 v1)
/-- what begins: from the script a dict of numbers -/
def spBegunS (K : PySem.W.Frag) (s : PySem.Str) : Sp := fun vs H Q _ => ∃ (a : Addr) (ns : List Int), vs = [.ref a] ∧ SqL K H a (ns.map V.int) ∧ ns.length ≤ 63 ∧ ∀ (d : Addr) (H' : Hp), DrS s H H' d 1000000 → Q (.ref d) H'
end Dl

set_option maxRecDepth 100000
set_option maxHeartbeats 4000000
namespace Gd
open PySem PySem.Spec PyProof.Rows L2
variable {P : Program} {w : World} {K : PySem.W.Frag} {mg : PySem.Str → Option Value} {base : Heap}
theorem FunD.ok0 {x qual : PySem.Str} {params : Arguments} {body : List Stmt} {scope : Scope} {dvs : List V} {kws : List (PySem.Str × V)} {f : Addr} {fd : FuncData} {N ps : List PySem.Str} {k : Nat} {sp : Sp} (F : FunD K x qual params body scope dvs kws f fd) (S : FnScope N ps scope) (len : ∀ vs H Q E, sp vs H Q E → vs.length = ps.length)
    (hbody : ∀ (cdv : Value) (A : Around) (outer : List Env) (s : Shared) (H : Hp) (vs : List V) (Q : VK) (E : XK), Room k (A.deeper (envOfC qual scope s.heap.objs.size f cdv)) → sp vs H Q E →
      ∃ t, PSs (cxOf CX0 P w K mg base N qual scope f cdv A outer s H E).nox body t ∧ t { nx := fun _ H' => Q .non H', rt := Q } (L2.start N vs) H) : FnOk P w K mg base CX0 (k + 1) f fd ps sp :=
  F.ok S len fun cdv A outer s H vs Q E hr h => let ⟨t, a, b⟩ := hbody cdv A outer s H vs Q E hr h; ⟨t, a.nox, b⟩
/-- .. where no repr is under way -/
theorem FunD.okG {x qual : PySem.Str} {params : Arguments} {body : List Stmt} {scope : Scope} {dvs : List V} {kws : List (PySem.Str × V)} {f : Addr} {fd : FuncData} {N ps : List PySem.Str} {k : Nat} {sp : Sp} (F : FunD K x qual params body scope dvs kws f fd) (S : FnScope N ps scope) (len : ∀ vs H Q E, sp vs H Q E → vs.length = ps.length)
    (hbody : ∀ (cdv : Value) (A : Around) (out : List Env) (s : Shared) (H : Hp) (vs : List V) (Q : VK) (E : XK), A.guards = some [] → Room k (A.deeper (envOfC qual scope s.heap.objs.size f cdv)) → sp vs H Q E →
      ∃ t, PSs (cxOf CX0 P w K mg base N qual scope f cdv A out s H E).nox body t ∧ t { nx := fun _ H' => Q .non H', rt := Q } (L2.start N vs) H) : FnG P w K mg base (k + 1) f fd ps sp := by
  obtain ⟨oc, od, dV, kV, doc, pm, an, cdv, ct, osl, rfl, lk, hcd, _, _⟩ := F.ex
  refine ⟨fun h => len _ _ _ _ h, ?_⟩
  intro A out s H ar us vs Q E hA room e0 bnd rel pr
  obtain ⟨t, bodyp, start'⟩ := hbody cdv A out s H vs Q E hA (room.deeper _) pr
  have inK : K.In s.heap := e0.mod.kin.keeps (fun b o q => (e0.bs b o q).1)
  have nolim : s.heap.NoLimit := e0.mod.nolimit.keeps (fun b o q => (e0.bs b o q).1)
  refine codeAny_call_function room.depth (inK _ _ lk) rfl S.co S.gen rfl (PySem.W.codeRec_of inK hcd) (bnd _ _ _ _ ?_)
  have kinds : ∀ y ∈ ps.zip us, scope.names.lookup y.1 = some .local ∨ (scope.names.lookup y.1 = some .cell ∧ ((cellsFrom (s.heap.objs.size + 1) scope.names []).lookup y.1).isSome = true) := by
    rintro ⟨nm, val⟩ hy
    have m := (List.of_mem_zip hy).1
    exact (S.par nm m).imp id fun q => ⟨q, PySem.W.cellsFrom_some _ _ _ (.inl q)⟩
  refine wpAny_newFunctionEnv_cells S.kind kinds ?_
  rintro env rfl s1 made
  refine ⟨nolim.keeps made.toInCall.keep, codeAny_func ?_⟩
  have inv0 := inv_start (CX := CX0) (mg := mg) (qual := qual) (cd := cdv) (E := E) S room.hd e0 (len _ _ _ _ pr) rel made
  refine wpAny_mono ((bodyp.nox).run [] s1 (L2.start N vs) H _ inv0 start') ?_ fun e s' z => z
  intro fl s' z
  match fl, z with
  | .ret u, ⟨v, σ', H', J, rv, q⟩ => exact ⟨v, H', J.os, J.bare, J.base, J.hok, rv, q⟩
  | .next, ⟨σ', H', J, q⟩ => exact ⟨.non, H', J.os, J.bare, J.base, J.hok, rfl, q⟩
  | .brk, ⟨_, _, _, q⟩ => exact False.elim q
  | .cont, ⟨_, _, _, q⟩ => exact False.elim q
section
variable {X : Cx} {k : Nat} {f : Addr} {fd : FuncData} {ps : List PySem.Str} {sp : Sp} {dvs : List V} {x : PySem.Str} {p pos : Pos} {e : Expr} {es : List Expr} {t : TA}
theorem pe_callGX (G : FnG X.prog X.w X.K X.mg X.base k f fd ps sp) (hA : X.A.guards = some []) (room : Room k X.A) (gl : Gl X x) (at_ : X.mg x = some (.ref f)) (kp : PySem.W.keepIn X.K (.ref f) = true) (hb : ∃ ds, Vals dvs ds ∧ Binds X.K fd ps ds)
    (ha : PA X (e :: es) t) (ndb : (x == ("__debug__" : PySem.Str)) = false := by decide) (h1 : starEach (e :: es) X.env = (false, eval e X.env) :: starEach es X.env := by rfl) (h2 : (backTo pos (starEach es X.env)).any (·.1) = false := by rfl) :
    PE X (.Call (.Name x p) (e :: es) [] pos) (tCall sp dvs E0 t) := by
  obtain ⟨ds, a, b⟩ := hb
  exact pe_callG (E := E0) G hA room gl at_ kp b a ha ndb h1 h2
end
end Gd
namespace Dl
open PySem PySem.Spec PyProof.Rows L2 Gd
variable {K : PySem.W.Frag} {E : XK}
theorem lift_len {n : Nat} {d : DSpec} : ∀ vs H Q E, liftSp K n d vs H Q E → vs.length = n := fun _ _ _ _ h => h.1
theorem lift_lenL {n : Nat} {d} : ∀ vs H Q E, liftSpL K n d vs H Q E → vs.length = n := fun _ _ _ _ h => h.1
theorem ps_keepA {X : Cx} {st : Stmt} {t : TE} {g : TG} (h : PS X st (tAsg t g)) : PS X st (tAsg (tKeep t) g) := h
/-- a law's script: of numbers, whatever they are -/
theorem begun_sim {s : PySem.Str} {W : Wd} {H H' : Hp} {μ : Mu} {d n : Nat} (x : Ok K W H μ) (dr : DrS s H H' d n) : ∃ W', W.Le W' ∧ Ok K W' H' (μ ++ [.drw s n]) ∧ W'.ad[μ.length]? = some d := by
  obtain ⟨⟨lc, ll, cs, ls, k, hd, hc, hl, ne, c64, cb, l63, k0, km, f1, f2⟩, sm, f3⟩ := dr
  have fo : ∀ a, H a = none → W.own a = none := fun a h => by
    cases z : W.own a with
    | none => rfl
    | some j => exact absurd h (x.lab a j z).2.2.1
  have ad1 : (W.ad ++ [d])[μ.length]? = some d := by rw [← x.len]; simp
  have so : ∀ a j, W.own a = some j → (if a = d ∨ a = lc ∨ a = ll then some μ.length else W.own a) = some j := fun a j q => by
    rw [if_neg]
    · exact q
    · rintro (z | z | z) <;> subst z
      · rw [fo _ f3] at q; cases q
      · rw [fo _ f1] at q; cases q
      · rw [fo _ f2] at q; cases q
  refine ⟨{ W with ad := W.ad ++ [d], own := fun a => if a = d ∨ a = lc ∨ a = ll then some μ.length else W.own a }, ⟨rfl, Same.refl _, fun _ _ q => .inl q, fun k p q => ?_⟩, ⟨x.sg.trans sm, x.sb.trans sm, fun a j q => ?_, by simp [x.len], fun j r q => ?_⟩, ad1⟩
  · show (W.ad ++ [d])[k]? = _
    rw [List.getElem?_append_left (List.getElem?_eq_some_iff.mp q).1]
    exact q
  · have q : (if a = d ∨ a = lc ∨ a = ll then some μ.length else W.own a) = some j := q
    split at q
    · rename_i z
      cases q
      rcases z with z | z | z <;> subst z
      · exact ⟨x.sb.free f3, x.sg.free f3, by rw [hd]; simp, by simp⟩
      · exact ⟨x.sb.free f1, x.sg.free f1, by rw [hc]; simp, by simp⟩
      · exact ⟨x.sb.free f2, x.sg.free f2, by rw [hl]; simp, by simp⟩
    · obtain ⟨a1, a2, a3, a4⟩ := x.lab a j q
      exact ⟨a1, a2, fun z => a3 (sm.free z), by simp; omega⟩
  · by_cases lt : j < μ.length
    · rw [List.getElem?_append_left lt] at q
      obtain ⟨p, e1, r1⟩ := x.res j r q
      refine ⟨p, ?_, ResOk.relab (W := W) (H := H) (k := j) (Same.refl _) (fun a o => ⟨so a j o, fun u q => sm _ _ q⟩) r1⟩
      show (W.ad ++ [d])[j]? = _
      rw [List.getElem?_append_left (by rw [x.len]; exact lt)]
      exact e1
    · have ek : j = μ.length := by
        have := (List.getElem?_eq_some_iff.mp q).1
        simp at this
        omega
      subst ek
      simp at q
      subst q
      exact ⟨d, ad1, if_pos (.inl rfl), lc, ll, cs, ls, k, if_pos (.inr (.inl rfl)), if_pos (.inr (.inr rfl)), ne, hd, hc, hl, c64, cb, l63, k0, km⟩
end Dl
namespace Gd
open PySem PySem.Spec PyProof.Rows L2
/-! ### the rules with the written part by its name -/
section
variable {X : Cx} {K : PySem.W.Frag}
theorem kT {P : PySem.W.Frag → Prop} (h : X.K = K) (p : P X.K) : P K := h ▸ p
theorem bmK (h : X.K = K) {o e : Expr} {es : List Expr} {to : TE} {t : TA} {name : PySem.Str} {apos cpos : Pos} {T id : String} {r : V → List V → Hp → VK → Prop} (pa : PlainAttrs T) (slot : Slot T name id) (hty : typeOf (.builtin id) = pure (.type "method_descriptor")) (hm : MtR X id r) (ho : PE X o to) (ha : PA X (e :: es) t)
    (hbase : attributeBase o name X.env (eval o X.env) = eval o X.env := by rfl)
    (hfew : ((backTo cpos (starEach (e :: es) X.env)).all (fun x => !x.1) && (backToKw cpos (keywordEach [] X.env)).all (fun x => x.1.isSome)
      && decide ((e :: es).length + ([] : List Keyword).length + (if ([] : List Keyword).isEmpty then 0 else 1) < 30)) = true := by rfl)
    (hline : (apos.endLine == cpos.line) = true := by rfl) (hs : starEach (e :: es) X.env = (false, eval e X.env) :: starEach es X.env := by rfl) (hplain : (backTo cpos (starEach es X.env)).any (·.1) = false := by rfl) :
    PE X (.Call (.Attribute o name apos) (e :: es) [] cpos) (tBM K T r to t) := by
  subst h
  exact pe_bm pa slot hty hm ho ha hbase hfew hline hs hplain
theorem bm0K (h : X.K = K) {o : Expr} {to : TE} {name : PySem.Str} {apos cpos : Pos} {T id : String} {r : V → List V → Hp → VK → Prop} (pa : PlainAttrs T) (slot : Slot T name id) (hty : typeOf (.builtin id) = pure (.type "method_descriptor")) (hm : MtR X id r) (ho : PE X o to)
    (hbase : attributeBase o name X.env (eval o X.env) = eval o X.env := by rfl) (hline : (apos.endLine == cpos.line) = true := by rfl) : PE X (.Call (.Attribute o name apos) [] [] cpos) (tBM0 K T r to) := by
  subst h
  exact pe_bm0 pa slot hty hm ho hbase hline
theorem piLK (h : X.K = K) {tg l : Expr} {tl : TE} (hl : PE X l tl) : PI X tg l (iList K tl) := by
  subst h
  exact pi_list hl
theorem piTK (h : X.K = K) {tg l : Expr} {tl : TE} (hl : PE X l tl) : PI X tg l (iTup K tl) := by
  subst h
  exact pi_tup hl
theorem piEK (h : X.K = K) {e : Expr} {ta : TA} {p pos tpos : Pos} {elts : List Expr} {kk : Nat} (hg : Gl X "enumerate") (hm : X.mg "enumerate" = none) (ha : PA X [e] ta) (hs : starEach [e] X.env = [(false, eval e X.env)] := by rfl) :
    PI X (.Tuple elts kk tpos) (.Call (.Name "enumerate" p) [e] [] pos) (iEnum K ta) := by
  subst h
  exact pi_enum hg hm ha hs
theorem piETK (h : X.K = K) {e : Expr} {ta : TA} {p pos tpos : Pos} {elts : List Expr} {kk : Nat} (hg : Gl X "enumerate") (hm : X.mg "enumerate" = none) (ha : PA X [e] ta) (hs : starEach [e] X.env = [(false, eval e X.env)] := by rfl) :
    PI X (.Tuple elts kk tpos) (.Call (.Name "enumerate" p) [e] [] pos) (iEnumT K ta) := by
  subst h
  exact pi_enumT hg hm ha hs
theorem piZK (h : X.K = K) {e e2 : Expr} {ta : TA} {p pos tpos : Pos} {elts : List Expr} {kk : Nat} (hg : Gl X "zip") (hm : X.mg "zip" = none) (ha : PA X [e, e2] ta)
    (hs : starEach [e, e2] X.env = (false, eval e X.env) :: starEach [e2] X.env := by rfl) (hpl : (backTo pos (starEach [e2] X.env)).any (·.1) = false := by rfl) :
    PI X (.Tuple elts kk tpos) (.Call (.Name "zip" p) [e, e2] [] pos) (iZip K ta) := by
  subst h
  exact pi_zip hg hm ha hs hpl
theorem pgTK (h : X.K = K) {pos : Pos} {es : List Expr} {k : Nat} {t : TGs} {n : Nat} (hc : X.calm = true) (hh : PGs X es t)
    (hn : (assignEach es X.env).length = n := by rfl) (hst : (assignEach es X.env).findIdx? (·.1) = none := by rfl) : PG X (.Tuple es k pos) (gTup K n t) := by
  subst h
  exact pg_tup hc hh hn hst
theorem ptTK (h : X.K = K) {a : Expr} {ta : TE} (ha : PE X a ta) (he : ∀ whole, isTrue a X.env whole = (do let v ← whole; standAt a.pos; holding [v] (truthy v))) :
    PT X a (fun σ H Q => ta σ H fun x H' => ∃ k, TruV K x H' k ∧ Q k H') := by
  subst h
  exact pt_truth ha he
theorem psFK (h : X.K = K) {o value : Expr} {f : PySem.Str} {pos pos' : Pos} {ta tv : TE} (ha : PE X o ta) (hv : PE X value tv) (hs : swapsWith value (some (.Attribute o f pos')) pos.line X.env = pure false) : PS X (.Assign [.Attribute o f pos'] value pos) (sFld K ta tv f) := by
  subst h
  exact ps_fld ha hv hs
theorem inTK (h : X.K = K) : OpR X (compareOp .In) (rInT K false) := by
  subst h
  exact op_in_ty
theorem notInTK (h : X.K = K) : OpR X (compareOp .NotIn) (rInT K true) := by
  subst h
  exact op_notIn_ty
theorem catAK (h : X.K = K) : OpR X (binaryOp .Add) (rCatA K) := by
  subst h
  exact op_catA
theorem anyK (h : X.K = K) (hc : X.calm = true) : CallR X (.builtin "any") (rAny K) := by
  subst h
  exact cr_any hc
theorem listOfK (h : X.K = K) : CallR X (.type "list") (fun xs H Q => ∃ p ys, xs = [V.ref p] ∧ (SqL K H p ys ∨ SqT K H p ys) ∧ ∀ l, H l = none → Q (V.ref l) (upd H l (.lst ys))) := by
  subst h
  exact call_list_of
theorem tupOfK (h : X.K = K) : CallR X (.type "tuple") (fun xs H Q => ∃ p ys, xs = [V.ref p] ∧ ((SqL K H p ys ∧ ∀ l, H l = none → Q (V.ref l) (upd H l (.tup ys))) ∨ (SqT K H p ys ∧ Q (V.ref p) H))) := by
  subst h
  exact call_tuple_of
theorem joinK (h : X.K = K) : MtR X "str.join" (fun x xs H Q => ∃ a p, ∃ ys : List PySem.Str, x = V.str a ∧ xs = [V.ref p] ∧ (SqL K H p (ys.map V.str) ∨ SqT K H p (ys.map V.str)) ∧
    (ys.map (·.length)).sum + ys.length * a.length ≤ 16777216 ∧ Q (V.str (Txt.join a ys)) H) := by
  subst h
  exact mt_join
theorem sortIK (h : X.K = K) : CallR X (.builtin "sorted") (rSortedI K) := by
  subst h
  exact cr_sortedI
end
end Gd
namespace Dl
open PySem PySem.Spec PyProof.Rows L2 Gd
variable {K : PySem.W.Frag} {E : XK}
/-- a + b of tuples -/
def dCatT : Mu → T → T → (T → Prop) → Prop := fun μ a b Ψ => ∃ l m, view μ a = .tup l ∧ view μ b = .tup m ∧ l.length + m.length ≤ 1000000 ∧ Ψ (.tup (l ++ m))
instance sim_catT : SimOp K (rCatA K) dCatT := ⟨fun {W H μ x y tx ty Ψ Q} o dx dy h q => by
  obtain ⟨l, m, e1, e2, z, h⟩ := h
  rw [view_tup_eq e1] at dx
  rw [view_tup_eq e2] at dy
  obtain ⟨p, xs, rfl, s1, d1⟩ := view_tup o dx rfl
  obtain ⟨p2, ys, rfl, s2, d2⟩ := view_tup o dy rfl
  refine ⟨p, p2, xs, ys, rfl, rfl, s1, s2, by rw [d1.length, d2.length]; exact line1 z, fun hx => ?_, fun hx hy => ?_, fun hx hy p3 f => ?_⟩
  · subst hx
    cases d1
    exact q (Grow.refl o.sb) dy h
  · subst hy
    cases d2
    rw [List.append_nil] at h
    exact q (Grow.refl o.sb) dx h
  · obtain ⟨W', g, d⟩ := new_tup o f (d1.append d2)
    exact q g (.of d) h⟩
/-- sorted(numbers): in order, the same ones -/
def dSortI : Mu → List T → (List T → Prop) → Prop := fun μ ts Ψ => match ts with
  | [t] => ∃ l ns, view μ t = .lst l ∧ T.ints l = some ns ∧ ∀ ns' : List Int, ns'.Perm ns → ns'.Pairwise (· ≤ ·) → Ψ (ns'.map T.int)
  | _ => False
theorem ints_dn {B : Hp} : ∀ ns : List Int, DnAll K B (ns.map V.int) (ns.map T.int)
  | [] => .nil
  | n :: r => .cons (.int n) (ints_dn r)
instance sim_sortI : SimCL K (rSortedI K) dSortI := ⟨fun {W H μ vs ts Ψ Q} x d e q => by
  unfold dSortI at e
  split at e
  · obtain ⟨l, ns, e1, e2, e⟩ := e
    obtain ⟨v, rfl, dv⟩ := one_dv d
    obtain ⟨p, xs, rfl, s, da⟩ := view_lst x dv e1
    rw [ints_is da e2] at s
    refine ⟨p, ns, rfl, SqL.of s, fun ns' p2 pm pw f => ?_⟩
    obtain ⟨x2, fr⟩ := Fr.new (l := ns'.map T.int) x f (ints_dn ns')
    exact q x2 fr (e ns' pm pw)
  · exact e.elim⟩
/-- zip of two lists -/
def rIzip (r : DA) : DL := fun ρ xw μ Φ => r ρ xw μ fun ts μ' => match ts with
  | [.lst l, .lst m] => Φ ((l.zip m).map fun p => .tup [p.1, p.2]) μ'
  | _ => False
instance sim_izip {t : TA} {r} [a : SimA K E t r] : SimI K E (iZip K t) (rIzip r) := ⟨fun o s n h q => a.run o s n h fun {vs τs W1 H1 μ1} l1 o1 d1 h1 => by
  split at h1
  · rename_i l m
    obtain ⟨v, w, rfl, dv, dw⟩ := two_dv d1
    cases (show Dn K W1.B v (.lst l) from dv) with
    | @lst p xs _ e da =>
      cases (show Dn K W1.B w (.lst m) from dw) with
      | @lst p2 ys _ e2 da2 =>
        refine ⟨p, p2, xs, ys, rfl, SqL.of (o1.sb _ _ e), SqL.of (o1.sb _ _ e2), q l1 o1 (fun {W' H' μ'} l' o' i => ?_) h1⟩
        have e' : H' p = some (.lst xs) := o'.sb _ _ (l'.b _ _ e)
        have e2' : H' p2 = some (.lst ys) := o'.sb _ _ (l'.b _ _ e2)
        simp only [List.length_map, List.length_zip]
        refine ⟨fun lt => ?_, fun le => ⟨xs, ys, SqL.of e', SqL.of e2', by rw [da.length, da2.length]; omega⟩⟩
        have lt1 : i < l.length := by omega
        have lt2 : i < m.length := by omega
        obtain ⟨v, ev, dv⟩ := da.get (List.getElem?_eq_getElem lt1)
        obtain ⟨w, ew, dw⟩ := da2.get (List.getElem?_eq_getElem lt2)
        refine ⟨⟨xs, ys, v, w, SqL.of e', SqL.of e2', ev, ew⟩, fun y H'' yl => ?_⟩
        obtain ⟨p3, z, z2, rfl, f, rfl, k, k2⟩ := yl
        have h1 := k xs (SqL.of e')
        have h2 := k2 ys (SqL.of e2')
        rw [ev] at h1
        rw [ew] at h2
        cases h1
        cases h2
        refine ⟨{ W' with B := upd W'.B p3 (.tup [v, w]) }, .tup [l[i], m[i]], Grow.new o'.sb _ f, ?_, ?_⟩
        · rw [List.getElem?_map, List.getElem?_eq_getElem (by simp; omega), List.getElem_zip]
          rfl
        have sm := l'.b.trans (same_new (o := .tup [v, w]) (o'.sb.free f))
        exact .tup (SqT.of upd_same) (.cons (dv.mono sm) (.cons (dw.mono sm) .nil))
  · exact h1.elim⟩
theorem flats_map {α : Type} {f : α → T} (h : ∀ x, (f x).flat = true) : ∀ l : List α, flats (l.map f) = true
  | [] => rfl
  | a :: r => by
    show ((f a).flat && flats (r.map f)) = true
    rw [h a, flats_map h r]
    rfl
theorem ints_mapf {α : Type} (f : α → Int) : ∀ l : List α, T.ints (l.map fun x => .int (f x)) = some (l.map f)
  | [] => rfl
  | a :: r => by
    show (T.ints (r.map fun x => .int (f x))).map _ = _
    rw [ints_mapf f r]
    rfl
end Dl

namespace Dl
open PySem PySem.Spec PyProof.Rows L2 Gd
/-! ### small things at work -/
theorem atI_nat {α : Type} {l : List α} {j : Nat} {x : α} (e : l[j]? = some x) : atI l (j : Int) = some x := by
  have lt := (List.getElem?_eq_some_iff.mp e).1
  obtain ⟨y, _, e1, e2⟩ := at_in (l := l) (i := (j : Int)) (by omega) (by omega)
  rw [Int.toNat_natCast, e] at e1
  rw [e2, e1]
theorem atI_map {α β : Type} {l : List α} {f : α → β} {j : Nat} {x : α} (e : l[j]? = some x) : atI (l.map f) (j : Int) = some (f x) := atI_nat (by rw [List.getElem?_map, e]; rfl)
theorem atI_int {α : Type} {l : List α} {i : Int} {x : α} (h : 0 ≤ i) (e : l[i.toNat]? = some x) : atI l i = some x := by
  have := atI_nat e
  rwa [Int.toNat_of_nonneg h] at this
theorem iteF' {b : Bool} {A B : Prop} (e : b = false) (h : B) : if b = true then A else B := by
  subst e
  exact h
theorem iteT' {b : Bool} {A B : Prop} (e : b = true) (h : A) : if b = true then A else B := by
  subst e
  exact h
theorem iteE {b c : Bool} {A B : Prop} (e : b = c) (h : if c = true then A else B) : if b = true then A else B := by
  subst e
  exact h
section
variable {K : PySem.W.Frag} {E : XK}
def rUn (f : Int → T) (r : DE) : DE := fun ρ xw μ Φ => r ρ xw μ fun t μ' => match t with
  | .int i => Φ (f i) μ'
  | _ => False
instance sim_un {t : TE} {r} {f : Int → Int} [a : SimE K E t r] : SimE K E (tUn (rU fun i => V.int (f i)) t) (rUn (fun i => .int (f i)) r) := ⟨fun x s n h q => a.run x s n h fun {v τ W1 H1 μ1} l1 x1 d1 h1 => by
  split at h1
  · cases d1.int
    exact ⟨_, rfl, q l1 x1 (.of (.int _)) h1⟩
  · exact h1.elim⟩
end
/-- a draw at work -/
theorem drawR {s : PySem.Str} {μ : Mu} {k n : Nat} {many : Int} {Φ : T → Mu → Prop} {xw : XW} (e : μ[k]? = some (.drw s n)) (n0 : 0 < n) (m0 : 0 < many) (m1 : many < 1073741824) (q : ∀ v : Int, 0 ≤ v → v < many → Φ (.int v) (μ.set k (.drw s (n - 1)))) : CallD (dDraw s) [.rs k, .int many] μ Φ xw := by
  obtain ⟨m, rfl⟩ : ∃ m, n = m + 1 := ⟨n - 1, by omega⟩
  exact callR e rfl ⟨m, many, rfl, rfl, m0, m1, fun v v0 v1 => q v v0 v1⟩
theorem at_intT {cs : List Int} {i : Int} (h : 0 ≤ i) (k : i < cs.length) : ∃ c, c ∈ cs ∧ atI (cs.map T.int) i = some (.int c) := by
  obtain ⟨x, hx, e, _⟩ := at_in (l := cs) h k
  exact ⟨x, hx, atI_int h (by rw [List.getElem?_map, e]; rfl)⟩
theorem range_at {n i : Nat} {t : T} (e : ((List.range n).map fun i : Nat => T.int i)[i]? = some t) : i < n ∧ t = .int i := by
  rw [List.getElem?_map, Option.map_eq_some_iff] at e
  obtain ⟨j, e1, rfl⟩ := e
  obtain ⟨lt, e2⟩ := List.getElem?_eq_some_iff.mp e1
  rw [List.length_range] at lt
  rw [List.getElem_range] at e2
  exact ⟨lt, by rw [e2]⟩
theorem rSeq_go {a b : DS} {D : DEnds} {xw : XW} {ρ : Rho} {μ : Mu} (h : a { D with nx := fun ρ' μ' => b D xw ρ' μ' } xw ρ μ) : rSeq a b D xw ρ μ := h
/-- what is known between two pieces -/
theorem rSeq_cut {a b : DS} {D : DEnds} {xw : XW} {ρ : Rho} {μ : Mu} (R : Rho → Mu → Prop) (h1 : ∀ N : Rho → Mu → Prop, (∀ ρ μ, R ρ μ → N ρ μ) → a { D with nx := N } xw ρ μ) (h2 : ∀ ρ μ, R ρ μ → b D xw ρ μ) : rSeq a b D xw ρ μ := h1 _ h2
theorem atI_last {α : Type} {l : List α} {x : α} (e : l[l.length - 1]? = some x) : atI l (-1) = some x := by
  have lt := (List.getElem?_eq_some_iff.mp e).1
  unfold atI
  rw [show ixN l.length (-1) = some (l.length - 1) from by
    unfold ixN
    simp
    omega]
  exact e
/-- from here on the list of slot i is changed no more -/
def tFrz (_ : Nat) (t : TS) : TS := t
def rFrz (i : Nat) (r : DS) : DS := fun D xw ρ μ => match ρ[i]? with
  | some (some (.rs k)) => ∃ l, μ[k]? = some (.lst l) ∧ r D xw (ρ.set i (some (.lst l))) (μ.set k .gone)
  | _ => False
section
variable {K : PySem.W.Frag} {E : XK}
instance sim_frz {i : Nat} {t : TS} {r} [a : SimS K E t r] : SimS K E (tFrz i t) (rFrz i r) := ⟨fun {W H σ ρ μ xw D De} o s n k h => by
  unfold rFrz at h
  split at h
  · rename_i j e
    obtain ⟨l, el, h⟩ := h
    obtain ⟨v, ev, dv⟩ := s.2 i _ e
    obtain ⟨p, xs, W1, ea, l1, o1, fr⟩ := o.drop el
    obtain ⟨W2, l2, o2, d⟩ := fr.froz o1
    obtain ⟨p2, ep, rfl⟩ := (show ∃ p, _ from dv)
    rw [ea] at ep
    cases ep
    have l3 := l1.trans l2
    have s2 := (s.mono l3).set (i := i) (.of d)
    have es : σ.set i (some (.ref p)) = σ := by
      obtain ⟨lt, e3⟩ := List.getElem?_eq_some_iff.mp ev
      rw [← e3]
      exact List.set_getElem_self lt
    rw [es] at s2
    exact a.run o2 s2 (n.mono l3) (k.mono l3) h
  · exact h.elim⟩
theorem ps_frz {X : Cx} {st : Stmt} {t : TS} (i : Nat) (h : PS X st t) : PS X st (tFrz i t) := h
end
theorem cutT_map {α β : Type} (f : α → β) (l : List α) (lo hi : Option Int) : cutT (l.map f) lo hi = (cutT l lo hi).map f := by
  unfold cutT
  rw [List.length_map, List.map_take, List.map_drop]
theorem enum_at {l : List T} {i : Nat} {t : T} (e : (l.zipIdx.map fun p => T.tup [.int p.2, p.1])[i]? = some t) : ∃ x, l[i]? = some x ∧ t = .tup [.int i, x] := by
  rw [List.getElem?_map, List.getElem?_zipIdx, Option.map_map, Option.map_eq_some_iff] at e
  obtain ⟨x, a, rfl⟩ := e
  refine ⟨x, a, ?_⟩
  show T.tup [.int ((0 + i : Nat) : Int), x] = _
  rw [Nat.zero_add]
theorem enum_len (l : List T) : (l.zipIdx.map fun p => T.tup [.int p.2, p.1]).length = l.length := by
  rw [List.length_map, List.length_zipIdx]
section
variable {K : PySem.W.Frag} {E : XK}
def rMake0 (C : Addr) (n : Nat) (d : DSpec) (τs : List T) (K : PySem.W.Frag) (ra : DA) : DE := fun ρ xw μ Φ => ra ρ xw μ fun ts μ' => COk K C [] ∧ (ts ++ τs).length + 1 = n ∧
  CallD d (.rs μ'.length :: (ts ++ τs)) (μ' ++ [.obj C []]) (fun τ μ2 => τ = .non ∧ μ2.length = μ'.length + 1 ∧ ∃ fs, μ2[μ'.length]? = some (.obj C fs) ∧ Φ (.obj C fs) (μ2.take μ'.length)) (fun _ _ _ => False)
instance (priority := 500) sim_make0 {C : Addr} {n : Nat} {d : DSpec} {dvs : List V} {t : TA} {ra τs} [a : SimA K E t ra] [z : SimD K dvs τs] : SimE K E (tMake C (liftSp K n d) dvs (fun _ _ _ => False) t) (rMake0 C n d τs K ra) := ⟨fun {W H σ ρ μ xw Φ Q} x s k h q => a.run x s k h fun {vs ts W1 H1 μ1} l1 x1 d1 h1 => by
  obtain ⟨c, ln, h1⟩ := h1
  intro ad dx fx fd ne
  obtain ⟨W2, l2, x2, e2⟩ := x1.make fx fd ne c
  refine call_sim (ts := .rs μ1.length :: (ts ++ τs)) x2 (.cons ⟨ad, e2, rfl⟩ ((d1.app (z.all _)).mono l2)) (by simp only [List.length_cons]; exact ln) (@xl_none K _ _) h1 (fun {v τ W' H' μ'} l o dv h => ?_)
  obtain ⟨rfl, len, fs, e3, h⟩ := h
  have em : μ' = μ'.take μ1.length ++ [.obj C fs] := by
    have : μ'.drop μ1.length = [.obj C fs] := by
      rw [List.drop_eq_getElem_cons (by omega), List.drop_eq_nil_of_le (by omega)]
      have := (List.getElem?_eq_some_iff.mp e3).2
      rw [this]
    rw [← this, List.take_append_drop]
  have tl : (μ'.take μ1.length).length = μ1.length := by rw [List.length_take]; omega
  rw [em] at o
  obtain ⟨W4, g4, b4, n4, a4, o4, dn⟩ := o.done tl.symm (l.ad _ _ e2)
  have le4 : W2.Le W4 → True := fun _ => trivial
  refine ⟨dv.non, q (W' := W4) (l1.trans ⟨g4.trans (l.g.trans l2.g), (l2.b.trans l.b).trans b4, fun a u e => ?_, fun j p e => ?_⟩) o4 (.of dn) h⟩
  · rcases n4 a u e with e | e
    · exact (l2.trans l).nb a u e
    · exact .inr (by rw [← (l2.trans l).g]; exact e)
  · rw [a4, tl]
    have lt := (List.getElem?_eq_some_iff.mp e).1
    rw [x1.len] at lt
    rw [List.getElem?_take, if_pos lt]
    exact (l2.trans l).ad _ _ e⟩
end
end Dl

namespace Dl
open PySem PySem.Spec PyProof.Rows L2 Gd
/-! ### what may be shown, told of data -/
/-- t may be shown, at most n deep, at most b in all -/
inductive Sw : T → PyData → Nat → Nat → Prop
  | non : Sw .non .none 0 0
  | bl (b : Bool) : Sw (.bl b) (.bool b) 0 0
  | int {i : Int} (h : i.natAbs < 10 ^ 28) : Sw (.int i) (.int i) 0 0
  | str {z : PySem.Str} (h : okS z) : Sw (.str z) (.str z) 0 z.length
  | lst {l : List T} {ds : List PyData} {n b : Nat} (pds : T.pds l = some ds) (s1 : PyData.showableAll ds = true) (s2 : PyData.hasDictAll ds = false) (s3 : PyData.depthAll ds ≤ n) (s4 : PyData.leavesShortAll 30 ds = true) (s5 : PyData.bulkAll ds ≤ b) : Sw (.lst l) (.list ds) (n + 1) b
  | tup {l : List T} {ds : List PyData} {n b : Nat} (pds : T.pds l = some ds) (s1 : PyData.showableAll ds = true) (s2 : PyData.hasDictAll ds = false) (s3 : PyData.depthAll ds ≤ n) (s4 : PyData.leavesShortAll 30 ds = true) (s5 : PyData.bulkAll ds ≤ b) : Sw (.tup l) (.tuple ds) (n + 1) b
structure Swd (t : T) (d : PyData) (n b : Nat) : Prop where
  pd : t.pd = some d
  s1 : d.showable = true
  s2 : d.hasDict = false
  s3 : d.depth ≤ n
  s4 : d.leavesShort 30 = true
  s5 : d.bulk ≤ b
theorem shown_int30 {i : Int} (h : i.natAbs < 10 ^ 28) : (PyData.shown (.int i)).length ≤ 30 := by
  have e := int_text_length_le10 (k := 28) (by decide) h
  show (Str.ofString (toString i)).length ≤ 30
  rw [PySem.ofString_length]
  omega
theorem int_log {i : Int} (h : i.natAbs < 10 ^ 28) : i.natAbs.log2 < 1920 := by
  by_cases z : i.natAbs = 0
  · rw [z]
    decide
  · rw [Nat.log2_lt z]
    exact Nat.lt_of_lt_of_le h (by decide +kernel)
theorem Sw.is {t : T} {d : PyData} {n b : Nat} (h : Sw t d n b) : Swd t d n b := by
  cases h with
  | non => exact ⟨by simp [T.pd], by simp [PyData.showable], by simp [PyData.hasDict], by simp [PyData.depth], by simp [PyData.leavesShort], by simp [PyData.bulk]⟩
  | bl b => exact ⟨by simp [T.pd], by simp [PyData.showable], by simp [PyData.hasDict], by simp [PyData.depth], by simp [PyData.leavesShort], by simp [PyData.bulk]⟩
  | int h => exact ⟨by simp [T.pd], by simp only [PyData.showable]; exact decide_eq_true (int_log h), by simp [PyData.hasDict], by simp [PyData.depth], by simp only [PyData.leavesShort]; exact decide_eq_true (shown_int30 h), by simp [PyData.bulk]⟩
  | str h => exact ⟨by simp [T.pd], by simp [PyData.showable], by simp [PyData.hasDict], by simp [PyData.depth], by
      simp only [PyData.leavesShort, List.all_eq_true, decide_eq_true_eq]
      exact fun c hc => Nat.lt_trans (h c hc) (by decide), by simp only [PyData.bulk]; exact Nat.le_refl _⟩
  | lst p a b c d e => exact ⟨by simp only [T.pd, p, Option.map_some], by simpa only [PyData.showable] using a, by simpa only [PyData.hasDict] using b, by simp only [PyData.depth]; omega, by simpa only [PyData.leavesShort] using d, by simpa only [PyData.bulk] using e⟩
  | tup p a b c d e => exact ⟨by simp only [T.pd, p, Option.map_some], by simpa only [PyData.showable] using a, by simpa only [PyData.hasDict] using b, by simp only [PyData.depth]; omega, by simpa only [PyData.leavesShort] using d, by simpa only [PyData.bulk] using e⟩
theorem Sw.shw {t : T} {d : PyData} {n b : Nat} (h : Sw t d n b) (h1 : n ≤ 60) (h2 : b ≤ 100000) : Shw d :=
  shw_of h.is.s1 h.is.s2 (Nat.le_trans h.is.s3 h1) h.is.s4 (Nat.le_trans h.is.s5 h2)
/-- all of a list may be shown -/
inductive Sws : List T → List PyData → Nat → Nat → Prop
  | nil : Sws [] [] 0 0
  | cons {t : T} {d : PyData} {l : List T} {ds : List PyData} {n b m c : Nat} (h : Sw t d n b) (k : Sws l ds m c) : Sws (t :: l) (d :: ds) (max n m) (b + 1 + c)
structure Swds (l : List T) (ds : List PyData) (n b : Nat) : Prop where
  pd : T.pds l = some ds
  s1 : PyData.showableAll ds = true
  s2 : PyData.hasDictAll ds = false
  s3 : PyData.depthAll ds ≤ n
  s4 : PyData.leavesShortAll 30 ds = true
  s5 : PyData.bulkAll ds ≤ b
theorem Sws.is : ∀ {l : List T} {ds : List PyData} {n b : Nat}, Sws l ds n b → Swds l ds n b
  | _, _, _, _, .nil => ⟨by simp [T.pds], by simp [PyData.showableAll], by simp [PyData.hasDictAll], by simp [PyData.depthAll], by simp [PyData.leavesShortAll], by simp [PyData.bulkAll]⟩
  | _, _, _, _, .cons h k => by
    have a := h.is
    have b := k.is
    refine ⟨by simp only [T.pds, a.pd, b.pd, Option.bind_some, Option.map_some], by simp only [PyData.showableAll, a.s1, b.s1, Bool.and_self], by simp only [PyData.hasDictAll, a.s2, b.s2, Bool.or_self], ?_, by simp only [PyData.leavesShortAll, a.s4, b.s4, Bool.and_self], ?_⟩
    · have := a.s3
      have := b.s3
      simp only [PyData.depthAll]
      omega
    · have := a.s5
      have := b.s5
      simp only [PyData.bulkAll]
      omega
theorem Sws.l {l : List T} {ds : List PyData} {n b : Nat} (h : Sws l ds n b) : Sw (.lst l) (.list ds) (n + 1) b := .lst h.is.pd h.is.s1 h.is.s2 h.is.s3 h.is.s4 h.is.s5
theorem Sws.t {l : List T} {ds : List PyData} {n b : Nat} (h : Sws l ds n b) : Sw (.tup l) (.tuple ds) (n + 1) b := .tup h.is.pd h.is.s1 h.is.s2 h.is.s3 h.is.s4 h.is.s5
/-- many like things may be shown -/
theorem Sws.all {n b : Nat} : ∀ {l : List T}, (∀ t ∈ l, ∃ d, Sw t d n b) → ∃ ds, Swds l ds n (l.length * (b + 1))
  | [], _ => ⟨[], ⟨by simp [T.pds], by simp [PyData.showableAll], by simp [PyData.hasDictAll], by simp [PyData.depthAll], by simp [PyData.leavesShortAll], by simp [PyData.bulkAll]⟩⟩
  | t :: l, h => by
    obtain ⟨d, hd⟩ := h t List.mem_cons_self
    obtain ⟨ds, b⟩ := Sws.all (l := l) fun u hu => h u (List.mem_cons_of_mem _ hu)
    have a := hd.is
    refine ⟨d :: ds, ⟨by simp only [T.pds, a.pd, b.pd, Option.bind_some, Option.map_some], by simp only [PyData.showableAll, a.s1, b.s1, Bool.and_self], by simp only [PyData.hasDictAll, a.s2, b.s2, Bool.or_self], ?_, by simp only [PyData.leavesShortAll, a.s4, b.s4, Bool.and_self], ?_⟩⟩
    · have := a.s3
      have := b.s3
      simp only [PyData.depthAll]
      omega
    · have := a.s5
      have := b.s5
      simp only [PyData.bulkAll, List.length_cons, Nat.succ_mul]
      omega
theorem Swds.l {l : List T} {ds : List PyData} {n b : Nat} (h : Swds l ds n b) : Sw (.lst l) (.list ds) (n + 1) b := .lst h.pd h.s1 h.s2 h.s3 h.s4 h.s5
theorem Swds.t {l : List T} {ds : List PyData} {n b : Nat} (h : Swds l ds n b) : Sw (.tup l) (.tuple ds) (n + 1) b := .tup h.pd h.s1 h.s2 h.s3 h.s4 h.s5
/-- two numbers -/
theorem sw_ii {i j : Int} (h : i.natAbs < 10 ^ 28) (k : j.natAbs < 10 ^ 28) : ∃ d, (T.lst [.int i, .int j]).pd = some d ∧ Shw d :=
  ⟨_, (Sws.cons (.int h) (.cons (.int k) .nil)).l.is.pd, (Sws.cons (.int h) (.cons (.int k) .nil)).l.shw (by decide) (by decide)⟩
theorem Sw.up {t : T} {d : PyData} {n b c : Nat} (h : Sw t d (n + 1) b) (k : b ≤ c) : Sw t d (n + 1) c := by
  cases h with
  | lst p a1 a2 a3 a4 a5 => exact .lst p a1 a2 a3 a4 (Nat.le_trans a5 k)
  | tup p a1 a2 a3 a4 a5 => exact .tup p a1 a2 a3 a4 (Nat.le_trans a5 k)
theorem pds_len : ∀ {l : List T} {ds : List PyData}, T.pds l = some ds → ds.length = l.length
  | [], ds, e => by
    simp only [T.pds] at e
    cases e
    rfl
  | t :: r, ds, e => by
    simp only [T.pds, Option.bind_eq_some_iff, Option.map_eq_some_iff] at e
    obtain ⟨d, e0, ms, e1, rfl⟩ := e
    rw [List.length_cons, List.length_cons, pds_len e1]
/-! ### a law's own def -/
def spLawD (K : PySem.W.Frag) : Sp := fun vs H Q _ => ∃ (a : Addr) (ns : List Int), vs = [.ref a] ∧ SqL K H a (ns.map V.int) ∧ ns.length ≤ 63 ∧ ∀ H', Q (.bl true) H'
theorem law_len {K : PySem.W.Frag} : ∀ vs H Q E, spLawD K vs H Q E → vs.length = 1 := fun vs H Q E h => by
  obtain ⟨_, _, rfl, _⟩ := h
  rfl
theorem law_sim {K : PySem.W.Frag} {s : PySem.Str} {rest : TS} {r : DS} {N : List PySem.Str} {vs : List V} {H : Hp} {Q : VK} {E : XK} (h : spLawD K vs H Q E) [z : SimS K E rest r] (hN : 2 ≤ N.length)
    (k : r ⟨fun _ _ => False, fun t _ => t = .bl true, fun _ _ => False, fun _ _ => False⟩ (fun _ _ _ => False) (none :: some (.rs 0) :: List.replicate (N.length - 2) none) [.drw s 1000000]) :
    tSeq (tAsg (tCall (spBegunS K s) [] E0 (tCons (tVar 0) tNil)) (gName 1)) rest { nx := fun _ H' => Q .non H', rt := Q } (L2.start N vs) H := by
  obtain ⟨a, ns, rfl, hS, l63, q⟩ := h
  refine ⟨_, rfl, a, ns, rfl, hS, l63, fun d H' dr => ?_⟩
  have o0 : Ok K ⟨fun _ => none, fun _ => none, [], fun _ => none⟩ H [] := ⟨fun _ _ e => (by cases e), fun _ _ e => (by cases e), fun _ _ e => (by cases e), rfl, fun _ _ e => (by cases e)⟩
  obtain ⟨W', l1, o1, e1⟩ := begun_sim o0 dr
  obtain ⟨n, en⟩ : ∃ n, N.length = n + 2 := ⟨N.length - 2, by omega⟩
  have s0 : Sl K W' (L2.start N [.ref a]) (List.replicate N.length none) := by
    refine ⟨?_, fun i t e => ?_⟩
    · unfold L2.start
      simp
      omega
    · rw [List.getElem?_replicate] at e
      split at e <;> cases e
  have s1 := s0.set (i := 1) (v := .ref d) (t := .rs 0) ⟨d, e1, rfl⟩
  have er : (List.replicate N.length (none : Option T)).set 1 (some (.rs 0)) = none :: some (.rs 0) :: List.replicate (N.length - 2) none := by
    rw [en]
    rfl
  rw [er] at s1
  exact z.run o1 s1 xl_none ⟨fun _ _ _ h => False.elim h, fun {v τ W2 H2 μ2} l2 o2 d2 h2 => by
    subst h2
    rw [d2.bl]
    exact q H2, fun _ _ _ h => False.elim h, fun _ _ _ h => False.elim h⟩ k
end Dl

namespace Dl
open PySem PySem.Spec PyProof.Rows L2 Gd
variable {K : PySem.W.Frag} {E : XK}
/-! ### isinstance, divmod of data -/
theorem sqT_tx {H : Hp} {a : Addr} {xs : List V} (h : SqT K H a xs) : TyX K H (.ref a) (.type "tuple") := by
  rcases h with h | ⟨o, its, n, e, c, _⟩
  · rcases h with h | ⟨o, h⟩
    · exact .base (.tup h)
    · exact .fTuple h
  · exact .kTuple e c
theorem Dn.tx {H : Hp} {v : V} {t : T} {n : String} (d : Dn K H v t) (e : t.tyn = some n) : TyX K H v (.type n) := by
  cases d with
  | non => cases e; exact .base .non
  | bl b => cases e; exact .base (.bl b)
  | int i => cases e; exact .base (.int i)
  | str t => cases e; exact .base (.str _)
  | lst a b => cases e; exact .base (.lst a)
  | tup a b => cases e; exact sqT_tx a
  | far o => cases e; exact o.tx
  | _ => cases e
def dIsi : Mu → List T → (T → Prop) → Prop := fun μ ts Ψ => match ts with
  | [t, .ty m] => ∃ n b, (view μ t).tyn = some n ∧ kitB n m = some b ∧ Ψ (.bl b)
  | _ => False
instance sim_isi : SimC K (rIsi K) dIsi := ⟨fun {W H μ vs ts Ψ Q} x d e q => by
  unfold dIsi at e
  split at e
  · obtain ⟨n, b, e1, e2, e⟩ := e
    obtain ⟨v, w, rfl, dv, dw⟩ := two_dv d
    exact ⟨v, w, _, _, b, rfl, dw.tyv ▸ .ty _, (view_dn x dv rfl (tyn_rs e1)).tx e1, kit_ty e2, q (Grow.refl x.sb) (.of (.bl _)) e⟩
  · exact e.elim⟩
def rDivmod : List V → Hp → VK → Prop := fun xs H Q => ∃ i j, xs = [.int i, .int j] ∧ CDiv i j ∧ ∀ p, H p = none → Q (.ref p) (upd H p (.tup [.int (i / j), .int (i % j)]))
theorem call_dm {X : Cx} : CallR X (.builtin "divmod") rDivmod := call_divmod
def dDivmod : Mu → List T → (T → Prop) → Prop := fun μ ts Ψ => match ts with
  | [.int i, .int j] => CDiv i j ∧ Ψ (.tup [.int (i / j), .int (i % j)])
  | _ => False
instance sim_divmod : SimC K rDivmod dDivmod := ⟨fun {W H μ vs ts Ψ Q} x d e q => by
  unfold dDivmod at e
  split at e
  · obtain ⟨v, w, rfl, dv, dw⟩ := two_dv d
    cases dv.int
    cases dw.int
    refine ⟨_, _, rfl, e.1, fun p f => ?_⟩
    obtain ⟨W', g, dn⟩ := new_tup x f (.cons (.int _) (.cons (.int _) .nil))
    exact q g (.of dn) e.2
  · exact e.elim⟩
end Dl

namespace Gd
open PySem PySem.Spec PyProof.Rows L2
section
variable {X : Cx} {a b c d : Expr} {ta tb tc td : TE} {pos : Pos}
/-- a op b op' c op'' d -/
def tChain3 (r r' r'' : R2) (ta tb tc td : TE) : TE := fun σ H Q => ta σ H fun x H1 => tb σ H1 fun y H2 => r x y H2 fun z H3 => ∃ k, z = .bl k ∧
  (if k = true then tc σ H3 fun w' H4 => r' y w' H4 fun z2 H5 => ∃ k2, z2 = .bl k2 ∧ (if k2 = true then td σ H5 fun u' H6 => r'' w' u' H6 Q else Q (.bl false) H5) else Q (.bl false) H3)
theorem pe_chain3 {op op' op'' : CmpOp} {r r' r'' : R2} (ho : OpR X (compareOp op) r) (ho' : OpR X (compareOp op') r') (ho'' : OpR X (compareOp op'') r'') (ha : PE X a ta) (hb : PE X b tb) (hc : PE X c tc) (hd : PE X d td)
    (hm : lastMarks [op, op', op''] [b, c, d] = false := by with_unfolding_all rfl) : PE X (.Compare a [op, op', op''] [b, c, d] pos) (tChain3 r r' r'' ta tb tc td) := by
  refine ⟨fun pins t0 τ G R J g => ?_⟩
  refine Compare_chain (thn (ha.run pins t0 τ G _ J g) fun v t1 ⟨x, G1, J1, ra, g1⟩ => chain_link (thn (hb.run pins t1 τ G1 _ J1 g1) fun u t2 ⟨y, G2, J2, rb, g2⟩ =>
    thn (ho pins t2 τ G2 x y v u _ J2 ra rb g2) fun _ t3 ⟨z, G3, J3, rz, k, ez, g3⟩ => ?_)) hm
  subst ez
  cases rz
  refine wpAny_truthy_bool ?_
  by_cases hk : k = true
  · subst hk
    refine ite_tt (chain_link (thn (hc.run pins t3 τ G3 _ J3 g3) fun w' t4 ⟨z', G4, J4, rc, g4⟩ => thn (ho' pins t4 τ G4 y z' u w' _ J4 rb rc g4) fun _ t5 ⟨z2, G5, J5, r5, k2, e2, g5⟩ => ?_))
    subst e2
    cases r5
    refine wpAny_truthy_bool ?_
    by_cases hk2 : k2 = true
    · subst hk2
      exact ite_tt (chain_last (thn (hd.run pins t5 τ G5 _ J5 g5) fun w2 t6 ⟨z3, G6, J6, rd, g6⟩ => ho'' pins t6 τ G6 z' z3 w' w2 R J6 rc rd g6))
    · rw [if_neg hk2] at g5
      have : k2 = false := by simpa using hk2
      subst this
      exact ite_ff ⟨V.bl false, G5, J5, rfl, g5⟩
  · rw [if_neg hk] at g3
    have : k = false := by simpa using hk
    subst this
    exact ite_ff ⟨V.bl false, G3, J3, rfl, g3⟩
end
end Gd
namespace Dl
open PySem PySem.Spec PyProof.Rows L2 Gd
variable {K : PySem.W.Frag} {E : XK}
def rChain3 (d d' d'' : Mu → T → T → (T → Prop) → Prop) (ra rb rc rd : DE) : DE := fun ρ xw μ Φ => ra ρ xw μ fun a μ1 => rb ρ xw μ1 fun b μ2 => d μ2 a b fun z => match z with
  | .bl k => if k = true then rc ρ xw μ2 fun c μ3 => d' μ3 b c fun z2 => match z2 with
    | .bl k2 => if k2 = true then rd ρ xw μ3 fun e μ4 => d'' μ4 c e fun z3 => Φ z3 μ4 else Φ (.bl false) μ3
    | _ => False
    else Φ (.bl false) μ2
  | _ => False
instance sim_chain3 {r r' r'' : R2} {ta tb tc td : TE} {d d' d'' ra rb rc rd} [o : SimOp K r d] [o' : SimOp K r' d'] [o'' : SimOp K r'' d''] [a : SimE K E ta ra] [b : SimE K E tb rb] [c : SimE K E tc rc] [e : SimE K E td rd] : SimE K E (tChain3 r r' r'' ta tb tc td) (rChain3 d d' d'' ra rb rc rd) := ⟨fun {W H σ ρ μ xw Φ Q} x s n h q =>
  a.run x s n h fun {v1 τ1 W1 H1 μ1} l1 x1 d1 h1 => b.run x1 (s.mono l1) (n.mono l1) h1 fun {v2 τ2 W2 H2 μ2} l2 x2 d2 h2 => o.run x2 (d1.mono l2) d2 h2 fun {v3 τ3 W3 H3} g d3 h3 => by
    have x3 := g.ok x2
    have l3 := g.le x2
    split at h3
    · rename_i k
      refine ⟨k, d3.bl, ?_⟩
      cases k with
      | false => exact q ((l1.trans l2).trans l3) x3 (.of (.bl _)) h3
      | true =>
        refine c.run x3 (((s.mono l1).mono l2).mono l3) (n.mono ((l1.trans l2).trans l3)) h3 fun {v4 τ4 W4 H4 μ4} l4 x4 d4 h4 => o'.run x4 ((d2.mono l3).mono l4) d4 h4 fun {v5 τ5 W5 H5} g5 d5 h5 => ?_
        have x5 := g5.ok x4
        have l5 := g5.le x4
        split at h5
        · rename_i k2
          refine ⟨k2, d5.bl, ?_⟩
          cases k2 with
          | false => exact q ((((l1.trans l2).trans l3).trans l4).trans l5) x5 (.of (.bl _)) h5
          | true =>
            exact e.run x5 (((((s.mono l1).mono l2).mono l3).mono l4).mono l5) (n.mono ((((l1.trans l2).trans l3).trans l4).trans l5)) h5 fun {v6 τ6 W6 H6 μ6} l6 x6 d6 h6 => o''.run x6 ((d4.mono l5).mono l6) d6 h6 fun {v7 τ7 W7 H7} g7 d7 h7 =>
              q ((((((l1.trans l2).trans l3).trans l4).trans l5).trans l6).trans (g7.le x6)) (g7.ok x6) d7 h7
        · exact h5.elim
    · exact h3.elim⟩
end Dl

set_option maxHeartbeats 4000000
/-! ### zip of three lists -/
namespace Z3
open PySem PySem.Spec
/-- three in a tuple -/
abbrev Is3 (h : Heap) (t : Addr) (a b c : Value) : Prop := h.get? t = some { cls := .type "tuple", data := .seq #[a, b, c] }
/-- the zip's own things are apart -/
structure Ap (z ti to p q r : Addr) : Prop where
  nd : [z, ti, to, p, q, r].Nodup
/-- .. and another one from those that a turn changes -/
structure Off (z to p q r x : Addr) : Prop where
  z : x ≠ z
  t : x ≠ to
  p : x ≠ p
  q : x ≠ q
  r : x ≠ r
/-- what a turn leaves -/
def Left (z to p q r : Addr) (h h' : Heap) : Prop := ∀ c o, Off z to p q r c → h.get? c = some o → h'.get? c = some o
section
variable {prog : Program} {w : World} {A : Around} {E : Value → Shared → Prop} {s : Shared}
theorem up3 {t : Addr} {a b c x : Value} {k : Nat} {Q : Unit → Shared → Prop} (ht : Is3 s.heap t a b c)
    (h : ∀ h', h'.get? t = some { cls := .type "tuple", data := .seq ((#[a, b, c] : Array Value).setIfInBounds k x) } → Heap.SameBut t s.heap h' → Q () { s with heap := h' }) :
    wpAny (model prog w) A (updateSeq t (·.setIfInBounds k x)) Q E s := by
  refine wpAny_updateSeq ht rfl (h _ ?_ (Heap.SameBut.update ..))
  rw [Heap.get?_update_self _ ht rfl]
  simp [Obj.mapSeq]
variable {z ti to p q r l1 l2 l3 : Addr} {k1 k2 k3 : Nat} {xs ys us : Array Value} {x y u a b c : Value}
theorem item {Q : Value → Shared → Prop} (D : Ap z ti to p q r) (o1 : Off z to p q r l1) (o2 : Off z to p q r l2) (o3 : Off z to p q r l3)
    (hz : IsZip s.heap z ti to .none) (hti : Is3 s.heap ti (.ref p) (.ref q) (.ref r)) (hto : Is3 s.heap to a b c)
    (h1 : s.heap.IsListIter p l1 k1) (h2 : s.heap.IsListIter q l2 k2) (h3 : s.heap.IsListIter r l3 k3) (hl1 : s.heap.IsList l1 xs) (hl2 : s.heap.IsList l2 ys) (hl3 : s.heap.IsList l3 us) (hx : xs[k1]? = some x) (hy : ys[k2]? = some y) (hu : us[k3]? = some u)
    (hQ : ∀ h', IsZip h' z ti to (rawInt s.heap.objs.size) → Is3 h' to x y u → h'.IsListIter p l1 (k1 + 1) → h'.IsListIter q l2 (k2 + 1) → h'.IsListIter r l3 (k3 + 1) → Is3 h' s.heap.objs.size x y u → h'.objs.size = s.heap.objs.size + 1 →
      Left z to p q r s.heap h' → Q (.ref s.heap.objs.size) { s with heap := h' }) :
    wpAny (model prog w) A (Builtin.«zip.__next__» ⟨[.ref z], []⟩) (fun fin s' => ∃ v, fin = .done (.ret v) ∧ Q v s') E s := by
  have nd := D.nd
  simp only [List.nodup_cons, List.mem_cons, List.not_mem_nil, or_false, not_or] at nd
  obtain ⟨⟨n1, n2, n3, n4, n5⟩, ⟨n6, n7, n8, n9⟩, ⟨n10, n11, n12⟩, ⟨n13, n14⟩, n15, _⟩ := nd
  show wpAny _ _ (field (.ref z) 2 >>= _) _ _ _
  refine wpAny_bind (wpAny_field hz rfl (x := .bool false) rfl (show wpAny _ _ (field (.ref z) 3 >>= _) _ _ _ from wpAny_bind (wpAny_field hz rfl (x := .ref ti) rfl (wpAny_bind (wpAny_seqItems hti rfl ?_)))))
  show wpAny _ _ (Builtin.SmallTypes.ownedTupleIsFree (.ref z) >>= _) _ _ _
  refine wpAny_bind ?_
  unfold Builtin.SmallTypes.ownedTupleIsFree
  refine wpAny_bind (wpAny_field hz rfl (x := .none) rfl (wpAny_pure ?_))
  simp only [if_true]
  refine wpAny_bind (wpAny_rule (wpAny_bind (wpAny_field hz rfl (x := .ref to) rfl (wpAny_bind (wpAny_setField_rec hz (by simp) fun g1 hz1 b1 => ?_)))))
  replace hz1 : IsZip g1 z ti to .ellipsis := hz1
  refine wpAny_bind ?_
  simp only [List.zipIdx_cons, List.zipIdx_nil, List.forIn_cons, List.forIn_nil]
  -- the first one
  refine wpAny_bind (wpAny_bind (wpAny_onRaise (show wpAny _ _ (Builtin.SmallTypes.nextOf (.ref p) >>= _) _ _ _ from wpAny_bind (wpAny_nextOf_list_item (h1.extBut b1.extBut (Ne.symm n3)) (hl1.extBut b1.extBut o1.z) hx fun g2 i1 b2 => wpAny_pure ?_))))
  have t2 : Is3 g2 to a b c := b2.extBut _ _ n10 (b1.extBut _ _ (Ne.symm n2) hto)
  refine wpAny_bind (wpAny_seqItems t2 rfl (wpAny_bind (up3 t2 fun g3 t3 b3 => wpAny_bind (wpAny_letGo (wpAny_pure ?_)))))
  replace t3 : Is3 g3 to x b c := t3
  -- the second one
  have j2 := ((h2.extBut b1.extBut (Ne.symm n4)).extBut b2.extBut (Ne.symm n13)).extBut b3.extBut (Ne.symm n11)
  have m2 := ((hl2.extBut b1.extBut o2.z).extBut b2.extBut o2.p).extBut b3.extBut o2.t
  refine wpAny_bind (wpAny_bind (wpAny_onRaise (show wpAny _ _ (Builtin.SmallTypes.nextOf (.ref q) >>= _) _ _ _ from wpAny_bind (wpAny_nextOf_list_item j2 m2 hy fun g4 i2 b4 => wpAny_pure ?_))))
  have t4 : Is3 g4 to x b c := b4.extBut _ _ n11 t3
  refine wpAny_bind (wpAny_seqItems t4 rfl (wpAny_bind (up3 t4 fun g5 t5 b5 => wpAny_bind (wpAny_letGo (wpAny_pure ?_)))))
  replace t5 : Is3 g5 to x y c := t5
  -- the third one
  have j3 := ((((h3.extBut b1.extBut (Ne.symm n5)).extBut b2.extBut (Ne.symm n14)).extBut b3.extBut (Ne.symm n12)).extBut b4.extBut (Ne.symm n15)).extBut b5.extBut (Ne.symm n12)
  have m3 := ((((hl3.extBut b1.extBut o3.z).extBut b2.extBut o3.p).extBut b3.extBut o3.t).extBut b4.extBut o3.q).extBut b5.extBut o3.t
  refine wpAny_bind (wpAny_bind (wpAny_onRaise (show wpAny _ _ (Builtin.SmallTypes.nextOf (.ref r) >>= _) _ _ _ from wpAny_bind (wpAny_nextOf_list_item j3 m3 hu fun g6 i3 b6 => wpAny_pure ?_))))
  have t6 : Is3 g6 to x y c := b6.extBut _ _ n12 t5
  refine wpAny_bind (wpAny_seqItems t6 rfl (wpAny_bind (up3 t6 fun g7 t7 b7 => wpAny_bind (wpAny_letGo (wpAny_pure (wpAny_pure ?_))))))
  replace t7 : Is3 g7 to x y u := t7
  refine wpAny_bind (wpAny_seqItems t7 rfl (wpAny_bind (wpAny_newTuple ?_)))
  have sz : g7.objs.size = s.heap.objs.size := by rw [b7.1, b6.1, b5.1, b4.1, b3.1, b2.1, b1.1]
  have left : Left z to p q r s.heap g7 := fun d o f e => b7.extBut _ _ f.t (b6.extBut _ _ f.r (b5.extBut _ _ f.t (b4.extBut _ _ f.q (b3.extBut _ _ f.t (b2.extBut _ _ f.p (b1.extBut _ _ f.z e))))))
  have z7 : IsZip g7 z ti to .ellipsis := b7.extBut _ _ n2 (b6.extBut _ _ n5 (b5.extBut _ _ n2 (b4.extBut _ _ n4 (b3.extBut _ _ n2 (b2.extBut _ _ n3 hz1)))))
  have q1 : g7.IsListIter p l1 (k1 + 1) := ((((i1.extBut b3.extBut (Ne.symm n10)).extBut b4.extBut n13).extBut b5.extBut (Ne.symm n10)).extBut b6.extBut n14).extBut b7.extBut (Ne.symm n10)
  have q2 : g7.IsListIter q l2 (k2 + 1) := ((i2.extBut b5.extBut (Ne.symm n11)).extBut b6.extBut n15).extBut b7.extBut (Ne.symm n11)
  have q3 : g7.IsListIter r l3 (k3 + 1) := i3.extBut b7.extBut (Ne.symm n12)
  have zlt : z < g7.objs.size := Heap.lt_size z7
  show wpAny _ _ (Builtin.SmallTypes.ownedTupleHandOut (.ref z) (.ref g7.objs.size) >>= _) _ _ _
  refine wpAny_bind ?_
  unfold Builtin.SmallTypes.ownedTupleHandOut
  have z8 : IsZip (g7.push { cls := .type "tuple", data := .seq #[x, y, u] }) z ti to .ellipsis := Heap.get?_push_of_some _ z7
  refine wpAny_bind (wpAny_setField_rec z8 (by simp) fun g9 z9 b9 => ?_)
  replace z9 : IsZip g9 z ti to (rawInt g7.objs.size) := z9
  refine wpAny_setField_rec z9 (by simp) fun g10 z10 b10 => ?_
  replace z10 : IsZip g10 z ti to (rawInt g7.objs.size) := z10
  have up : ∀ d o, d ≠ z → g7.get? d = some o → g10.get? d = some o := fun d o ne e => b10.extBut _ _ ne (b9.extBut _ _ ne (Heap.get?_push_of_some _ e))
  have tn : Is3 g10 g7.objs.size x y u := b10.extBut _ _ (Nat.ne_of_gt zlt) (b9.extBut _ _ (Nat.ne_of_gt zlt) (Heap.get?_push_size _ rfl))
  have s10 : g10.objs.size = g7.objs.size + 1 := by rw [b10.1, b9.1, Heap.size_push]
  rw [sz] at z10 tn s10
  refine wpAny_pure ⟨_, rfl, ?_⟩
  show Q (.ref g7.objs.size) _
  rw [sz]
  exact hQ g10 z10 (up _ _ (Ne.symm n2) t7) (q1.at fun o e => up _ o (Ne.symm n3) e) (q2.at fun o e => up _ o (Ne.symm n4) e) (q3.at fun o e => up _ o (Ne.symm n5) e) tn s10 fun d o f e => up d o f.z (left d o f e)
theorem ends {Q : Fin → Shared → Prop} (hh : A.handled = none) (D : Ap z ti to p q r) (o1 : Off z to p q r l1) (o2 : Off z to p q r l2) (o3 : Off z to p q r l3)
    (hz : IsZip s.heap z ti to .none) (hti : Is3 s.heap ti (.ref p) (.ref q) (.ref r)) (hto : Is3 s.heap to a b c)
    (h1 : s.heap.IsListIter p l1 k1) (h2 : s.heap.IsListIter q l2 k2) (h3 : s.heap.IsListIter r l3 k3) (hl1 : s.heap.IsList l1 xs) (hl2 : s.heap.IsList l2 ys) (hl3 : s.heap.IsList l3 us) (he : xs[k1]? = none ∨ ys[k2]? = none ∨ us[k3]? = none)
    (hE : ∀ h' e, Left z to p q r s.heap h' → (∃ o, h'.get? e = some o ∧ o.cls = .type "StopIteration") → E (.ref e) { s with heap := h' }) :
    wpAny (model prog w) A (Builtin.«zip.__next__» ⟨[.ref z], []⟩) Q E s := by
  have nd := D.nd
  simp only [List.nodup_cons, List.mem_cons, List.not_mem_nil, or_false, not_or] at nd
  obtain ⟨⟨n1, n2, n3, n4, n5⟩, ⟨n6, n7, n8, n9⟩, ⟨n10, n11, n12⟩, ⟨n13, n14⟩, n15, _⟩ := nd
  show wpAny _ _ (field (.ref z) 2 >>= _) _ _ _
  refine wpAny_bind (wpAny_field hz rfl (x := .bool false) rfl (show wpAny _ _ (field (.ref z) 3 >>= _) _ _ _ from wpAny_bind (wpAny_field hz rfl (x := .ref ti) rfl (wpAny_bind (wpAny_seqItems hti rfl ?_)))))
  show wpAny _ _ (Builtin.SmallTypes.ownedTupleIsFree (.ref z) >>= _) _ _ _
  refine wpAny_bind ?_
  unfold Builtin.SmallTypes.ownedTupleIsFree
  refine wpAny_bind (wpAny_field hz rfl (x := .none) rfl (wpAny_pure ?_))
  simp only [if_true]
  refine wpAny_bind (wpAny_rule (wpAny_bind (wpAny_field hz rfl (x := .ref to) rfl (wpAny_bind (wpAny_setField_rec hz (by simp) fun g1 hz1 b1 => ?_)))))
  replace hz1 : IsZip g1 z ti to .ellipsis := hz1
  refine wpAny_bind ?_
  simp only [List.zipIdx_cons, List.zipIdx_nil, List.forIn_cons, List.forIn_nil]
  refine wpAny_bind (wpAny_bind (wpAny_onRaise (show wpAny _ _ (Builtin.SmallTypes.nextOf (.ref p) >>= _) _ _ _ from ?_)))
  have stop : ∀ {g : Heap} {e : Addr} {o : Obj}, IsZip g z ti to .ellipsis → g.get? e = some o → o.cls = .type "StopIteration" → e ≠ z := fun hz ho hc x => by
    subst x
    rw [hz] at ho
    cases ho
    simp at hc
  have j1 := h1.extBut b1.extBut (Ne.symm n3)
  have m1 := hl1.extBut b1.extBut o1.z
  cases hx : xs[k1]? with
  | none =>
    refine wpAny_bind (wpAny_nextOf_list_end hh j1 m1 hx fun g2 e b2 ee => ?_)
    obtain ⟨oe, ho, hc⟩ := ee
    have z2 : IsZip g2 z ti to .ellipsis := b2 _ _ n3 hz1
    exact wpAny_setField_rec z2 (by simp) fun g3 _ b3 => hE g3 e (fun d o f x => b3.extBut _ _ f.z (b2 _ _ f.p (b1.extBut _ _ f.z x))) ⟨oe, b3.extBut _ _ (stop z2 ho hc) ho, hc⟩
  | some x =>
    refine wpAny_bind (wpAny_nextOf_list_item j1 m1 hx fun g2 i1 b2 => wpAny_pure ?_)
    have t2 : Is3 g2 to a b c := b2.extBut _ _ n10 (b1.extBut _ _ (Ne.symm n2) hto)
    refine wpAny_bind (wpAny_seqItems t2 rfl (wpAny_bind (up3 t2 fun g3 t3 b3 => wpAny_bind (wpAny_letGo (wpAny_pure ?_)))))
    replace t3 : Is3 g3 to x b c := t3
    have z3 : IsZip g3 z ti to .ellipsis := b3.extBut _ _ n2 (b2.extBut _ _ n3 hz1)
    have lf3 : Left z to p q r s.heap g3 := fun d o f e => b3.extBut _ _ f.t (b2.extBut _ _ f.p (b1.extBut _ _ f.z e))
    have j2 := ((h2.extBut b1.extBut (Ne.symm n4)).extBut b2.extBut (Ne.symm n13)).extBut b3.extBut (Ne.symm n11)
    have m2 := ((hl2.extBut b1.extBut o2.z).extBut b2.extBut o2.p).extBut b3.extBut o2.t
    refine wpAny_bind (wpAny_bind (wpAny_onRaise (show wpAny _ _ (Builtin.SmallTypes.nextOf (.ref q) >>= _) _ _ _ from ?_)))
    cases hy : ys[k2]? with
    | none =>
      refine wpAny_bind (wpAny_nextOf_list_end hh j2 m2 hy fun g4 e b4 ee => ?_)
      obtain ⟨oe, ho, hc⟩ := ee
      have z4 : IsZip g4 z ti to .ellipsis := b4 _ _ n4 z3
      exact wpAny_setField_rec z4 (by simp) fun g5 _ b5 => hE g5 e (fun d o f x => b5.extBut _ _ f.z (b4 _ _ f.q (lf3 d o f x))) ⟨oe, b5.extBut _ _ (stop z4 ho hc) ho, hc⟩
    | some y =>
      have hu : us[k3]? = none := by
        rcases he with h | h | h
        · rw [hx] at h; cases h
        · rw [hy] at h; cases h
        · exact h
      refine wpAny_bind (wpAny_nextOf_list_item j2 m2 hy fun g4 i2 b4 => wpAny_pure ?_)
      have t4 : Is3 g4 to x b c := b4.extBut _ _ n11 t3
      refine wpAny_bind (wpAny_seqItems t4 rfl (wpAny_bind (up3 t4 fun g5 t5 b5 => wpAny_bind (wpAny_letGo (wpAny_pure ?_)))))
      have z5 : IsZip g5 z ti to .ellipsis := b5.extBut _ _ n2 (b4.extBut _ _ n4 z3)
      have j3 := ((((h3.extBut b1.extBut (Ne.symm n5)).extBut b2.extBut (Ne.symm n14)).extBut b3.extBut (Ne.symm n12)).extBut b4.extBut (Ne.symm n15)).extBut b5.extBut (Ne.symm n12)
      have m3 := ((((hl3.extBut b1.extBut o3.z).extBut b2.extBut o3.p).extBut b3.extBut o3.t).extBut b4.extBut o3.q).extBut b5.extBut o3.t
      refine wpAny_bind (wpAny_bind (wpAny_onRaise (show wpAny _ _ (Builtin.SmallTypes.nextOf (.ref r) >>= _) _ _ _ from ?_)))
      refine wpAny_bind (wpAny_nextOf_list_end hh j3 m3 hu fun g6 e b6 ee => ?_)
      obtain ⟨oe, ho, hc⟩ := ee
      have z6 : IsZip g6 z ti to .ellipsis := b6 _ _ n5 z5
      exact wpAny_setField_rec z6 (by simp) fun g7 _ b7 => hE g7 e (fun d o f x => b7.extBut _ _ f.z (b6 _ _ f.r (b5.extBut _ _ f.t (b4.extBut _ _ f.q (lf3 d o f x))))) ⟨oe, b7.extBut _ _ (stop z6 ho hc) ho, hc⟩
theorem next_item {Q : Option Value → Shared → Prop} (D : Ap z ti to p q r) (o1 : Off z to p q r l1) (o2 : Off z to p q r l2) (o3 : Off z to p q r l3)
    (hz : IsZip s.heap z ti to .none) (hti : Is3 s.heap ti (.ref p) (.ref q) (.ref r)) (hto : Is3 s.heap to a b c)
    (h1 : s.heap.IsListIter p l1 k1) (h2 : s.heap.IsListIter q l2 k2) (h3 : s.heap.IsListIter r l3 k3) (hl1 : s.heap.IsList l1 xs) (hl2 : s.heap.IsList l2 ys) (hl3 : s.heap.IsList l3 us) (hx : xs[k1]? = some x) (hy : ys[k2]? = some y) (hu : us[k3]? = some u)
    (hQ : ∀ h', IsZip h' z ti to (rawInt s.heap.objs.size) → Is3 h' to x y u → h'.IsListIter p l1 (k1 + 1) → h'.IsListIter q l2 (k2 + 1) → h'.IsListIter r l3 (k3 + 1) → Is3 h' s.heap.objs.size x y u → h'.objs.size = s.heap.objs.size + 1 →
      Left z to p q r s.heap h' → Q (some (.ref s.heap.objs.size)) { s with heap := h' }) : wpAny (model prog w) A (pyNext (.ref z)) Q E s := by
  have ty : s.TypeIs (.ref z) "zip" := ⟨_, hz, rfl⟩
  unfold pyNext
  refine wpAny_bind (wpAny_attempt (wpAny_callSpecial?_slot (name := Str.ofString "__next__") ty F.slot_zip_next (wpAny_call_entry F.slot_zip_next ty F.entry_zip_next ?_ (F.args_zip_next_1 _))))
  exact item D o1 o2 o3 hz hti hto h1 h2 h3 hl1 hl2 hl3 hx hy hu fun h' a1 a2 a3 a4 a5 a6 a7 a8 => wpAny_pure (hQ h' a1 a2 a3 a4 a5 a6 a7 a8)
theorem next_end {Q : Option Value → Shared → Prop} (hh : A.handled = none) (D : Ap z ti to p q r) (o1 : Off z to p q r l1) (o2 : Off z to p q r l2) (o3 : Off z to p q r l3)
    (hz : IsZip s.heap z ti to .none) (hti : Is3 s.heap ti (.ref p) (.ref q) (.ref r)) (hto : Is3 s.heap to a b c)
    (h1 : s.heap.IsListIter p l1 k1) (h2 : s.heap.IsListIter q l2 k2) (h3 : s.heap.IsListIter r l3 k3) (hl1 : s.heap.IsList l1 xs) (hl2 : s.heap.IsList l2 ys) (hl3 : s.heap.IsList l3 us) (he : xs[k1]? = none ∨ ys[k2]? = none ∨ us[k3]? = none)
    (hQ : ∀ h', Left z to p q r s.heap h' → Q none { s with heap := h' }) : wpAny (model prog w) A (pyNext (.ref z)) Q E s := by
  have ty : s.TypeIs (.ref z) "zip" := ⟨_, hz, rfl⟩
  unfold pyNext
  refine wpAny_bind (wpAny_attempt (wpAny_callSpecial?_slot (name := Str.ofString "__next__") ty F.slot_zip_next (wpAny_call_entry F.slot_zip_next ty F.entry_zip_next (ends hh D o1 o2 o3 hz hti hto h1 h2 h3 hl1 hl2 hl3 he fun h' e hk ee => ?_) (F.args_zip_next_1 _))))
  obtain ⟨o, ho, hc⟩ := ee
  exact wpAny_bind (wpAny_isInstance (T := "StopIteration") (b := true) ⟨o, ho, hc⟩ isSubtype_stop (wpAny_pure (hQ _ hk)))
end
theorem tcall (a b c : Value) : checkTypeCall "zip" ⟨[a, b, c], []⟩ = pure () := by kernel_rfl
theorem ncall (a b c : Value) : checkBuiltinCall "zip.__new__" ⟨[.type "zip", a, b, c], []⟩ = pure () := by kernel_rfl
theorem init4 (a b c d : Value) : argsOk "object.__init__" ⟨[a, b, c, d], []⟩ := by
  unfold argsOk
  rw [signature?_of (id := "object.__init__") (n := ['_', '_', 't', 'i', 'n', 'i', '_', '_']) (o := ['t', 'c', 'e', 'j', 'b', 'o']) (by kernel_rfl) F.owner_object]
  kernel_rfl
abbrev li (l : Addr) : Obj := { cls := .type "list_iterator", data := .fields #[.ref l, .int 0 0] }
abbrev g1 (h : Heap) (a : Addr) : Heap := h.push (li a)
abbrev g2 (h : Heap) (a b : Addr) : Heap := (g1 h a).push (li b)
abbrev g3 (h : Heap) (a b c : Addr) : Heap := (g2 h a b).push (li c)
abbrev g4 (h : Heap) (a b c : Addr) : Heap := (g3 h a b c).push { cls := .type "tuple", data := .seq #[.ref h.objs.size, .ref (g1 h a).objs.size, .ref (g2 h a b).objs.size] }
abbrev g5 (h : Heap) (a b c : Addr) : Heap := (g4 h a b c).push { cls := .type "tuple", data := .seq #[.none, .none, .none] }
abbrev g6 (h : Heap) (a b c : Addr) : Heap := (g5 h a b c).push { cls := .type "zip", data := .fields #[.none, .bool false, .bool false, .ref (g3 h a b c).objs.size, .ref (g4 h a b c).objs.size] }
theorem made (a b c : Addr) (xs ys us : Array Value) :
    Meets (Builtin.«zip.__new__» ⟨[.type "zip", .ref a, .ref b, .ref c], []⟩) (fun _ R s => s.heap.IsList a xs ∧ s.heap.IsList b ys ∧ s.heap.IsList c us ∧
      R (.ok (.ret (.ref (g5 s.heap a b c).objs.size))) { s with heap := g6 s.heap a b c }) :=
  .of_wp fun prog w A R s h => by
    obtain ⟨hp, g, d, tk, os⟩ := s
    obtain ⟨ha, hb, hc, h⟩ := h
    have hsub := sub_zip
    have La : Heap.IsList (Shared.heap ⟨hp, g, d, tk, os⟩) a xs := ha
    have Lb : Heap.IsList (Shared.heap ⟨g1 hp a, g, d, tk, os⟩) b ys := Heap.IsList.push hb _
    have Lc : Heap.IsList (Shared.heap ⟨g2 hp a b, g, d, tk, os⟩) c us := Heap.IsList.push (Heap.IsList.push hc _) _
    wp_walk using wpAny_pyIter_list La, wpAny_pyIter_list Lb, wpAny_pyIter_list Lc
    exact ⟨_, rfl, h⟩
section
variable {prog : Program} {w : World} {A : Around} {E : Value → Shared → Prop} {s : Shared}
theorem called {a b c : Addr} {xs ys us : Array Value} {Q : Value → Shared → Prop} (ha : s.heap.IsList a xs) (hb : s.heap.IsList b ys) (hc : s.heap.IsList c us)
    (h : ∀ h', IsZip h' (s.heap.objs.size + 5) (s.heap.objs.size + 3) (s.heap.objs.size + 4) .none → Is3 h' (s.heap.objs.size + 3) (.ref s.heap.objs.size) (.ref (s.heap.objs.size + 1)) (.ref (s.heap.objs.size + 2)) →
      Is3 h' (s.heap.objs.size + 4) .none .none .none → h'.IsListIter s.heap.objs.size a 0 → h'.IsListIter (s.heap.objs.size + 1) b 0 → h'.IsListIter (s.heap.objs.size + 2) c 0 → h'.objs.size = s.heap.objs.size + 6 →
      (∀ d o, s.heap.get? d = some o → h'.get? d = some o) → Q (.ref (s.heap.objs.size + 5)) { s with heap := h' }) :
    wpAny (model prog w) A (call (.type "zip") [.ref a, .ref b, .ref c]) Q E s := by
  refine callType_new F.called_zip (by decide) (tcall _ _ _) (ncall _ _ _) (fun obj => init4 obj _ _ _) F.entry_zip_new (made a b c xs ys us) ⟨ha, hb, hc, ?_⟩
  have z1 : (g1 s.heap a).objs.size = s.heap.objs.size + 1 := Heap.size_push ..
  have z2 : (g2 s.heap a b).objs.size = s.heap.objs.size + 2 := by rw [Heap.size_push, z1]
  have z3 : (g3 s.heap a b c).objs.size = s.heap.objs.size + 3 := by rw [Heap.size_push, z2]
  have z4 : (g4 s.heap a b c).objs.size = s.heap.objs.size + 4 := by rw [Heap.size_push, z3]
  have z5 : (g5 s.heap a b c).objs.size = s.heap.objs.size + 5 := by rw [Heap.size_push, z4]
  have z6 : (g6 s.heap a b c).objs.size = s.heap.objs.size + 6 := by rw [Heap.size_push, z5]
  have e6 : (g6 s.heap a b c).get? (g5 s.heap a b c).objs.size = some _ := Heap.get?_push_size _ rfl
  have e5 : (g6 s.heap a b c).get? (g4 s.heap a b c).objs.size = some _ := Heap.get?_push_of_some _ (Heap.get?_push_size _ rfl)
  have e4 : (g6 s.heap a b c).get? (g3 s.heap a b c).objs.size = some _ := Heap.get?_push_of_some _ (Heap.get?_push_of_some _ (Heap.get?_push_size _ rfl))
  have e3 : (g6 s.heap a b c).get? (g2 s.heap a b).objs.size = some _ := Heap.get?_push_of_some _ (Heap.get?_push_of_some _ (Heap.get?_push_of_some _ (Heap.get?_push_size _ rfl)))
  have e2 : (g6 s.heap a b c).get? (g1 s.heap a).objs.size = some _ := Heap.get?_push_of_some _ (Heap.get?_push_of_some _ (Heap.get?_push_of_some _ (Heap.get?_push_of_some _ (Heap.get?_push_size _ rfl))))
  have e1 : (g6 s.heap a b c).get? s.heap.objs.size = some _ := Heap.get?_push_of_some _ (Heap.get?_push_of_some _ (Heap.get?_push_of_some _ (Heap.get?_push_of_some _ (Heap.get?_push_of_some _ (Heap.get?_push_size _ rfl)))))
  show _ ∧ _
  rw [z3, z4, z5] at e6
  rw [z4] at e5
  rw [z1, z2, z3] at e4
  rw [z2] at e3
  rw [z1] at e2
  rw [z5]
  exact ⟨⟨_, e6, rfl⟩, h _ e6 e4 e5 ⟨_, e1, rfl, rfl⟩ ⟨_, e2, rfl, rfl⟩ ⟨_, e3, rfl, rfl⟩ z6 fun d o x => Heap.get?_push_of_some _ (Heap.get?_push_of_some _ (Heap.get?_push_of_some _ (Heap.get?_push_of_some _ (Heap.get?_push_of_some _ (Heap.get?_push_of_some _ x)))))⟩
end
end Z3

set_option maxHeartbeats 4000000
namespace Z3
open PySem PySem.Spec PyProof.Rows L2
/-- the lists at a, b, c as they stand at each turn -/
def It3 (K : PySem.W.Frag) (a b c : Addr) : It :=
  ⟨fun i H => ∃ (xs ys us : List V) (x y u : V), (SqL K H a xs ∧ SqL K H b ys ∧ SqL K H c us) ∧ xs[i]? = some x ∧ ys[i]? = some y ∧ us[i]? = some u,
    fun i H v H' => ∃ t x y u, v = .ref t ∧ H t = none ∧ H' = upd H t (.tup [x, y, u]) ∧ (∀ xs, SqL K H a xs → xs[i]? = some x) ∧ (∀ ys, SqL K H b ys → ys[i]? = some y) ∧ ∀ us, SqL K H c us → us[i]? = some u,
    fun i H => ∃ xs ys us : List V, (SqL K H a xs ∧ SqL K H b ys ∧ SqL K H c us) ∧ (xs.length ≤ i ∨ ys.length ≤ i ∨ us.length ≤ i)⟩
theorem turn {P : Program} {w : World} {K : PySem.W.Frag} {elts : List Expr} {kk : Nat} {tpos : Pos} {a b c z ti to p q r : Addr} (D : Ap z ti to p q r) (o1 : Off z to p q r a) (o2 : Off z to p q r b) (o3 : Off z to p q r c) :
    Turn P w K (.Tuple elts kk tpos) (It3 K a b c) [z, ti, to, p, q, r] z (fun i h => IsZip h z ti to .none ∧ Is3 h ti (.ref p) (.ref q) (.ref r) ∧ (∃ x y u, Is3 h to x y u) ∧ h.IsListIter p a i ∧ h.IsListIter q b i ∧ h.IsListIter r c i) where
  mem := by simp
  obj := fun i h st d hd => by
    obtain ⟨hz, hti, ⟨x, y, u, hto⟩, ⟨e1, f1, _, d1⟩, ⟨e2, f2, _, d2⟩, ⟨e3, f3, _, d3⟩⟩ := st
    simp only [List.mem_cons, List.not_mem_nil, or_false] at hd
    rcases hd with rfl | rfl | rfl | rfl | rfl | rfl
    · exact ⟨_, hz, fun v q => nomatch q⟩
    · exact ⟨_, hti, fun v q => nomatch q⟩
    · exact ⟨_, hto, fun v q => nomatch q⟩
    · exact ⟨e1, f1, fun v q => by rw [d1] at q; cases q⟩
    · exact ⟨e2, f2, fun v q => by rw [d2] at q; cases q⟩
    · exact ⟨e3, f3, fun v q => by rw [d3] at q; cases q⟩
  keep := fun i h h' st k => by
    obtain ⟨hz, hti, ⟨x, y, u, hto⟩, h1, h2, h3⟩ := st
    exact ⟨k z (by simp) _ hz, k ti (by simp) _ hti, ⟨x, y, u, k to (by simp) _ hto⟩, h1.at fun o q => k p (by simp) o q, h2.at fun o e => k q (by simp) o e, h3.at fun o e => k r (by simp) o e⟩
  item := by
    intro X hP hw hK hc i pins s σ H E I hf st hg
    subst hP hw hK
    have nd := D.nd
    simp only [List.nodup_cons, List.mem_cons, List.not_mem_nil, or_false, not_or] at nd
    obtain ⟨⟨n1, n2, n3, n4, n5⟩, ⟨n6, n7, n8, n9⟩, ⟨n10, n11, n12⟩, ⟨n13, n14⟩, n15, _⟩ := nd
    obtain ⟨hz, hti, ⟨x0, y0, u0, hto⟩, h1, h2, h3⟩ := st
    obtain ⟨xs, ys, us, x, y, u, ⟨qx, qy, qu⟩, hx, hy, hu⟩ := hg
    obtain ⟨its, rv, p1, _⟩ := I.list qx
    obtain ⟨its2, rv2, p2, _⟩ := I.list qy
    obtain ⟨its3, rv3, p3, _⟩ := I.list qu
    obtain ⟨v1, hv1, r1⟩ := rv.get hx
    obtain ⟨v2, hv2, r2⟩ := rv2.get hy
    obtain ⟨v3, hv3, r3⟩ := rv3.get hu
    have zlt : z < s.heap.objs.size := Heap.lt_size hz
    refine next_item D o1 o2 o3 hz hti hto h1 h2 h3 p1.isList p2.isList p3.isList (x := v1) (y := v2) (u := v3) (by simpa using hv1) (by simpa using hv2) (by simpa using hv3) fun h' z' t' i1 i2 i3 tn hsz hk => ?_
    refine ⟨_, rfl, wpAny_letOwnedTupleGo_zip (s := { s with heap := h' }) z' fun h'' z'' sb => ?_⟩
    have tn2 : h''.get? s.heap.objs.size = some { cls := .type "tuple", data := .seq #[v1, v2, v3] } := (sb.2 _ (Nat.ne_of_gt zlt)).trans tn
    have new : ObjOk X.prog X.w (upd H s.heap.objs.size (.tup [x, y, u])) h'' s.heap.objs.size (.tup [x, y, u]) :=
      ⟨by show 3 ≤ sizeLine; decide, [v1, v2, v3], .cons r1 (.cons r2 (.cons r3 .nil)), ⟨_, tn2, rfl, _, rfl⟩⟩
    have lft : ∀ d o, ¬ d ∈ [z, ti, to, p, q, r] → s.heap.get? d = some o → h''.get? d = some o := fun d o hb e => by
      simp only [List.mem_cons, List.not_mem_nil, or_false, not_or] at hb
      exact (sb.2 d hb.1).trans (hk d o ⟨hb.1, hb.2.2.1, hb.2.2.2.1, hb.2.2.2.2.1, hb.2.2.2.2.2⟩ e)
    have J := I.turnedNew (t' := s.toks) (ch := [z, ti, to, p, q, r]) lft hf (Nat.le_refl _) new
    refine ⟨.ref s.heap.objs.size, _, J, rfl, ⟨_, x, y, u, rfl, I.hok.fresh (Nat.le_refl _), rfl, fun l hl => by rw [I.list_inj hl qx]; exact hx, fun l hl => by rw [I.list_inj hl qy]; exact hy, fun l hl => by rw [I.list_inj hl qu]; exact hu⟩, ⟨z'', ?_, ⟨v1, v2, v3, ?_⟩, ?_, ?_, ?_⟩, fun d hd => ?_⟩
    · exact (sb.2 _ (Ne.symm n1)).trans (hk _ _ ⟨Ne.symm n1, n6, n7, n8, n9⟩ hti)
    · exact (sb.2 _ (Ne.symm n2)).trans t'
    · exact i1.at fun o e => (sb.2 _ (Ne.symm n3)).trans e
    · exact i2.at fun o e => (sb.2 _ (Ne.symm n4)).trans e
    · exact i3.at fun o e => (sb.2 _ (Ne.symm n5)).trans e
    · have dlt : d < s.heap.objs.size := by
        have hd' := hd
        simp only [List.mem_cons, List.not_mem_nil, or_false] at hd'
        rcases hd' with e | e | e | e | e | e <;> rw [e]
        · exact zlt
        · exact Heap.lt_size hti
        · exact Heap.lt_size hto
        · obtain ⟨_, e1, _⟩ := h1; exact Heap.lt_size e1
        · obtain ⟨_, e1, _⟩ := h2; exact Heap.lt_size e1
        · obtain ⟨_, e1, _⟩ := h3; exact Heap.lt_size e1
      rw [upd_ne (Nat.ne_of_lt dlt)]
      exact (hf d hd).1
  done := by
    intro X hP hw hK hc i pins s σ H E I hf st hg
    subst hP hw hK
    obtain ⟨hz, hti, ⟨x0, y0, u0, hto⟩, h1, h2, h3⟩ := st
    obtain ⟨xs, ys, us, ⟨qx, qy, qu⟩, hend⟩ := hg
    obtain ⟨its, rv, p1, _⟩ := I.list qx
    obtain ⟨its2, rv2, p2, _⟩ := I.list qy
    obtain ⟨its3, rv3, p3, _⟩ := I.list qu
    have e1 := rv.length
    have e2 := rv2.length
    have e3 := rv3.length
    have he : its.toArray[i]? = none ∨ its2.toArray[i]? = none ∨ its3.toArray[i]? = none := by
      rcases hend with e | e | e
      · exact .inl (by simp; omega)
      · exact .inr (.inl (by simp; omega))
      · exact .inr (.inr (by simp; omega))
    refine next_end (I.ok.hd hc) D o1 o2 o3 hz hti hto h1 h2 h3 p1.isList p2.isList p3.isList he fun h' hk => ⟨rfl, I.turnedL (t' := s.toks) (ch := [z, ti, to, p, q, r]) (fun d o hb e => ?_) hf⟩
    simp only [List.mem_cons, List.not_mem_nil, or_false, not_or] at hb
    exact hk d o ⟨hb.1, hb.2.2.1, hb.2.2.2.1, hb.2.2.2.2.1, hb.2.2.2.2.2⟩ e
  self := fun A i s Q E st h => wpAny_pyIter_zip st.1 h
def i3 (K : PySem.W.Frag) (ta : TA) : TI := fun σ H R => ta σ H fun vs H1 => ∃ a b c xs ys us, vs = [.ref a, .ref b, .ref c] ∧ (SqL K H1 a xs ∧ SqL K H1 b ys ∧ SqL K H1 c us) ∧ R (It3 K a b c) H1
theorem pi_zip3 {X : Cx} {e e2 e3 : Expr} {ta : TA} {p pos tpos : Pos} {elts : List Expr} {kk : Nat} (hg : Gl X "zip") (hm : X.mg "zip" = none) (ha : PA X [e, e2, e3] ta)
    (hs : starEach [e, e2, e3] X.env = (false, eval e X.env) :: starEach [e2, e3] X.env := by rfl) (hpl : (backTo pos (starEach [e2, e3] X.env)).any (·.1) = false := by rfl) :
    PI X (.Tuple elts kk tpos) (.Call (.Name "zip" p) [e, e2, e3] [] pos) (i3 X.K ta) := by
  refine ⟨fun pins s σ H R I h => ?_⟩
  refine Call_ (ld_blt I hg hm PyProof.Rows.boot_zip (PyProof.Rows.callWith_type1 (thn (ha.run pos pins s σ H _ I h) fun us s1 ⟨vs, H1, I1, r1, q1⟩ => ?_) hs hpl))
  obtain ⟨a, b, c, xs, ys, zs, ex, ⟨qx, qy, qz⟩, qq⟩ := q1
  subst ex
  obtain ⟨u1, u2, u3, rfl, ra, rb, rc⟩ : ∃ u1 u2 u3, us = [u1, u2, u3] ∧ RelV (.ref a) u1 ∧ RelV (.ref b) u2 ∧ RelV (.ref c) u3 := by
    cases r1 with
    | cons x1 k1 => cases k1 with
      | cons x2 k2 => cases k2 with
        | cons x3 k3 => cases k3; exact ⟨_, _, _, rfl, x1, x2, x3⟩
  cases ra
  cases rb
  cases rc
  obtain ⟨its, rv, p1, _⟩ := I1.list qx
  obtain ⟨its2, rv2, p2, _⟩ := I1.list qy
  obtain ⟨its3, rv3, p3, _⟩ := I1.list qz
  have la : a < s1.heap.objs.size := p1.lt
  have lb : b < s1.heap.objs.size := p2.lt
  have lc : c < s1.heap.objs.size := p3.lt
  have off : ∀ d, d < s1.heap.objs.size → Off (s1.heap.objs.size + 5) (s1.heap.objs.size + 4) s1.heap.objs.size (s1.heap.objs.size + 1) (s1.heap.objs.size + 2) d := fun d hd => ⟨Nat.ne_of_lt (Nat.lt_of_lt_of_le hd (Nat.le_add_right _ _)), Nat.ne_of_lt (Nat.lt_of_lt_of_le hd (Nat.le_add_right _ _)), Nat.ne_of_lt hd, Nat.ne_of_lt (Nat.lt_of_lt_of_le hd (Nat.le_add_right _ _)), Nat.ne_of_lt (Nat.lt_of_lt_of_le hd (Nat.le_add_right _ _))⟩
  refine called p1.isList p2.isList p3.isList fun h' hz hti hto h1 h2 h3 hsz hk => wpAny_pyIter_zip hz ?_
  have I2 : Inv X pins σ H1 { s1 with heap := h' } := I1.kept (t' := s1.toks) hk
  have ap : Ap (s1.heap.objs.size + 5) (s1.heap.objs.size + 3) (s1.heap.objs.size + 4) s1.heap.objs.size (s1.heap.objs.size + 1) (s1.heap.objs.size + 2) := ⟨by
    simp [Addr]⟩
  refine ⟨s1.heap.objs.size + 5, [s1.heap.objs.size + 5, s1.heap.objs.size + 3, s1.heap.objs.size + 4, s1.heap.objs.size, s1.heap.objs.size + 1, s1.heap.objs.size + 2], _, _, H1, rfl, I2, turn ap (off a la) (off b lb) (off c lc), ⟨hz, hti, ⟨_, _, _, hto⟩, h1, h2, h3⟩, fun d hd => ?_, qq⟩
  have hle : s1.heap.objs.size ≤ d := by
    simp only [List.mem_cons, List.not_mem_nil, or_false] at hd
    rcases hd with e | e | e | e | e | e <;> rw [e]
    all_goals first | exact Nat.le_refl _ | exact Nat.le_add_right _ _
  exact I1.fpOk hle (I1.hok.fresh hle)
end Z3

namespace Dl
open PySem PySem.Spec PyProof.Rows L2 Gd
variable {K : PySem.W.Frag} {E : XK}
/-- zip of three lists -/
def zip3 : List T → List T → List T → List T
  | a :: l, b :: m, c :: n => .tup [a, b, c] :: zip3 l m n
  | _, _, _ => []
theorem zip3_at : ∀ {l m n : List T} {i : Nat} {a b c : T}, l[i]? = some a → m[i]? = some b → n[i]? = some c → (zip3 l m n)[i]? = some (.tup [a, b, c])
  | x :: l, y :: m, z :: n, 0, a, b, c, e1, e2, e3 => by
    cases e1
    cases e2
    cases e3
    rfl
  | x :: l, y :: m, z :: n, i + 1, a, b, c, e1, e2, e3 => zip3_at (l := l) (m := m) (n := n) (i := i) e1 e2 e3
theorem zip3_len : ∀ l m n : List T, (zip3 l m n).length = min l.length (min m.length n.length)
  | x :: l, y :: m, z :: n => by
    show (zip3 l m n).length + 1 = _
    rw [zip3_len l m n]
    simp only [List.length_cons]
    omega
  | [], m, n => by simp [zip3]
  | x :: l, [], n => by simp [zip3]
  | x :: l, y :: m, [] => by simp [zip3]
def rIzip3 (r : DA) : DL := fun ρ xw μ Φ => r ρ xw μ fun ts μ' => match ts with
  | [.lst l, .lst m, .lst n] => Φ (zip3 l m n) μ'
  | _ => False
theorem three_dv {W : Wd} {vs : List V} {t u s : T} (d : DvAll K W vs [t, u, s]) : ∃ v w x, vs = [v, w, x] ∧ Dv K W v t ∧ Dv K W w u ∧ Dv K W x s := by
  cases d with
  | cons a b => cases b with
    | cons c d => cases d with
      | cons e f => cases f; exact ⟨_, _, _, rfl, a, c, e⟩
instance sim_izip3 {t : TA} {r} [a : SimA K E t r] : SimI K E (Z3.i3 K t) (rIzip3 r) := ⟨fun o s n h q => a.run o s n h fun {vs τs W1 H1 μ1} l1 o1 d1 h1 => by
  split at h1
  · rename_i l m k
    obtain ⟨v, w, x, rfl, dv, dw, dx⟩ := three_dv d1
    cases (show Dn K W1.B v (.lst l) from dv) with
    | @lst p xs _ e da =>
      cases (show Dn K W1.B w (.lst m) from dw) with
      | @lst p2 ys _ e2 da2 =>
        cases (show Dn K W1.B x (.lst k) from dx) with
        | @lst p3 us _ e3 da3 =>
          refine ⟨p, p2, p3, xs, ys, us, rfl, ⟨SqL.of (o1.sb _ _ e), SqL.of (o1.sb _ _ e2), SqL.of (o1.sb _ _ e3)⟩, q l1 o1 (fun {W' H' μ'} l' o' i => ?_) h1⟩
          have f1 : H' p = some (.lst xs) := o'.sb _ _ (l'.b _ _ e)
          have f2 : H' p2 = some (.lst ys) := o'.sb _ _ (l'.b _ _ e2)
          have f3 : H' p3 = some (.lst us) := o'.sb _ _ (l'.b _ _ e3)
          rw [zip3_len]
          refine ⟨fun lt => ?_, fun le => ⟨xs, ys, us, ⟨SqL.of f1, SqL.of f2, SqL.of f3⟩, by rw [da.length, da2.length, da3.length]; omega⟩⟩
          have lt1 : i < l.length := by omega
          have lt2 : i < m.length := by omega
          have lt3 : i < k.length := by omega
          obtain ⟨v, ev, dv⟩ := da.get (List.getElem?_eq_getElem lt1)
          obtain ⟨w, ew, dw⟩ := da2.get (List.getElem?_eq_getElem lt2)
          obtain ⟨x, ex, dx⟩ := da3.get (List.getElem?_eq_getElem lt3)
          refine ⟨⟨xs, ys, us, v, w, x, ⟨SqL.of f1, SqL.of f2, SqL.of f3⟩, ev, ew, ex⟩, fun y H'' yl => ?_⟩
          obtain ⟨p9, z, z2, z3, rfl, f, rfl, k1, k2, k3⟩ := yl
          have g1 := k1 xs (SqL.of f1)
          have g2 := k2 ys (SqL.of f2)
          have g3 := k3 us (SqL.of f3)
          rw [ev] at g1
          rw [ew] at g2
          rw [ex] at g3
          cases g1
          cases g2
          cases g3
          refine ⟨{ W' with B := upd W'.B p9 (.tup [v, w, x]) }, .tup [l[i], m[i], k[i]], Grow.new o'.sb _ f, ?_, ?_⟩
          · exact zip3_at (List.getElem?_eq_getElem lt1) (List.getElem?_eq_getElem lt2) (List.getElem?_eq_getElem lt3)
          have sm := l'.b.trans (same_new (o := .tup [v, w, x]) (o'.sb.free f))
          exact .tup (SqT.of upd_same) (.cons (dv.mono sm) (.cons (dw.mono sm) (.cons (dx.mono sm) .nil)))
  · exact h1.elim⟩
theorem piZ3K {X : Cx} (h : X.K = K) {e e2 e3 : Expr} {ta : TA} {p pos tpos : Pos} {elts : List Expr} {kk : Nat} (hg : Gl X "zip") (hm : X.mg "zip" = none) (ha : PA X [e, e2, e3] ta)
    (hs : starEach [e, e2, e3] X.env = (false, eval e X.env) :: starEach [e2, e3] X.env := by rfl) (hpl : (backTo pos (starEach [e2, e3] X.env)).any (·.1) = false := by rfl) :
    PI X (.Tuple elts kk tpos) (.Call (.Name "zip" p) [e, e2, e3] [] pos) (Z3.i3 K ta) := by
  subst h
  exact Z3.pi_zip3 hg hm ha hs hpl
end Dl

set_option maxRecDepth 100000
set_option maxHeartbeats 4000000
namespace Gd
open PySem PySem.Spec PyProof.Rows L2
section
variable {prog : Program} {w : World} {A : Around} {E : Value → Shared → Prop} {s : Shared} {l : Addr} {its : List Value} {ns : List Int} {Q : Value → Shared → Prop}
/-- min(xs, default = d) of whole numbers -/
theorem min_rawD {d : Value} (hh : A.handled = none) (hl : s.heap.IsList l its.toArray) (hi : IntsAre its ns)
    (h0 : ns = [] → ∀ h' tk, (∀ b o, s.heap.get? b = some o → h'.get? b = some o) → Q d { s with heap := h', toks := tk })
    (h : ∀ h' tk M t', (∀ b o, s.heap.get? b = some o → h'.get? b = some o) → M ∈ ns → (∀ a, a ∈ ns → M ≤ a) → Q (.int M t') { s with heap := h', toks := tk }) :
    wpAny (model prog w) A (call (.builtin "min") [.ref l] [(Str.ofString "default", d)]) Q E s := by
  obtain ⟨xs, e⟩ := hi.allInts.items
  have hn : numsOf (intItems xs).toList = ns := by rw [← e]; exact hi.numsOf
  rw [nums_intItems] at hn
  subst hn
  rw [e] at hl
  have zz : (intItems xs).size = xs.size := by simp [intItems]
  refine call_min_walkD (PySem.W.iter_listW (A := A.in1) hh hl fun s₂ e W st hfp hw hk => ?_)
  refine ⟨_, _, _, _, _, _, _, s.heap, _, rfl, W, st, hfp, hw, hk, fun hz s' m => ?_, fun hp => ⟨fun i j vi vj s3 Q3 E3 _ hi hj q => CmpOf.ints_lt (numAt xs) (fun _ _ => intItems_at) i j vi vj s3 Q3 E3 hi hj q, fun v s' hP m => ?_⟩⟩
  · obtain ⟨h', tk, rfl, hk'⟩ := PySem.W.moved_old e rfl m
    refine h0 ?_ h' tk hk'
    rw [zz] at hz
    exact List.eq_nil_of_length_eq_zero (by rw [List.length_map, Array.length_toList]; exact hz)
  · obtain ⟨h', tk, rfl, hk'⟩ := PySem.W.moved_old e rfl m
    rw [zz] at hp hP
    obtain ⟨t, rfl⟩ := intItems_at hP
    obtain ⟨h1, h2⟩ := argBest_lt (numAt xs) (xs.size - 1)
    refine h h' tk _ t hk' ?_ fun a ha => ?_
    · rw [numAt_eq]; exact PySem.getD_mem (by rw [List.length_map, Array.length_toList]; omega)
    · obtain ⟨j, hj, rfl⟩ := mem_getD ha
      rw [List.length_map, Array.length_toList] at hj
      rw [← numAt_eq]; exact h2 j (by omega)
end
section
variable {X : Cx}
def rMinD (K : PySem.W.Frag) : List V → List V → Hp → VK → Prop := fun vs zs H Q => ∃ (a : Addr) (ns : List Int) (d : V), vs = [V.ref a] ∧ zs = [d] ∧ SqL K H a (ns.map V.int) ∧ (ns = [] → Q d H) ∧ ∀ m, m ∈ ns → (∀ y, y ∈ ns → m ≤ y) → Q (.int m) H
theorem cr_minD (hc : X.calm = true) : CallRK X (.builtin "min") [Str.ofString "default"] (rMinD X.K) := by
  intro pins s σ H vs zs us ws Q I r r2 h
  obtain ⟨a, ns, d, rfl, rfl, hs, q0, q⟩ := h
  obtain ⟨its, rv, hl, _⟩ := I.list hs
  obtain ⟨u, rfl, ru⟩ := r2.one
  rw [Vals.ref1 r]
  exact min_rawD (I.ok.hd hc) hl.isList rv.ints (fun e h' tk hk => ⟨d, H, I.kept hk, ru, q0 e⟩) fun h' tk m t' hk h1 h2 => ⟨.int _, H, I.kept hk, ⟨_, rfl⟩, q m h1 h2⟩
theorem minDK {K : PySem.W.Frag} (h : X.K = K) (hc : X.calm = true) : CallRK X (.builtin "min") [Str.ofString "default"] (rMinD K) := by
  subst h
  exact cr_minD hc
end
end Gd
namespace Dl
open PySem PySem.Spec PyProof.Rows L2 Gd
variable {K : PySem.W.Frag} {E : XK}
/-! ### min with default -/
def rCK (d : Mu → List T → List T → (T → Prop) → Prop) (ra rk : DA) : DE := fun ρ xw μ Φ => ra ρ xw μ fun ts μ1 => rk ρ xw μ1 fun us μ2 => d μ2 ts us fun z => Φ z μ2
class SimCK (K : PySem.W.Frag) (r : List V → List V → Hp → VK → Prop) (d : outParam (Mu → List T → List T → (T → Prop) → Prop)) : Prop where
  run : ∀ {W : Wd} {H : Hp} {μ : Mu} {vs zs : List V} {ts us : List T} {Ψ : T → Prop} {Q : VK}, Ok K W H μ → DvAll K W vs ts → DvAll K W zs us → d μ ts us Ψ → (∀ {v τ W' H'}, Grow W H W' H' → Dv K W' v τ → Ψ τ → Q v H') → r vs zs H Q
theorem DvAll.mono' {W W' : Wd} (l : W.Le W') : ∀ {vs : List V} {ts : List T}, DvAll K W vs ts → DvAll K W' vs ts
  | _, _, .nil => .nil
  | _, _, .cons d r => .cons (d.mono l) (DvAll.mono' l r)
instance sim_ck {r : List V → List V → Hp → VK → Prop} {t tk : TA} {d ra rk} [o : SimCK K r d] [a : SimA K E t ra] [b : SimA K E tk rk] : SimE K E (tCKw r t tk) (rCK d ra rk) := ⟨fun x s n h q =>
  a.run x s n h fun l1 x1 d1 h1 => b.run x1 (s.mono l1) (n.mono l1) h1 fun l2 x2 d2 h2 => o.run x2 (d1.mono' l2) d2 h2 fun g d3 h3 => q ((l1.trans l2).trans (g.le x2)) (g.ok x2) d3 h3⟩
/-- the least of them -/
def minI : List Int → Option Int
  | [] => none
  | x :: r => some (r.foldl min x)
theorem foldl_min (r : List Int) : ∀ x : Int, r.foldl min x ≤ x ∧ (∀ y ∈ r, r.foldl min x ≤ y) ∧ (r.foldl min x = x ∨ r.foldl min x ∈ r) := by
  induction r with
  | nil => exact fun x => ⟨Int.le_refl _, fun y hy => (by cases hy), .inl rfl⟩
  | cons z r ih =>
    intro x
    obtain ⟨a, b, c⟩ := ih (min x z)
    refine ⟨?_, fun y hy => ?_, ?_⟩
    · show r.foldl min (min x z) ≤ x
      omega
    · show r.foldl min (min x z) ≤ y
      rcases List.mem_cons.mp hy with rfl | hy
      · omega
      · exact b y hy
    · show r.foldl min (min x z) = x ∨ r.foldl min (min x z) ∈ z :: r
      rcases c with c | c
      · by_cases h : x ≤ z
        · exact .inl (by omega)
        · exact .inr (List.mem_cons.mpr (.inl (by omega)))
      · exact .inr (List.mem_cons_of_mem _ c)
theorem minI_is {ns : List Int} {m : Int} (h : m ∈ ns) (k : ∀ y ∈ ns, m ≤ y) : minI ns = some m := by
  cases ns with
  | nil => cases h
  | cons x r =>
    obtain ⟨a, b, c⟩ := foldl_min r x
    have h1 : r.foldl min x ≤ m := by
      rcases List.mem_cons.mp h with rfl | h
      · exact a
      · exact b m h
    have h2 : m ≤ r.foldl min x := by
      rcases c with c | c
      · rw [c]; exact k x List.mem_cons_self
      · exact k _ (List.mem_cons_of_mem _ c)
    show some _ = some m
    rw [Int.le_antisymm h1 h2]
theorem minI_some {ns : List Int} {m : Int} (h : minI ns = some m) : m ∈ ns ∧ ∀ y ∈ ns, m ≤ y := by
  cases ns with
  | nil => cases h
  | cons x r =>
    obtain ⟨a, b, c⟩ := foldl_min r x
    have e : r.foldl min x = m := Option.some.inj h
    subst e
    refine ⟨?_, fun y hy => ?_⟩
    · rcases c with c | c
      · rw [c]; exact List.mem_cons_self
      · exact List.mem_cons_of_mem _ c
    · rcases List.mem_cons.mp hy with rfl | hy
      · exact a
      · exact b y hy
def fMinD : Mu → List T → List T → (T → Prop) → Prop := fun μ ts us Ψ => match ts, us with
  | [t], [u] => ∃ l bs, view μ t = .lst l ∧ T.ints l = some bs ∧ Ψ (match minI bs with | some m => .int m | none => u)
  | _, _ => False
instance sim_minD : SimCK K (rMinD K) fMinD := ⟨fun {W H μ vs zs ts us Ψ Q} x d d2 e q => by
  unfold fMinD at e
  split at e
  · rename_i t u
    obtain ⟨l, bs, e1, e2, e3⟩ := e
    obtain ⟨v, rfl, dv⟩ := one_dv d
    obtain ⟨z, rfl, dz⟩ := one_dv d2
    obtain ⟨p, xs, rfl, sq, da⟩ := view_lst x dv e1
    have ex := ints_is da e2
    subst ex
    refine ⟨p, bs, z, rfl, rfl, SqL.of sq, fun n => ?_, fun m h1 h2 => ?_⟩
    · subst n
      exact q (Grow.refl x.sb) dz e3
    · rw [minI_is h1 h2] at e3
      exact q (Grow.refl x.sb) (.of (.int _)) e3
  · exact e.elim⟩
/-! ### xs.extend(ys) -/
def dExtend : Mu → T → List T → (T → Mu → Prop) → Prop := fun μ t ts Ψ => match t, ts with
  | .rs k, [y] => ∃ l m, μ[k]? = some (.lst l) ∧ view μ y = .lst m ∧ l.length + m.length ≤ 1000000 ∧ Ψ .non (μ.set k (.lst (l ++ m)))
  | _, _ => False
instance sim_extend {n : String} : SimM K n rExtend dExtend := ⟨fun {W H μ v vs t ts Ψ Q} x d da e q => by
  unfold dExtend at e
  split at e
  · obtain ⟨l, m, e1, e2, sz, e⟩ := e
    obtain ⟨y, rfl, dy⟩ := one_dv da
    obtain ⟨p, ep, rfl⟩ := (show ∃ p, _ from d)
    obtain ⟨p1, ep1, o, xs, eh, dx⟩ := x.res _ _ e1
    rw [ep] at ep1
    cases ep1
    obtain ⟨p2, ys, rfl, s2, d2⟩ := view_lst x dy e2
    exact ⟨p, p2, xs, ys, rfl, rfl, eh, s2, by rw [dx.length, d2.length]; exact line1 sz, q Wd.Le.refl (res_put x e1 ep (dx.append d2)) (.of .non) e⟩
  · exact e.elim⟩
/-! ### comprehensions with two for -/
theorem Dv.reg {W : Wd} {g : Hp} {v : V} {t : T} (h : Dv K W v t) : Dv K { W with G := g } v t := by
  cases t with
  | rs k => exact h
  | _ => exact h
theorem Sl.reg {W : Wd} {g : Hp} {σ : L2.St} {ρ : Rho} (h : Sl K W σ ρ) : Sl K { W with G := g } σ ρ := ⟨h.1, fun i t e => let ⟨v, a, b⟩ := h.2 i t e; ⟨v, a, b.reg⟩⟩
theorem wipe2 (σ : L2.St) (vs : List Nat) : L2.wipe (L2.wipe σ vs) vs = L2.wipe σ vs := by
  apply List.ext_getElem?
  intro j
  rw [wipe_at, wipe_at, wipe_length]
  by_cases m : j ∈ vs <;> simp [m]
def rLc2 (ri : DL) (js : List Nat) (rg : DG) (rt : DB) (ri1 : DL) (js1 : List Nat) (rg1 : DG) (rt1 : DB) (re : DE) (vs vs1 : List Nat) : DL := fun ρ xw μ Φ => ri ρ xw μ fun l μ1 => (∀ i ∈ js, i ∈ vs) ∧ (∀ i ∈ js1, i ∈ vs1) ∧ ∃ Pv : Nat → List T → Mu → Prop, Pv 0 [] μ1 ∧
  (∀ (i : Nat) (t : T) (acc : List T) (μ : Mu), l[i]? = some t → Pv i acc μ → rg t (wipeR ρ vs) xw μ fun ρ2 μ2 => rt ρ2 xw μ2 fun b μ3 => if b = true then ri1 ρ2 xw μ3 fun l1 μ4 => ∃ Pw : Nat → List T → Mu → Prop, Pw 0 acc μ4 ∧
    (∀ (j : Nat) (t : T) (acc : List T) (μ : Mu), l1[j]? = some t → Pw j acc μ → rg1 t (wipeR ρ2 vs1) xw μ fun ρ5 μ5 => rt1 ρ5 xw μ5 fun b μ6 => if b = true then re ρ5 xw μ6 fun y μ7 => y.flat = true ∧ acc.length < 1000000 ∧ Pw (j + 1) (acc ++ [y]) μ7 else Pw (j + 1) acc μ6) ∧
    (∀ acc μ, Pw l1.length acc μ → Pv (i + 1) acc μ) else Pv (i + 1) acc μ3) ∧
  ∀ acc μ, Pv l.length acc μ → Φ acc μ
instance sim_lc2 {wi : TI} {g : TG} {tt : TT} {wi1 : TI} {g1 : TG} {tt1 : TT} {te : TE} {vs vs1 ri js rg rt ri1 js1 rg1 rt1 re} [a : SimI K E wi ri] [b : SimG K E g js rg] [c : SimB K E tt rt] [a1 : SimI K E wi1 ri1] [b1 : SimG K E g1 js1 rg1] [c1 : SimB K E tt1 rt1] [d : SimE K E te re] :
    SimL K E (tLc2 wi g tt wi1 g1 tt1 te vs vs1) (rLc2 ri js rg rt ri1 js1 rg1 rt1 re vs vs1) := ⟨fun {W H σ ρ μ xw Φ Q} o s n h q => a.run o s n h fun {J l W1 H1 μ1} l1 o1 wk h1 => by
  obtain ⟨sub, sub1, Pv, p0, turn, fin⟩ := h1
  intro D fD
  have gD : W1.G D = none := o1.sg.free fD
  refine ⟨fun i m H => i + m = l.length ∧ ∃ W' μ acc xs, W1.Le W' ∧ Ok K W' H μ ∧ Fr K W' H D xs acc ∧ Pv i acc μ, ⟨l.length, Nat.zero_add _, W1, μ1, [], [], Wd.Le.refl, (Fr.new o1 fD .nil).1, (Fr.new o1 fD .nil).2, p0⟩, ?_⟩
  rintro i m H2 ⟨e, W2, μ2, acc, xs, l2, o2, f2, p2⟩
  match m, e with
  | 0, e =>
    obtain rfl : i = l.length := e
    exact .inl ⟨(wk ⟨l2.b⟩ o2 _).2 (Nat.le_refl _), q (l1.trans l2) o2 f2 (fin _ _ p2)⟩
  | m + 1, e =>
    have lt : i < l.length := by omega
    obtain ⟨go, yl⟩ := (wk ⟨l2.b⟩ o2 i).1 lt
    refine .inr ⟨go, fun H => ∃ W' μ acc xs, W1.Le W' ∧ Ok K W' H μ ∧ Fr K W' H D xs acc ∧ Pv (i + 1) acc μ, fun H' z => ⟨m, Nat.lt_succ_self m, by omega, z⟩, fun x H3 y => ?_⟩
    obtain ⟨W3, t, g3, et, dt⟩ := yl x H3 y
    have l3 := l2.trans (g3.le o2)
    have o3 := g3.ok o2
    have h3 : H3 D = some (.lst xs) := g3.h _ _ f2.h
    have own3 : W3.own D = none := by rw [g3.own]; exact f2.o
    have b3 : W3.B D = none := by
      cases q : W3.B D with
      | none => rfl
      | some u =>
        rcases g3.nb D u q with q | q
        · rw [f2.b] at q; cases q
        · rw [f2.h] at q; cases q
    have g3n : W3.G D = none := by rw [g3.g]; exact f2.g
    have og := gd_ok o3 h3 own3
    have sg : Sl K (W3.gd D (.lst xs)) (L2.wipe σ vs) (wipeR ρ vs) := (s.mono (l1.trans l3)).wipes vs
    have xg : XL K (W3.gd D (.lst xs)) xw E := fun {C d fs τs W' H' μ'} l' o' ed df x => by
      obtain ⟨u1, u2, _⟩ := un_gd g3n b3 l' o'
      exact n ((l1.trans l3).trans u1) u2 ed df x
    have dt3 : Dv K (W3.gd D (.lst xs)) x t := .of dt
    refine b.run og sg xg dt3 (turn i t acc μ2 et p2) fun {σ5 ρ5 W5 H5 μ5} l5 o5 s5 w5 h5 => ⟨(w5 vs sub).trans (wipe2 σ vs), ?_⟩
    refine c.run o5 s5 (xg.mono l5) h5 fun {bb W6 H6 μ6} l6 o6 h6 => ?_
    cases bb with
    | false =>
      refine iteF ?_
      obtain ⟨u1, u2, u3, u4, u5⟩ := un_gd g3n b3 (l5.trans l6) o6
      have dn : DnAll K W6.B xs acc := (f2.d.mono g3.b).mono (l5.trans l6).b
      exact ⟨_, _, acc, xs, l3.trans u1, u2, ⟨u5, g3n, u4, u3, dn⟩, (if_neg Bool.false_ne_true).mp h6⟩
    | true =>
      refine iteT (a1.run o6 (s5.mono l6) (xg.mono (l5.trans l6)) h6 fun {J1 la W7 H7 μ7} l7 o7 wk7 h7 => ?_)
      obtain ⟨Pw, pw0, turn1, fin1⟩ := h7
      obtain ⟨u1, u2, u3, u4, u5⟩ := un_gd g3n b3 ((l5.trans l6).trans l7) o7
      have dn : DnAll K W7.B xs acc := (f2.d.mono g3.b).mono ((l5.trans l6).trans l7).b
      have sb : Sl K { W7 with G := W3.G } σ5 ρ5 := (s5.mono (l6.trans l7)).reg
      have nb : XL K { W7 with G := W3.G } xw E := n.mono ((l1.trans l3).trans u1)
      refine ⟨fun j m H => j + m = la.length ∧ ∃ W' μ acc xs, Wd.Le { W7 with G := W3.G } W' ∧ Ok K W' H μ ∧ Fr K W' H D xs acc ∧ Pw j acc μ, ⟨la.length, Nat.zero_add _, _, μ7, acc, xs, Wd.Le.refl, u2, ⟨u5, g3n, u4, u3, dn⟩, pw0⟩, ?_⟩
      rintro j m1 H8 ⟨e8, W8, μ8, acc8, xs8, l8, o8, f8, p8⟩
      match m1, e8 with
      | 0, e8 =>
        obtain rfl : j = la.length := e8
        exact .inl ⟨(wk7 ⟨l8.b⟩ o8 _).2 (Nat.le_refl _), W8, μ8, acc8, xs8, (l3.trans u1).trans l8, o8, f8, fin1 _ _ p8⟩
      | m1 + 1, e8 =>
        have lt8 : j < la.length := by omega
        obtain ⟨go8, yl8⟩ := (wk7 ⟨l8.b⟩ o8 j).1 lt8
        refine .inr ⟨go8, fun H => ∃ W' μ acc xs, Wd.Le { W7 with G := W3.G } W' ∧ Ok K W' H μ ∧ Fr K W' H D xs acc ∧ Pw (j + 1) acc μ, fun H' z => ⟨m1, Nat.lt_succ_self m1, by omega, z⟩, fun x9 H9 y9 => ?_⟩
        obtain ⟨W9, t9, g9, et9, dt9⟩ := yl8 x9 H9 y9
        have l9 := l8.trans (g9.le o8)
        have o9 := g9.ok o8
        have h9 : H9 D = some (.lst xs8) := g9.h _ _ f8.h
        have own9 : W9.own D = none := by rw [g9.own]; exact f8.o
        have b9 : W9.B D = none := by
          cases q : W9.B D with
          | none => rfl
          | some u =>
            rcases g9.nb D u q with q | q
            · rw [f8.b] at q; cases q
            · rw [f8.h] at q; cases q
        have g9n : W9.G D = none := by rw [g9.g]; exact f8.g
        have og9 := gd_ok o9 h9 own9
        have sg9 : Sl K (W9.gd D (.lst xs8)) (L2.wipe σ5 vs1) (wipeR ρ5 vs1) := (sb.mono l9).wipes vs1
        have xg9 : XL K (W9.gd D (.lst xs8)) xw E := fun {C d fs τs W' H' μ'} l' o' ed df x => by
          obtain ⟨u1, u2, _⟩ := un_gd g9n b9 l' o'
          exact nb (l9.trans u1) u2 ed df x
        have dt9' : Dv K (W9.gd D (.lst xs8)) x9 t9 := .of dt9
        refine b1.run og9 sg9 xg9 dt9' (turn1 j t9 acc8 μ8 et9 p8) fun {σa ρa Wa Ha μa} la oa sa wa ha => ⟨(wa vs1 sub1).trans (wipe2 σ5 vs1), ?_⟩
        refine c1.run oa sa (xg9.mono la) ha fun {bb Wb Hb μb} lb ob hb => ?_
        cases bb with
        | false =>
          refine iteF ?_
          obtain ⟨u1, u2, u3, u4, u5⟩ := un_gd g9n b9 (la.trans lb) ob
          have dn : DnAll K Wb.B xs8 acc8 := (f8.d.mono g9.b).mono (la.trans lb).b
          exact ⟨_, _, acc8, xs8, l9.trans u1, u2, ⟨u5, g9n, u4, u3, dn⟩, (if_neg Bool.false_ne_true).mp hb⟩
        | true =>
          refine iteT (d.run ob (sa.mono lb) (xg9.mono (la.trans lb)) hb fun {vc τc Wc Hc μc} lc oc dc hc => ?_)
          obtain ⟨u1, u2, u3, u4, u5⟩ := un_gd g9n b9 ((la.trans lb).trans lc) oc
          have dn : DnAll K Wc.B xs8 acc8 := (f8.d.mono g9.b).mono ((la.trans lb).trans lc).b
          exact ⟨xs8, u3, by rw [dn.length]; exact Nat.lt_of_lt_of_le hc.2.1 (line1 (Nat.le_refl _)), _, μc, acc8 ++ [τc], xs8 ++ [vc], l9.trans u1, write_ok u2 u5 g9n u4, ⟨u5, g9n, u4, upd_same, dn.append (.cons (flat_dn dc hc.1) .nil)⟩, hc.2.2⟩⟩
end Dl

/-! ### rounds: when calls begin -/
namespace Rm
/-- a call: when it comes, its name, its hours -/
abbrev Cal := Int × PySem.Str × Int
/-- when the calls of round k begin, the press being free from f on -/
def beg (L k : Int) : Int → List Cal → List Int
  | _, [] => []
  | f, c :: r => max f (k * L + c.1) :: beg L k (max f (k * L + c.1) + c.2.2) r
/-- .. from when on it is free behind them -/
def fin (L k : Int) : Int → List Cal → Int
  | f, [] => f
  | f, c :: r => fin L k (max f (k * L + c.1) + c.2.2) r
def tot : List Cal → Int
  | [] => 0
  | c :: r => c.2.2 + tot r
/-- from when on the press is free behind round k -/
def fre (L : Int) (l : List Cal) : Nat → Int
  | 0 => fin L 0 0 l
  | k + 1 => fin L (k + 1 : Nat) (fre L l k) l
/-- when the calls of round k begin -/
def bgs (L : Int) (l : List Cal) : Nat → List Int
  | 0 => beg L 0 0 l
  | k + 1 => beg L (k + 1 : Nat) (fre L l k) l
theorem beg_len (L k : Int) : ∀ (l : List Cal) (f : Int), (beg L k f l).length = l.length
  | [], _ => rfl
  | c :: r, f => congrArg (· + 1) (beg_len L k r _)
theorem bgs_len (L : Int) (l : List Cal) (k : Nat) : (bgs L l k).length = l.length := by
  cases k <;> exact beg_len ..
theorem tot_pos {l : List Cal} (h : ∀ c ∈ l, 0 ≤ c.2.2) : 0 ≤ tot l := by
  induction l with
  | nil => exact Int.le_refl _
  | cons c r ih =>
    have := h c List.mem_cons_self
    have := ih fun d hd => h d (List.mem_cons_of_mem _ hd)
    show 0 ≤ c.2.2 + tot r
    omega
theorem fin_ge (L k : Int) : ∀ (l : List Cal) (f : Int), f + tot l ≤ fin L k f l
  | [], f => by show f + 0 ≤ f; omega
  | c :: r, f => by
    have := fin_ge L k r (max f (k * L + c.1) + c.2.2)
    show f + (c.2.2 + tot r) ≤ fin L k _ r
    omega
theorem fin_mono (L k : Int) : ∀ (l : List Cal) {f g : Int}, f ≤ g → fin L k f l ≤ fin L k g l
  | [], _, _, h => h
  | c :: r, f, g, h => fin_mono L k r (by omega)
/-- later by a round: all is later by as much -/
theorem fin_shift (L k d : Int) : ∀ (l : List Cal) (f : Int), fin L (k + 1) (f + L) l = fin L k f l + L
  | [], f => rfl
  | c :: r, f => by
    show fin L (k + 1) (max (f + L) ((k + 1) * L + c.1) + c.2.2) r = fin L k (max f (k * L + c.1) + c.2.2) r + L
    rw [← fin_shift L k d r]
    congr 1
    rw [Int.add_mul]
    omega
theorem beg_shift (L k : Int) : ∀ (l : List Cal) (f : Int), beg L (k + 1) (f + L) l = (beg L k f l).map (· + L)
  | [], f => rfl
  | c :: r, f => by
    show max (f + L) ((k + 1) * L + c.1) :: beg L (k + 1) (max (f + L) ((k + 1) * L + c.1) + c.2.2) r = (max f (k * L + c.1) + L) :: (beg L k (max f (k * L + c.1) + c.2.2) r).map (· + L)
    have e : max (f + L) ((k + 1) * L + c.1) = max f (k * L + c.1) + L := by
      rw [Int.add_mul]
      omega
    rw [e, ← beg_shift L k r]
    congr 2
    omega
/-- the press is never free between: it begins each at once -/
def busy (L k : Int) : Int → List Cal → Prop
  | _, [] => True
  | f, c :: r => k * L + c.1 ≤ f ∧ busy L k (f + c.2.2) r
theorem busy_fin {L k : Int} : ∀ {l : List Cal} {f : Int}, busy L k f l → fin L k f l = f + tot l
  | [], f, _ => by show f = f + 0; omega
  | c :: r, f, h => by
    show fin L k (max f (k * L + c.1) + c.2.2) r = f + (c.2.2 + tot r)
    rw [Int.max_eq_left h.1, busy_fin h.2]
    omega
theorem busy_beg {L k : Int} {j d : Int} : ∀ {l : List Cal} {f : Int}, busy L k f l → busy L j (f + d) l → beg L j (f + d) l = (beg L k f l).map (· + d)
  | [], f, _, _ => rfl
  | c :: r, f, h, h2 => by
    show max (f + d) (j * L + c.1) :: beg L j (max (f + d) (j * L + c.1) + c.2.2) r = (max f (k * L + c.1) + d) :: (beg L k (max f (k * L + c.1) + c.2.2) r).map (· + d)
    rw [Int.max_eq_left h.1, Int.max_eq_left h2.1]
    have e : f + d + c.2.2 = f + c.2.2 + d := by omega
    rw [e, busy_beg h.2 (e ▸ h2.2)]
/-- what is ahead of a call in the round: the end of the round is behind it by all work behind -/
theorem fin_at (L k : Int) : ∀ (l : List Cal) (f : Int) (i : Nat) (c : Cal), l[i]? = some c → k * L + c.1 + tot (l.drop i) ≤ fin L k f l
  | c :: r, f, 0, d, e => by
    cases e
    have := fin_ge L k r (max f (k * L + c.1) + c.2.2)
    show k * L + c.1 + (c.2.2 + tot r) ≤ fin L k (max f (k * L + c.1) + c.2.2) r
    omega
  | c :: r, f, i + 1, d, e => fin_at L k r _ i d e
theorem tot_app (a b : List Cal) : tot (a ++ b) = tot a + tot b := by
  induction a with
  | nil => show tot b = 0 + tot b; omega
  | cons c r ih =>
    show c.2.2 + tot (r ++ b) = c.2.2 + tot r + tot b
    rw [ih]
    omega
theorem tot_split (l : List Cal) (i : Nat) : tot (l.take i) + tot (l.drop i) = tot l := by
  rw [← tot_app, List.take_append_drop]
theorem busy_of {L k : Int} : ∀ {l : List Cal} {f : Int}, (∀ (i : Nat) (c : Cal), l[i]? = some c → k * L + c.1 ≤ f + tot (l.take i)) → busy L k f l
  | [], _, _ => trivial
  | c :: r, f, h => by
    refine ⟨?_, busy_of fun i d e => ?_⟩
    · have := h 0 c rfl
      show k * L + c.1 ≤ f
      have z : tot ((c :: r).take 0) = 0 := rfl
      omega
    · have := h (i + 1) d e
      have z : tot ((c :: r).take (i + 1)) = c.2.2 + tot (r.take i) := rfl
      omega
/-- behind round k with more work than hours: round k + 1 has no pause -/
theorem busy_next {L k : Int} {l : List Cal} {f : Int} (h : L ≤ tot l) : busy L (k + 1) (fin L k f l) l := busy_of fun i c e => by
  have a := fin_at L k l f i c e
  have b := tot_split l i
  rw [Int.add_mul]
  omega
/-- from round 1 on all comes later by as much each round -/
theorem fre_step {L : Int} {l : List Cal} (k : Nat) : L ≤ tot l → fre L l (k + 1) = fre L l k + tot l := fun h => by
  cases k with
  | zero => exact busy_fin (busy_next (k := 0) h)
  | succ k => exact busy_fin (busy_next (k := (k + 1 : Nat)) h)
/-- from when on all is as if the press had been free: what it is free from does not matter where it is early enough -/
theorem fin_two (L k : Int) : ∀ (l : List Cal) (f g : Int), f ≤ g → fin L k g l ≤ max (fin L k f l) (g + tot l)
  | [], f, g, h => by show g ≤ max f (g + 0); omega
  | c :: r, f, g, h => by
    have := fin_two L k r (max f (k * L + c.1) + c.2.2) (max g (k * L + c.1) + c.2.2) (by omega)
    have m := fin_mono L k r (f := max f (k * L + c.1) + c.2.2) (g := max f (k * L + c.1) + c.2.2) (Int.le_refl _)
    have ge := fin_ge L k r (max f (k * L + c.1) + c.2.2)
    show fin L k (max g (k * L + c.1) + c.2.2) r ≤ max (fin L k (max f (k * L + c.1) + c.2.2) r) (g + (c.2.2 + tot r))
    by_cases z : g ≤ k * L + c.1
    · have e : max g (k * L + c.1) = max f (k * L + c.1) := by omega
      rw [e]
      omega
    · omega
/-- free no later than at the round's begin: free at its begin -/
theorem fin_early {L k : Int} {l : List Cal} {f g : Int} (ne : l ≠ []) (pos : ∀ c ∈ l, 0 ≤ c.1) (h : f ≤ k * L) (h2 : g ≤ k * L) : fin L k f l = fin L k g l := by
  cases l with
  | nil => exact absurd rfl ne
  | cons c r =>
    have := pos c List.mem_cons_self
    show fin L k (max f (k * L + c.1) + c.2.2) r = fin L k (max g (k * L + c.1) + c.2.2) r
    congr 1
    omega
theorem fre_slow {L : Int} {l : List Cal} (l0 : 0 ≤ L) (ne : l ≠ []) (h : tot l ≤ L) (pos : ∀ c ∈ l, 0 ≤ c.1) : ∀ k : Nat, fre L l (k + 1) = fre L l k + L
  | 0 => by
    have sh : fin L 1 L l = fin L 0 0 l + L := by
      have := fin_shift L 0 0 l 0
      simpa using this
    show fin L ((0 + 1 : Nat) : Int) (fin L 0 0 l) l = fin L 0 0 l + L
    rw [show ((0 + 1 : Nat) : Int) = 1 from rfl]
    by_cases z : fin L 0 0 l ≤ L
    · rw [fin_early (g := L) ne pos (by omega) (by omega)]
      exact sh
    · have a := fin_mono L 1 l (f := L) (g := fin L 0 0 l) (by omega)
      have b := fin_two L 1 l L (fin L 0 0 l) (by omega)
      omega
  | k + 1 => by
    show fin L ((k + 1 + 1 : Nat) : Int) (fre L l (k + 1)) l = fre L l (k + 1) + L
    rw [fre_slow l0 ne h pos k]
    have := fin_shift L ((k + 1 : Nat) : Int) 0 l (fre L l k)
    rw [show ((k + 1 + 1 : Nat) : Int) = ((k + 1 : Nat) : Int) + 1 from by omega, this]
    show fre L l (k + 1) + L = _
    rw [fre_slow l0 ne h pos k]
/-- by how much all is later each round, from round 1 on -/
def stp (L : Int) (l : List Cal) : Int := max L (tot l)
theorem bgs_step {L : Int} {l : List Cal} (l0 : 0 ≤ L) (pos : ∀ c ∈ l, 0 ≤ c.1) (k : Nat) : bgs L l (k + 1 + 1) = (bgs L l (k + 1)).map (· + stp L l) := by
  by_cases ne : l = []
  · subst ne
    rfl
  show beg L ((k + 1 + 1 : Nat) : Int) (fre L l (k + 1)) l = (beg L ((k + 1 : Nat) : Int) (fre L l k) l).map _
  rw [show ((k + 1 + 1 : Nat) : Int) = ((k + 1 : Nat) : Int) + 1 from by omega]
  by_cases h : tot l ≤ L
  · rw [fre_slow l0 ne h pos k, beg_shift]
    congr 1
    funext x
    unfold stp
    omega
  · have b1 : busy L ((k + 1 : Nat) : Int) (fre L l k) l := by
      cases k with
      | zero => exact busy_next (k := 0) (by omega)
      | succ k => exact busy_next (k := (k + 1 : Nat)) (by omega)
    have b2 : busy L (((k + 1 : Nat) : Int) + 1) (fre L l k + tot l) l := by
      have := busy_next (k := ((k + 1 : Nat) : Int)) (l := l) (f := fre L l k) (L := L) (by omega)
      rw [busy_fin b1] at this
      exact this
    rw [fre_step k (by omega), busy_beg b1 b2]
    congr 1
    funext x
    unfold stp
    omega
theorem bgs_on {L : Int} {l : List Cal} (l0 : 0 ≤ L) (pos : ∀ c ∈ l, 0 ≤ c.1) : ∀ k : Nat, bgs L l (k + 1) = (bgs L l 1).map (· + (k : Int) * stp L l)
  | 0 => by simp
  | k + 1 => by
    rw [bgs_step l0 pos k, bgs_on l0 pos k, List.map_map]
    congr 1
    funext x
    show x + (k : Int) * stp L l + stp L l = x + ((k + 1 : Nat) : Int) * stp L l
    rw [show ((k + 1 : Nat) : Int) = (k : Int) + 1 from by omega, Int.add_mul]
    omega

theorem beg_first {L k f : Int} {c : Cal} {r : List Cal} : (beg L k f (c :: r))[0]? = some (max f (k * L + c.1)) := rfl
theorem beg_next {L k : Int} : ∀ {l : List Cal} {f : Int} {i : Nat} {c d : Cal} {b : Int}, l[i]? = some c → l[i + 1]? = some d → (beg L k f l)[i]? = some b → (beg L k f l)[i + 1]? = some (max (b + c.2.2) (k * L + d.1))
  | c :: d :: r, f, 0, _, _, b, e1, e2, e3 => by
    cases e1
    cases e2
    cases e3
    rfl
  | c :: r, f, i + 1, _, _, b, e1, e2, e3 => beg_next (l := r) (i := i) e1 e2 e3
theorem fin_last {L k : Int} : ∀ {l : List Cal} {f : Int} {i : Nat} {c : Cal} {b : Int}, i + 1 = l.length → l[i]? = some c → (beg L k f l)[i]? = some b → fin L k f l = b + c.2.2
  | [c], f, 0, _, b, _, e1, e2 => by
    cases e1
    cases e2
    rfl
  | c :: d :: r, f, i + 1, _, b, e, e1, e2 => fin_last (l := d :: r) (i := i) (by simpa using e) e1 e2
/-- when call j of round k begins -/
def bAt (L : Int) (l : List Cal) (k : Nat) (j : Nat) : Int := ((bgs L l k)[j]?).getD 0
theorem bAt_some {L : Int} {l : List Cal} {k j : Nat} (h : j < l.length) : (bgs L l k)[j]? = some (bAt L l k j) := by
  have lt : j < (bgs L l k).length := by rw [bgs_len]; exact h
  unfold bAt
  rw [List.getElem?_eq_getElem lt]
  rfl
theorem bAt_on {L : Int} {l : List Cal} (l0 : 0 ≤ L) (pos : ∀ c ∈ l, 0 ≤ c.1) {k j : Nat} (h : j < l.length) : bAt L l (k + 1) j = bAt L l 1 j + (k : Int) * stp L l := by
  have e := bAt_some (L := L) (k := k + 1) h
  rw [bgs_on l0 pos k, List.getElem?_map, bAt_some (k := 1) h] at e
  exact (Option.some.inj e).symm
theorem bAt_next {L : Int} {l : List Cal} {k j : Nat} {c d : Cal} (e1 : l[j]? = some c) (e2 : l[j + 1]? = some d) : bAt L l k (j + 1) = max (bAt L l k j + c.2.2) (k * L + d.1) := by
  have lt := (List.getElem?_eq_some_iff.mp e2).1
  have a := bAt_some (L := L) (k := k) (j := j) (l := l) (by omega)
  have b := bAt_some (L := L) (k := k) lt
  have key : (bgs L l k)[j + 1]? = some (max (bAt L l k j + c.2.2) (k * L + d.1)) := by
    cases k with
    | zero => exact beg_next e1 e2 a
    | succ k => exact beg_next e1 e2 a
  rw [key] at b
  exact (Option.some.inj b).symm
theorem bAt_zero {L : Int} {l : List Cal} {c : Cal} (e : l[0]? = some c) : bAt L l 0 0 = max 0 (0 * L + c.1) := by
  cases l with
  | nil => cases e
  | cons d r =>
    cases e
    rfl
/-- the first call of a later round begins when the last one ahead has ended -/
theorem bAt_first {L : Int} {l : List Cal} {k n : Nat} {c d : Cal} (e : l[0]? = some c) (en : n + 1 = l.length) (ed : l[n]? = some d) : bAt L l (k + 1) 0 = max (bAt L l k n + d.2.2) ((k + 1 : Nat) * L + c.1) := by
  have lt : n < l.length := by omega
  have a := bAt_some (L := L) (k := k) lt
  have f : fre L l k = bAt L l k n + d.2.2 := by
    cases k with
    | zero => exact fin_last en ed a
    | succ k => exact fin_last en ed a
  cases l with
  | nil => cases e
  | cons c' r =>
    cases e
    show (some (max (fre L (c :: r) k) (((k + 1 : Nat) : Int) * L + c.1))).getD 0 = _
    rw [f]
    rfl
theorem tot_sum (l : List Cal) : (l.map fun c => c.2.2).sum = tot l := by
  induction l with
  | nil => rfl
  | cons c r ih =>
    rw [List.map_cons, List.sum_cons, ih]
    rfl
theorem stp_eq (L : Int) (l : List Cal) : (if tot l > L then tot l else L) = stp L l := by
  unfold stp
  split <;> omega
theorem fin_take {L k : Int} : ∀ {l : List Cal} {f : Int} {i : Nat} {c : Cal}, l[i]? = some c → fin L k f (l.take (i + 1)) = max (fin L k f (l.take i)) (k * L + c.1) + c.2.2
  | c :: r, f, 0, _, e => by
    cases e
    rfl
  | c :: r, f, i + 1, d, e => by
    show fin L k _ (r.take (i + 1)) = max (fin L k _ (r.take i)) _ + _
    exact fin_take e
theorem beg_take {L k : Int} : ∀ {l : List Cal} {f : Int} {i : Nat} {c : Cal}, l[i]? = some c → (beg L k f l)[i]? = some (max (fin L k f (l.take i)) (k * L + c.1))
  | c :: r, f, 0, _, e => by
    cases e
    rfl
  | c :: r, f, i + 1, d, e => by
    show (beg L k _ r)[i]? = some (max (fin L k _ (r.take i)) _)
    exact beg_take e
/-- what is free, what began, behind so many rounds -/
def freK (L : Int) (l : List Cal) : Nat → Int
  | 0 => 0
  | k + 1 => fre L l k
theorem freK_fin (L : Int) (l : List Cal) (k : Nat) : fin L k (freK L l k) l = freK L l (k + 1) := by
  cases k <;> rfl
theorem freK_beg (L : Int) (l : List Cal) (k : Nat) : beg L k (freK L l k) l = bgs L l k := by
  cases k <;> rfl
def accK (L : Int) (l : List Cal) : Nat → List Int
  | 0 => []
  | k + 1 => accK L l k ++ bgs L l k
theorem mx_eq (i j : Int) : (if j > i then j else i) = max i j := by
  split <;> omega
theorem take_snoc {α : Type} {l : List α} {i : Nat} {c : α} (h : l[i]? = some c) : l.take (i + 1) = l.take i ++ [c] := by
  rw [List.take_add_one, h]
  rfl
theorem beg_bd {L k : Int} : ∀ {l : List Cal} {f b : Int}, (∀ c ∈ l, 0 ≤ c.2.2 ∧ k * L + c.1 ≤ b) → f ≤ b → (∀ x ∈ beg L k f l, f ≤ x ∧ x ≤ b + tot l) ∧ f ≤ fin L k f l ∧ fin L k f l ≤ b + tot l
  | [], f, b, _, h => ⟨fun x hx => absurd hx List.not_mem_nil, Int.le_refl _, by show f ≤ b + 0; omega⟩
  | c :: r, f, b, hc, h => by
    have a := hc c List.mem_cons_self
    have tr := tot_pos (l := r) fun d hd => (hc d (List.mem_cons_of_mem _ hd)).1
    have ih := beg_bd (L := L) (k := k) (l := r) (f := max f (k * L + c.1) + c.2.2) (b := b + c.2.2) (fun d hd => by
      have := hc d (List.mem_cons_of_mem _ hd)
      omega) (by omega)
    have et : tot (c :: r) = c.2.2 + tot r := rfl
    refine ⟨fun x hx => ?_, ?_, ?_⟩
    · rcases List.mem_cons.mp (show x ∈ max f (k * L + c.1) :: beg L k (max f (k * L + c.1) + c.2.2) r from hx) with rfl | hx
      · omega
      · have := ih.1 x hx
        omega
    · show f ≤ fin L k (max f (k * L + c.1) + c.2.2) r
      have := ih.2.1
      omega
    · show fin L k (max f (k * L + c.1) + c.2.2) r ≤ _
      have := ih.2.2
      omega
end Rm

/-! ### rounds: what is on the press -/
namespace Rm
def cl (l : List Cal) (j : Nat) : Cal := (l[j]?).getD (0, "", 0)
theorem cl_eq {l : List Cal} {j : Nat} {c : Cal} (e : l[j]? = some c) : cl l j = c := by
  unfold cl
  rw [e]
  rfl
theorem cl_at {l : List Cal} {j : Nat} (h : j < l.length) : l[j]? = some (cl l j) := by
  unfold cl
  rw [List.getElem?_eq_getElem h]
  rfl
/-- rounds whose calls may be made -/
structure Okr (L : Int) (l : List Cal) : Prop where
  L1 : 1 ≤ L
  all : ∀ j, j < l.length → 0 ≤ (cl l j).1 ∧ (cl l j).1 < L ∧ 1 ≤ (cl l j).2.2
  up : ∀ i, i + 1 < l.length → (cl l i).1 ≤ (cl l (i + 1)).1
namespace Okr
variable {L : Int} {l : List Cal}
theorem pos (o : Okr L l) : ∀ c ∈ l, 0 ≤ c.1 := fun c hc => by
  obtain ⟨j, hj, e⟩ := List.getElem_of_mem hc
  have := (o.all j hj).1
  rw [cl_eq (List.getElem?_eq_getElem hj), e] at this
  exact this
theorem next (o : Okr L l) {k j : Nat} (h : j + 1 < l.length) : bAt L l k (j + 1) = max (bAt L l k j + (cl l j).2.2) (k * L + (cl l (j + 1)).1) := bAt_next (cl_at (by omega)) (cl_at h)
theorem same (o : Okr L l) {k i : Nat} : ∀ d, i + d + 1 < l.length → bAt L l k i + (cl l i).2.2 ≤ bAt L l k (i + d + 1)
  | 0, h => by
    rw [Nat.add_zero, o.next (by omega)]
    omega
  | d + 1, h => by
    have ih := o.same (k := k) (i := i) d (by omega)
    have a := (o.all (i + d + 1) (by omega)).2.2
    rw [show i + (d + 1) + 1 = (i + d + 1) + 1 from by omega, o.next (by omega)]
    omega
theorem last (o : Okr L l) {k j : Nat} (h : j < l.length) : bAt L l k j + (cl l j).2.2 ≤ bAt L l (k + 1) 0 := by
  obtain ⟨n, en⟩ : ∃ n, n + 1 = l.length := ⟨l.length - 1, by omega⟩
  rw [bAt_first (cl_at (by omega)) en (cl_at (by omega))]
  by_cases z : j = n
  · subst z
    omega
  · have s := o.same (k := k) (i := j) (n - j - 1) (by omega)
    rw [show j + (n - j - 1) + 1 = n from by omega] at s
    have a := (o.all n (by omega)).2.2
    omega
theorem zero (o : Okr L l) {k j : Nat} (h : j < l.length) : bAt L l k 0 ≤ bAt L l k j := by
  cases j with
  | zero => exact Int.le_refl _
  | succ j =>
    have s := o.same (k := k) (i := 0) j (by omega)
    rw [show 0 + j + 1 = j + 1 from by omega] at s
    have a := (o.all 0 (by omega)).2.2
    omega
theorem later (o : Okr L l) {k j i : Nat} (h : j < l.length) (h2 : i < l.length) : ∀ d, bAt L l k j + (cl l j).2.2 ≤ bAt L l (k + d + 1) i
  | 0 => Int.le_trans (o.last h) (o.zero h2)
  | d + 1 => by
    have a := o.later h h2 (k := k) d
    have b := o.last (k := k + d + 1) h2
    have c := o.zero (k := k + (d + 1) + 1) h2
    have p := (o.all i h2).2.2
    rw [show k + (d + 1) + 1 = k + d + 1 + 1 from by omega] at *
    omega
/-- one behind the other -/
theorem lt (o : Okr L l) {k j k2 j2 : Nat} (h : j < l.length) (h2 : j2 < l.length) (c : k < k2 ∨ (k = k2 ∧ j < j2)) : bAt L l k j + (cl l j).2.2 ≤ bAt L l k2 j2 := by
  rcases c with c | ⟨rfl, c⟩
  · have a := o.later h h2 (k := k) (k2 - k - 1)
    rwa [show k + (k2 - k - 1) + 1 = k2 from by omega] at a
  · have a := o.same (k := k) (i := j) (j2 - j - 1) (by omega)
    rwa [show j + (j2 - j - 1) + 1 = j2 from by omega] at a
theorem stp1 (o : Okr L l) : 1 ≤ stp L l := by
  have := o.L1
  unfold stp
  omega
/-- a call comes no later than it begins -/
theorem come (o : Okr L l) {k j : Nat} (h : j < l.length) : k * L + (cl l j).1 ≤ bAt L l k j := by
  have b : ∀ {l : List Cal} {f : Int} {j : Nat} {c : Cal} {x : Int}, l[j]? = some c → (beg L k f l)[j]? = some x → k * L + c.1 ≤ x := by
    intro l
    induction l with
    | nil => intro f j c x e; simp at e
    | cons d r ih =>
      intro f j c x e e2
      cases j with
      | zero =>
        cases e
        cases e2
        omega
      | succ j => exact ih (f := max f (k * L + d.1) + d.2.2) (by simpa using e) (by simpa [beg] using e2)
  have e := bAt_some (L := L) (k := k) h
  cases k with
  | zero => exact b (cl_at h) e
  | succ k => exact b (cl_at h) e
end Okr
/-- how many times a call has begun at an hour -/
def bgn (L : Int) (l : List Cal) (j : Nat) (h : Int) : Int := if h < bAt L l 0 j then 0 else if h < bAt L l 1 j then 1 else 2 + (h - bAt L l 1 j) / stp L l
theorem bgn_is {L : Int} {l : List Cal} (o : Okr L l) {j : Nat} (hj : j < l.length) (h : Int) : ∃ n : Nat, bgn L l j h = n ∧ (∀ k, k < n → bAt L l k j ≤ h) ∧ ∀ k, n ≤ k → h < bAt L l k j := by
  have mono : ∀ k k2, k < k2 → bAt L l k j < bAt L l k2 j := fun k k2 c => by
    have := o.lt (k := k) (k2 := k2) hj hj (.inl c)
    have := (o.all j hj).2.2
    omega
  have mono2 : ∀ k k2, k ≤ k2 → bAt L l k j ≤ bAt L l k2 j := fun k k2 c => by
    by_cases z : k = k2
    · rw [z]; exact Int.le_refl _
    · exact Int.le_of_lt (mono k k2 (by omega))
  unfold bgn
  by_cases a : h < bAt L l 0 j
  · rw [if_pos a]
    exact ⟨0, rfl, fun k hk => absurd hk (Nat.not_lt_zero k), fun k _ => Int.lt_of_lt_of_le a (mono2 0 k (Nat.zero_le _))⟩
  · rw [if_neg a]
    by_cases b : h < bAt L l 1 j
    · rw [if_pos b]
      refine ⟨1, rfl, fun k hk => ?_, fun k hk => Int.lt_of_lt_of_le b (mono2 1 k hk)⟩
      obtain rfl : k = 0 := by omega
      omega
    · rw [if_neg b]
      have st := o.stp1
      have d0 : 0 ≤ (h - bAt L l 1 j) / stp L l := Int.ediv_nonneg (by omega) (by omega)
      obtain ⟨m, em⟩ : ∃ m : Nat, (h - bAt L l 1 j) / stp L l = m := ⟨_, (Int.toNat_of_nonneg d0).symm⟩
      rw [em]
      have e1 : stp L l * m ≤ h - bAt L l 1 j := by
        rw [← em]
        exact Int.mul_ediv_self_le (by omega)
      have e2 : h - bAt L l 1 j < stp L l * (m + 1) := by
        rw [← em]
        have := Int.lt_mul_ediv_self_add (x := h - bAt L l 1 j) (k := stp L l) (by omega)
        rw [Int.mul_add, Int.mul_one]
        exact this
      refine ⟨m + 2, by omega, fun k hk => ?_, fun k hk => ?_⟩
      · refine Int.le_trans (mono2 k (m + 1) (by omega)) ?_
        rw [bAt_on (by have := o.L1; omega) o.pos hj, Int.mul_comm]
        omega
      · refine Int.lt_of_lt_of_le ?_ (mono2 (m + 2) k hk)
        rw [show m + 2 = (m + 1) + 1 from rfl, bAt_on (by have := o.L1; omega) o.pos hj, Int.mul_comm, show (((m + 1 : Nat) : Int)) = (m : Int) + 1 from rfl]
        omega
/-- call j of round k is on the press at h -/
def onp (L : Int) (l : List Cal) (k j : Nat) (h : Int) : Prop := bAt L l k j ≤ h ∧ h < bAt L l k j + (cl l j).2.2
theorem onp_one {L : Int} {l : List Cal} (o : Okr L l) {k j k2 j2 : Nat} {h : Int} (hj : j < l.length) (hj2 : j2 < l.length) (a : onp L l k j h) (b : onp L l k2 j2 h) : k = k2 ∧ j = j2 := by
  obtain ⟨a1, a2⟩ := a
  obtain ⟨b1, b2⟩ := b
  by_cases c : k < k2 ∨ (k = k2 ∧ j < j2)
  · have := o.lt hj hj2 c
    omega
  · by_cases d : k2 < k ∨ (k2 = k ∧ j2 < j)
    · have := o.lt hj2 hj d
      omega
    · omega
/-- what is on the press -/
def atF (L : Int) (l : List Cal) (h : Int) : Option (Nat × Nat) := ((List.range l.length).find? fun j => decide (bgn L l j (h - (cl l j).2.2) < bgn L l j h)).map fun j => ((bgn L l j (h - (cl l j).2.2)).toNat, j)
theorem bgn_onp {L : Int} {l : List Cal} (o : Okr L l) {j : Nat} (hj : j < l.length) {h : Int} (c : bgn L l j (h - (cl l j).2.2) < bgn L l j h) : onp L l (bgn L l j (h - (cl l j).2.2)).toNat j h ∧ bgn L l j (h - (cl l j).2.2) = ((bgn L l j (h - (cl l j).2.2)).toNat : Nat) := by
  obtain ⟨n, en, n1, n2⟩ := bgn_is o hj h
  obtain ⟨m, em, m1, m2⟩ := bgn_is o hj (h - (cl l j).2.2)
  rw [en, em] at c
  rw [em, Int.toNat_natCast]
  refine ⟨⟨n1 m (by omega), ?_⟩, rfl⟩
  have := m2 m (Nat.le_refl _)
  omega
theorem onp_bgn {L : Int} {l : List Cal} (o : Okr L l) {k j : Nat} (hj : j < l.length) {h : Int} (c : onp L l k j h) : bgn L l j (h - (cl l j).2.2) = k ∧ (k : Int) < bgn L l j h := by
  obtain ⟨n, en, n1, n2⟩ := bgn_is o hj h
  obtain ⟨m, em, m1, m2⟩ := bgn_is o hj (h - (cl l j).2.2)
  rw [en, em]
  have a : m ≤ k := by
    by_cases z : m ≤ k
    · exact z
    · have := m1 k (by omega)
      have := c.2
      omega
  have b : k ≤ m := by
    by_cases z : k ≤ m
    · exact z
    · have := m2 m (Nat.le_refl _)
      have := o.lt (k := m) (k2 := k) hj hj (.inl (by omega))
      have := c.1
      omega
  have d : k < n := by
    by_cases z : k < n
    · exact z
    · have := n2 k (by omega)
      have := c.1
      omega
  omega
theorem atF_some {L : Int} {l : List Cal} (o : Okr L l) {k j : Nat} {h : Int} (e : atF L l h = some (k, j)) : j < l.length ∧ onp L l k j h := by
  unfold atF at e
  rw [Option.map_eq_some_iff] at e
  obtain ⟨i, ei, e⟩ := e
  simp only [Prod.mk.injEq] at e
  obtain ⟨rfl, rfl⟩ := e
  have hi : i < l.length := List.mem_range.mp (List.mem_of_find?_eq_some ei)
  have c := List.find?_some ei
  exact ⟨hi, (bgn_onp o hi (by simpa using c)).1⟩
theorem atF_none {L : Int} {l : List Cal} (o : Okr L l) {h : Int} (e : atF L l h = none) {k j : Nat} (hj : j < l.length) : ¬ onp L l k j h := fun c => by
  unfold atF at e
  rw [Option.map_eq_none_iff, List.find?_eq_none] at e
  have := e j (List.mem_range.mpr hj)
  obtain ⟨a, b⟩ := onp_bgn o hj c
  simp only [decide_eq_true_eq] at this
  omega
theorem atF_is {L : Int} {l : List Cal} (o : Okr L l) {h : Int} {k j : Nat} (hj : j < l.length) (c : onp L l k j h) : atF L l h = some (k, j) := by
  cases e : atF L l h with
  | none => exact absurd c (atF_none o e hj)
  | some x =>
    obtain ⟨k2, j2⟩ := x
    obtain ⟨h2, c2⟩ := atF_some o e
    obtain ⟨rfl, rfl⟩ := onp_one o hj h2 c c2
    rfl
/-- where nothing is on the press, all that has come is done -/
theorem idle_end {L : Int} {l : List Cal} (o : Okr L l) {h : Int} (h0 : 0 ≤ h) (no : ∀ (k j : Nat), j < l.length → ¬ onp L l k j h) : ∀ (k j : Nat), j < l.length → (k : Int) * L + (cl l j).1 ≤ h → bAt L l k j + (cl l j).2.2 ≤ h := by
  have fin : ∀ k j : Nat, j < l.length → bAt L l k j ≤ h → bAt L l k j + (cl l j).2.2 ≤ h := fun k j hj a => by
    have := no k j hj
    unfold onp at this
    omega
  have row : ∀ k : Nat, (∀ j, 0 < l.length → j = 0 → (k : Int) * L + (cl l 0).1 ≤ h → bAt L l k 0 ≤ h) → ∀ j, j < l.length → (k : Int) * L + (cl l j).1 ≤ h → bAt L l k j ≤ h := by
    intro k z j
    induction j with
    | zero => exact fun hj c => z 0 hj rfl c
    | succ j ih =>
      intro hj c
      have u := o.up j hj
      have a := fin k j (by omega) (ih (by omega) (by omega))
      rw [o.next hj]
      omega
  intro k
  induction k with
  | zero =>
    intro j hj c
    refine fin 0 j hj (row 0 (fun _ hl _ c => ?_) j hj c)
    rw [bAt_zero (cl_at hl)]
    simp only [Int.natCast_zero, Int.zero_mul] at c ⊢
    omega
  | succ k ih =>
    intro j hj c
    refine fin (k + 1) j hj (row (k + 1) (fun _ hl _ c => ?_) j hj c)
    obtain ⟨n, en⟩ : ∃ n, n + 1 = l.length := ⟨l.length - 1, by omega⟩
    rw [bAt_first (cl_at hl) en (cl_at (by omega))]
    have a := o.all n (by omega)
    have b := o.all 0 hl
    have e : ((k + 1 : Nat) : Int) * L = k * L + L := by
      rw [show ((k + 1 : Nat) : Int) = (k : Int) + 1 from rfl, Int.add_mul, Int.one_mul]
    have := ih n (by omega) (by omega)
    omega
end Rm

/-! ### rounds: what has come, is done, waits -/
namespace Rm
/-- a sum over the first n numbers -/
def sm (f : Nat → Int) : Nat → Int
  | 0 => 0
  | n + 1 => sm f n + f n
theorem sm_eq {f g : Nat → Int} : ∀ {n : Nat}, (∀ k, k < n → f k = g k) → sm f n = sm g n
  | 0, _ => rfl
  | n + 1, h => by
    show sm f n + f n = sm g n + g n
    rw [sm_eq fun k hk => h k (by omega), h n (by omega)]
theorem sm_zero {f : Nat → Int} : ∀ {n : Nat}, (∀ k, k < n → f k = 0) → sm f n = 0
  | 0, _ => rfl
  | n + 1, h => by
    show sm f n + f n = 0
    rw [sm_zero fun k hk => h k (by omega), h n (by omega)]
    rfl
theorem sm_add {f g : Nat → Int} : ∀ n : Nat, sm (fun k => f k + g k) n = sm f n + sm g n
  | 0 => rfl
  | n + 1 => by
    show sm (fun k => f k + g k) n + (f n + g n) = (sm f n + f n) + (sm g n + g n)
    rw [sm_add n]
    omega
theorem sm_sub {f g : Nat → Int} : ∀ n : Nat, sm (fun k => f k - g k) n = sm f n - sm g n
  | 0 => rfl
  | n + 1 => by
    show sm (fun k => f k - g k) n + (f n - g n) = (sm f n + f n) - (sm g n + g n)
    rw [sm_sub n]
    omega
theorem sm_mul {f : Nat → Int} {c : Int} : ∀ n : Nat, sm (fun k => f k * c) n = sm f n * c
  | 0 => by
    show (0 : Int) = 0 * c
    rw [Int.zero_mul]
  | n + 1 => by
    show sm (fun k => f k * c) n + f n * c = (sm f n + f n) * c
    rw [sm_mul n, Int.add_mul]
theorem sm_const {c : Int} : ∀ n : Nat, sm (fun _ => c) n = n * c
  | 0 => by
    show (0 : Int) = ((0 : Nat) : Int) * c
    simp
  | n + 1 => by
    show sm (fun _ => c) n + c = ((n + 1 : Nat) : Int) * c
    rw [sm_const n, show ((n + 1 : Nat) : Int) = (n : Int) + 1 from rfl, Int.add_mul, Int.one_mul]
theorem sm_swap {f : Nat → Nat → Int} {m : Nat} : ∀ n : Nat, sm (fun k => sm (fun j => f k j) m) n = sm (fun j => sm (fun k => f k j) n) m
  | 0 => by
    show (0 : Int) = sm (fun j => 0) m
    rw [sm_zero fun _ _ => rfl]
  | n + 1 => by
    show sm (fun k => sm (fun j => f k j) m) n + sm (fun j => f n j) m = sm (fun j => sm (fun k => f k j) n + f n j) m
    rw [sm_swap n, ← sm_add]
theorem sm_app {f : Nat → Int} {n : Nat} : ∀ m : Nat, sm f (n + m) = sm f n + sm (fun k => f (n + k)) m
  | 0 => by
    show sm f n = sm f n + 0
    omega
  | m + 1 => by
    show sm f (n + m) + f (n + m) = sm f n + (sm (fun k => f (n + k)) m + f (n + m))
    rw [sm_app m]
    omega
theorem sm_nonneg {f : Nat → Int} : ∀ {n : Nat}, (∀ k, k < n → 0 ≤ f k) → 0 ≤ sm f n
  | 0, _ => Int.le_refl _
  | n + 1, h => by
    show 0 ≤ sm f n + f n
    have := sm_nonneg (f := f) (n := n) fun k hk => h k (by omega)
    have := h n (by omega)
    omega
theorem sm_le {f g : Nat → Int} : ∀ {n : Nat}, (∀ k, k < n → f k ≤ g k) → sm f n ≤ sm g n
  | 0, _ => Int.le_refl _
  | n + 1, h => by
    show sm f n + f n ≤ sm g n + g n
    have := sm_le (f := f) (g := g) (n := n) fun k hk => h k (by omega)
    have := h n (by omega)
    omega
theorem sm_first {f : Nat → Int} (n : Nat) : sm f (n + 1) = f 0 + sm (fun k => f (k + 1)) n := by
  rw [Nat.add_comm, sm_app]
  show (0 + f 0) + _ = _
  rw [Int.zero_add]
  congr 1
  exact sm_eq fun k _ => by rw [Nat.add_comm]
theorem sm_list {α : Type} {f : α → Int} : ∀ (xs : List α) (d : α), (xs.map f).sum = sm (fun j => f ((xs[j]?).getD d)) xs.length
  | [], _ => rfl
  | x :: xs, d => by
    rw [List.map_cons, List.sum_cons, sm_list xs d, List.length_cons, sm_first]
    rfl
theorem sum_filter {α : Type} {p : α → Bool} {v : α → Int} : ∀ xs : List α, ((xs.filter p).map v).sum = (xs.map fun x => if p x then v x else 0).sum
  | [] => rfl
  | x :: xs => by
    rw [List.map_cons, List.sum_cons, ← sum_filter xs]
    by_cases h : p x = true
    · rw [List.filter_cons_of_pos h, List.map_cons, List.sum_cons, if_pos h]
    · rw [List.filter_cons_of_neg h, if_neg h, Int.zero_add]
theorem len_filter {α : Type} {p : α → Bool} : ∀ xs : List α, ((xs.filter p).length : Int) = (xs.map fun x => if p x then (1 : Int) else 0).sum
  | [] => rfl
  | x :: xs => by
    rw [List.map_cons, List.sum_cons, ← len_filter xs]
    by_cases h : p x = true
    · rw [List.filter_cons_of_pos h, if_pos h, List.length_cons]
      omega
    · rw [List.filter_cons_of_neg h, if_neg h, Int.zero_add]
theorem tot_sm (l : List Cal) : tot l = sm (fun j => (cl l j).2.2) l.length := by
  rw [← tot_sum, sm_list l (0, "", 0)]
  rfl
/-- between nought and w -/
def clp (w x : Int) : Int := max 0 (min w x)
/-- how many times a call has come -/
def cme (L : Int) (l : List Cal) (j : Nat) (h : Int) : Int := (h - (cl l j).1) / L + 1
/-- how many times it has ended -/
def nde (L : Int) (l : List Cal) (j : Nat) (h : Int) : Int := bgn L l j (h - (cl l j).2.2)
/-- the hours done for it -/
def dn1 (L : Int) (l : List Cal) (j : Nat) (h : Int) : Int :=
  if bgn L l j h = nde L l j h then nde L l j h * (cl l j).2.2 else nde L l j h * (cl l j).2.2 + h - bAt L l (nde L l j h).toNat j
/-- the hours done -/
def dnA (L : Int) (l : List Cal) (h : Int) : Int := sm (fun j => dn1 L l j h) l.length
/-- the hours come -/
def cmA (L : Int) (l : List Cal) (h : Int) : Int := sm (fun j => cme L l j h * (cl l j).2.2) l.length
/-- the hours that wait -/
def wtn (L : Int) (l : List Cal) (h : Int) : Int := cmA L l h - dnA L l h
/-- the calls that wait, or are at the press -/
def hmn (L : Int) (l : List Cal) (h : Int) : Int := sm (fun j => cme L l j h - nde L l j h) l.length
/-- the idle hours -/
def idl (L : Int) (l : List Cal) (h : Int) : Int := h - dnA L l h

theorem sm_ind {a n : Nat} {p : Nat → Prop} [DecidablePred p] (an : a ≤ n) (h : ∀ k, k < n → (p k ↔ k < a)) : sm (fun k => if p k then 1 else 0) n = a := by
  obtain ⟨m, rfl⟩ : ∃ m, n = a + m := ⟨n - a, by omega⟩
  rw [sm_app, sm_eq (g := fun _ => 1) fun k hk => if_pos ((h k (by omega)).mpr hk), sm_const,
    sm_zero fun k hk => if_neg fun z => by have := (h (a + k) (by omega)).mp z; omega]
  omega
section
variable {L : Int} {l : List Cal}
theorem cme_is (o : Okr L l) {j : Nat} (hj : j < l.length) {h : Int} (h0 : 0 ≤ h) : ∃ n : Nat, cme L l j h = n ∧ ∀ k : Nat, (k : Int) * L + (cl l j).1 ≤ h ↔ k < n := by
  have l1 := o.1
  obtain ⟨c0, c1, _⟩ := o.all j hj
  have dm := Int.emod_add_mul_ediv (h - (cl l j).1) L
  have m0 := Int.emod_nonneg (h - (cl l j).1) (show L ≠ 0 by omega)
  have m1 := Int.emod_lt_of_pos (h - (cl l j).1) (show 0 < L by omega)
  obtain ⟨q, eq⟩ : ∃ q, (h - (cl l j).1) / L = q := ⟨_, rfl⟩
  rw [eq] at dm
  have q1 : -1 ≤ q := by
    by_cases z : -1 ≤ q
    · exact z
    · have : L * q ≤ L * (-2) := Int.mul_le_mul_of_nonneg_left (by omega) (by omega)
      omega
  refine ⟨(q + 1).toNat, by unfold cme; rw [eq]; omega, fun k => ?_⟩
  constructor
  · intro a
    by_cases z : (k : Int) ≤ q
    · omega
    · have : L * (q + 1) ≤ L * (k : Int) := Int.mul_le_mul_of_nonneg_left (by omega) (by omega)
      rw [Int.mul_add, Int.mul_one, Int.mul_comm L k] at this
      omega
  · intro a
    have : L * (k : Int) ≤ L * q := Int.mul_le_mul_of_nonneg_left (by omega) (by omega)
    rw [Int.mul_comm L k] at this
    omega
theorem cme_sm (o : Okr L l) {j : Nat} (hj : j < l.length) {h : Int} (h0 : 0 ≤ h) {n : Nat} (hn : h < n * L) : cme L l j h = sm (fun k => if (k : Int) * L + (cl l j).1 ≤ h then 1 else 0) n := by
  obtain ⟨m, e, hm⟩ := cme_is o hj h0
  obtain ⟨c0, c1, _⟩ := o.all j hj
  rw [e, sm_ind (a := m) (p := fun k => (k : Int) * L + (cl l j).1 ≤ h) ?_ fun k _ => hm k]
  by_cases z : m ≤ n
  · exact z
  · have := (hm n).mpr (by omega)
    omega
theorem nde_sm (o : Okr L l) {j : Nat} (hj : j < l.length) {h : Int} {n : Nat} (hn : h < n * L) : nde L l j h = sm (fun k => if bAt L l k j + (cl l j).2.2 ≤ h then 1 else 0) n := by
  obtain ⟨m, e, a, b⟩ := bgn_is o hj (h - (cl l j).2.2)
  obtain ⟨c0, c1, c2⟩ := o.all j hj
  unfold nde
  rw [e, sm_ind (a := m) (p := fun k => bAt L l k j + (cl l j).2.2 ≤ h) ?_ fun k _ => ⟨fun z => ?_, fun z => ?_⟩]
  · by_cases z : m ≤ n
    · exact z
    · have := a n (by omega)
      have := o.come (k := n) hj
      omega
  · by_cases q : k < m
    · exact q
    · have := b k (by omega)
      omega
  · have := a k z
    omega
theorem dn1_sm (o : Okr L l) {j : Nat} (hj : j < l.length) {h : Int} {n : Nat} (hn : h ≤ n * L) : dn1 L l j h = sm (fun k => clp (cl l j).2.2 (h - bAt L l k j)) n := by
  obtain ⟨m, e, a, b⟩ := bgn_is o hj (h - (cl l j).2.2)
  obtain ⟨m2, e2, a2, b2⟩ := bgn_is o hj h
  obtain ⟨c0, c1, c2⟩ := o.all j hj
  have mn : m ≤ n := by
    by_cases z : m ≤ n
    · exact z
    · have := a n (by omega)
      have := o.come (k := n) hj
      omega
  obtain ⟨d, rfl⟩ : ∃ d, n = m + d := ⟨n - m, by omega⟩
  unfold dn1 nde
  rw [e, e2, sm_app, sm_eq (g := fun _ => (cl l j).2.2) (n := m) fun k hk => by have := a k hk; unfold clp; omega, sm_const]
  have lat : ∀ k, m < k → h < bAt L l k j := fun k hk => by
    have := b m (Nat.le_refl _)
    have := o.lt (k := m) (k2 := k) hj hj (.inl hk)
    omega
  have m2m : m ≤ m2 := by
    by_cases z : m ≤ m2
    · exact z
    · have := a m2 (by omega)
      have := b2 m2 (Nat.le_refl _)
      omega
  by_cases q : m2 = m
  · subst q
    rw [if_pos rfl, sm_zero fun k _ => by have := b2 (m2 + k) (by omega); unfold clp; omega]
    omega
  · rw [if_neg (by omega), Int.toNat_natCast]
    have am := a2 m (by omega)
    have bm := b m (Nat.le_refl _)
    by_cases z : d = 0
    · subst z
      have := o.come (k := m) hj
      rw [Nat.add_zero] at hn
      show _ = _ + (0 : Int)
      omega
    obtain ⟨d, rfl⟩ : ∃ d', d = d' + 1 := ⟨d - 1, by omega⟩
    rw [sm_first, sm_zero fun k _ => by have := lat (m + (k + 1)) (by omega); unfold clp; omega]
    show _ = (m : Int) * _ + (clp _ (h - bAt L l (m + 0) j) + 0)
    rw [Nat.add_zero]
    unfold clp
    omega
end
end Rm

namespace Rm
section
variable {L : Int} {l : List Cal}
theorem cme_rest (o : Okr L l) {j : Nat} (hj : j < l.length) (h : Int) : cme L l j h = h / L + if (cl l j).1 ≤ h % L then 1 else 0 := by
  have l1 := o.1
  obtain ⟨c0, c1, _⟩ := o.all j hj
  have m0 := Int.emod_nonneg h (show L ≠ 0 by omega)
  have m1 := Int.emod_lt_of_pos h (show 0 < L by omega)
  have dm := Int.emod_add_mul_ediv h L
  unfold cme
  have e : h - (cl l j).1 = (h % L - (cl l j).1) + (h / L) * L := by
    rw [Int.mul_comm]
    omega
  rw [e, Int.add_mul_ediv_right _ _ (by omega)]
  split
  · rw [Int.ediv_eq_zero_of_lt (by omega) (by omega)]
    omega
  · have : (h % L - (cl l j).1) / L = -1 := by
      have e2 : h % L - (cl l j).1 = (h % L - (cl l j).1 + L) + (-1) * L := by omega
      rw [e2, Int.add_mul_ediv_right _ _ (by omega), Int.ediv_eq_zero_of_lt (by omega) (by omega)]
      omega
    omega
theorem cmA_rest (o : Okr L l) (h : Int) : cmA L l h = (h / L) * tot l + sm (fun j => if (cl l j).1 ≤ h % L then (cl l j).2.2 else 0) l.length := by
  unfold cmA
  rw [tot_sm, Int.mul_comm, ← sm_mul, ← sm_add]
  refine sm_eq fun j hj => ?_
  show cme L l j h * _ = _
  rw [cme_rest o hj, Int.add_mul, Int.mul_comm]
  split <;> simp
/-- where a call is at the press -/
theorem nde_on (o : Okr L l) {t j : Nat} (hj : j < l.length) {h : Int} (c : onp L l t j h) {i : Nat} (hi : i < l.length) : nde L l i h = t + if i < j then 1 else 0 := by
  obtain ⟨m, e, a, b⟩ := bgn_is o hi (h - (cl l i).2.2)
  obtain ⟨c1, c2⟩ := c
  unfold nde
  rw [e]
  have w := (o.all i hi).2.2
  split
  · rename_i ij
    have x := o.lt (k := t) (k2 := t) hi hj (.inr ⟨rfl, ij⟩)
    have y := o.lt (k := t) (k2 := t + 1) hj hi (.inl (by omega))
    have : m = t + 1 := by
      by_cases z : m < t + 1
      · have := b t (by omega)
        omega
      · by_cases z2 : t + 1 < m
        · have := a (t + 1) z2
          omega
        · omega
    omega
  · rename_i ij
    have x : h < bAt L l t i + (cl l i).2.2 := by
      by_cases z : i = j
      · rw [z]; exact c2
      · have := o.lt (k := t) (k2 := t) hj hi (.inr ⟨rfl, by omega⟩)
        omega
    have : m = t := by
      by_cases z : m < t
      · have := b m (Nat.le_refl _)
        have := o.lt (k := m) (k2 := t) hi hj (.inl z)
        omega
      · by_cases z2 : t < m
        · have := a t z2
          omega
        · omega
    omega
theorem bgn_on (o : Okr L l) {t j : Nat} (hj : j < l.length) {h : Int} (c : onp L l t j h) {i : Nat} (hi : i < l.length) : bgn L l i h = t + if i ≤ j then 1 else 0 := by
  obtain ⟨m, e, a, b⟩ := bgn_is o hi h
  obtain ⟨c1, c2⟩ := c
  rw [e]
  have w := (o.all i hi).2.2
  split
  · rename_i ij
    have x : bAt L l t i ≤ h := by
      by_cases z : i = j
      · rw [z]; exact c1
      · have := o.lt (k := t) (k2 := t) hi hj (.inr ⟨rfl, by omega⟩)
        omega
    have y := o.lt (k := t) (k2 := t + 1) hj hi (.inl (by omega))
    have : m = t + 1 := by
      by_cases z : m < t + 1
      · have := b t (by omega)
        omega
      · by_cases z2 : t + 1 < m
        · have := a (t + 1) z2
          omega
        · omega
    omega
  · rename_i ij
    have x := o.lt (k := t) (k2 := t) hj hi (.inr ⟨rfl, by omega⟩)
    have : m = t := by
      by_cases z : m < t
      · have := b m (Nat.le_refl _)
        have := o.lt (k := m) (k2 := t) hi hj (.inl z)
        omega
      · by_cases z2 : t < m
        · have := a t z2
          omega
        · omega
    omega
theorem sm_pre {f : Nat → Int} {j : Nat} : ∀ {n : Nat}, j ≤ n → sm (fun i => if i < j then f i else 0) n = sm f j := fun {n} h => by
  obtain ⟨d, rfl⟩ : ∃ d, n = j + d := ⟨n - j, by omega⟩
  rw [sm_app, sm_eq (g := f) fun i hi => if_pos hi, sm_zero (n := d) fun i _ => if_neg (by omega)]
  omega
theorem tot_take {j : Nat} (h : j ≤ l.length) : tot (l.take j) = sm (fun i => (cl l i).2.2) j := by
  rw [tot_sm, List.length_take, Nat.min_eq_left h]
  refine sm_eq fun i hi => ?_
  unfold cl
  rw [List.getElem?_take, if_pos hi]
theorem dnA_on (o : Okr L l) {t j : Nat} (hj : j < l.length) {h : Int} (c : onp L l t j h) : dnA L l h = t * tot l + tot (l.take j) + (h - bAt L l t j) := by
  have e : ∀ i, i < l.length → dn1 L l i h = (t * (cl l i).2.2 + if i < j then (cl l i).2.2 else 0) + if i = j then h - bAt L l t j else 0 := by
    intro i hi
    unfold dn1
    rw [nde_on o hj c hi, bgn_on o hj c hi]
    by_cases a : i < j
    · rw [if_pos a, if_pos (show i ≤ j by omega), if_pos rfl, if_pos a, if_neg (by omega), Int.add_mul, Int.one_mul]
      omega
    · by_cases b : i = j
      · subst b
        rw [if_neg a, if_pos (Nat.le_refl _), if_neg (by omega), if_neg a, if_pos rfl, show ((t : Int) + 0) = t from by omega, Int.toNat_natCast]
        omega
      · rw [if_neg a, if_neg (show ¬ i ≤ j by omega), if_pos rfl, if_neg a, if_neg b, show ((t : Int) + 0) = t from by omega]
        omega
  unfold dnA
  rw [sm_eq e, sm_add, sm_add, sm_pre (by omega), tot_take (by omega), tot_sm, Int.mul_comm (t : Int), ← sm_mul]
  congr 1
  · congr 1
    exact sm_eq fun i _ => Int.mul_comm _ _
  · have : ∀ n, j < n → sm (fun i => if i = j then h - bAt L l t j else 0) n = h - bAt L l t j := by
      intro n hn
      obtain ⟨d, rfl⟩ : ∃ d, n = j + (d + 1) := ⟨n - j - 1, by omega⟩
      rw [sm_app, sm_zero (n := j) fun i hi => if_neg (by omega), sm_first, sm_zero (n := d) fun i _ => if_neg (by omega)]
      show 0 + ((if j + 0 = j then _ else _) + 0) = _
      rw [if_pos (by omega)]
      omega
    exact this _ hj
theorem nde_sum_on (o : Okr L l) {t j : Nat} (hj : j < l.length) {h : Int} (c : onp L l t j h) : sm (fun i => nde L l i h) l.length = t * (l.length : Nat) + j := by
  rw [sm_eq (g := fun i => (t : Int) + if i < j then 1 else 0) fun i hi => nde_on o hj c hi, sm_add, sm_const, sm_pre (f := fun _ => 1) (by omega), sm_const]
  rw [Int.mul_comm]
  omega
/-- where nothing is -/
theorem nde_off (o : Okr L l) {h : Int} (h0 : 0 ≤ h) (no : ∀ (k j : Nat), j < l.length → ¬ onp L l k j h) {i : Nat} (hi : i < l.length) : nde L l i h = cme L l i h ∧ bgn L l i h = cme L l i h := by
  obtain ⟨n, e, hn⟩ := cme_is o hi h0
  obtain ⟨m, e1, a, b⟩ := bgn_is o hi (h - (cl l i).2.2)
  obtain ⟨m2, e2, a2, b2⟩ := bgn_is o hi h
  have w := (o.all i hi).2.2
  have ie := idle_end o h0 no
  have x : m = n := by
    by_cases z : m < n
    · have := ie m i hi ((hn m).mpr z)
      have := b m (Nat.le_refl _)
      omega
    · by_cases z2 : n < m
      · have := a n z2
        have := o.come (k := n) hi
        have := (hn n).mp (by omega)
        omega
      · omega
  have y : m2 = n := by
    by_cases z : m2 < n
    · have := ie m2 i hi ((hn m2).mpr z)
      have := b2 m2 (Nat.le_refl _)
      omega
    · by_cases z2 : n < m2
      · have := a2 n z2
        have := o.come (k := n) hi
        have := (hn n).mp (by omega)
        omega
      · omega
  unfold nde
  rw [e1, e2, e, x, y]
  exact ⟨rfl, rfl⟩
theorem wtn_off (o : Okr L l) {h : Int} (h0 : 0 ≤ h) (no : ∀ (k j : Nat), j < l.length → ¬ onp L l k j h) : dnA L l h = cmA L l h ∧ hmn L l h = 0 := by
  constructor
  · refine sm_eq fun j hj => ?_
    obtain ⟨a, b⟩ := nde_off o h0 no hj
    show dn1 L l j h = _
    unfold dn1
    rw [a, b, if_pos rfl]
  · refine sm_zero fun j hj => ?_
    obtain ⟨a, b⟩ := nde_off o h0 no hj
    show cme L l j h - nde L l j h = 0
    omega
/-- by the rows of so many rounds -/
theorem wtn_rows (o : Okr L l) {h : Int} (h0 : 0 ≤ h) {n : Nat} (hn : h < n * L) :
    wtn L l h = sm (fun k => sm (fun j => if (k : Int) * L + (cl l j).1 ≤ h ∧ h < bAt L l k j + (cl l j).2.2 then bAt L l k j + (cl l j).2.2 - max (bAt L l k j) h else 0) l.length) n := by
  unfold wtn cmA dnA
  rw [← sm_sub, sm_swap]
  refine sm_eq fun j hj => ?_
  show cme L l j h * _ - dn1 L l j h = _
  rw [dn1_sm o hj (n := n) (by omega), cme_sm o hj h0 hn, ← sm_mul, ← sm_sub]
  refine sm_eq fun k _ => ?_
  have w := (o.all j hj).2.2
  have co := o.come (k := k) hj
  unfold clp
  by_cases a : (k : Int) * L + (cl l j).1 ≤ h
  · by_cases b : h < bAt L l k j + (cl l j).2.2
    · rw [if_pos a, if_pos ⟨a, b⟩]
      omega
    · rw [if_pos a, if_neg (fun z => b z.2)]
      omega
  · rw [if_neg a, if_neg (fun z => a z.1)]
    omega
theorem hmn_rows (o : Okr L l) {h : Int} (h0 : 0 ≤ h) {n : Nat} (hn : h < n * L) :
    hmn L l h = sm (fun k => sm (fun j => if (k : Int) * L + (cl l j).1 ≤ h ∧ h < bAt L l k j + (cl l j).2.2 then 1 else 0) l.length) n := by
  unfold hmn
  rw [sm_swap]
  refine sm_eq fun j hj => ?_
  show cme L l j h - nde L l j h = _
  rw [nde_sm o hj hn, cme_sm o hj h0 hn, ← sm_sub]
  refine sm_eq fun k _ => ?_
  have w := (o.all j hj).2.2
  have co := o.come (k := k) hj
  by_cases a : (k : Int) * L + (cl l j).1 ≤ h
  · by_cases b : h < bAt L l k j + (cl l j).2.2
    · rw [if_pos a, if_neg (show ¬ bAt L l k j + (cl l j).2.2 ≤ h by omega), if_pos ⟨a, b⟩]
      rfl
    · rw [if_pos a, if_pos (show bAt L l k j + (cl l j).2.2 ≤ h by omega), if_neg (fun z => b z.2)]
      rfl
  · rw [if_neg a, if_neg (show ¬ bAt L l k j + (cl l j).2.2 ≤ h by omega), if_neg (fun z => a z.1)]
    rfl
theorem dnA_rows (o : Okr L l) {h : Int} {n : Nat} (hn : h ≤ n * L) :
    dnA L l h = sm (fun k => sm (fun j => if bAt L l k j < h then min (bAt L l k j + (cl l j).2.2) h - bAt L l k j else 0) l.length) n := by
  unfold dnA
  rw [sm_swap]
  refine sm_eq fun j hj => ?_
  show dn1 L l j h = _
  rw [dn1_sm o hj hn]
  refine sm_eq fun k _ => ?_
  have w := (o.all j hj).2.2
  unfold clp
  split <;> omega
end
end Rm

/-! ### rounds: from the first round's end on all comes round -/
namespace Rm
theorem fin_app (L k : Int) : ∀ (a b : List Cal) (f : Int), fin L k f (a ++ b) = fin L k (fin L k f a) b
  | [], b, f => rfl
  | c :: r, b, f => fin_app L k r b _
theorem fin_max {L k : Int} {l : List Cal} {f g : Int} (h : f ≤ g) : fin L k g l = max (fin L k f l) (g + tot l) := by
  have a := fin_two L k l f g h
  have b := fin_mono L k l h
  have c := fin_ge L k l g
  omega
theorem busy_at {L k : Int} : ∀ {l : List Cal} {f : Int}, busy L k f l → ∀ {i : Nat}, i < l.length → (beg L k f l)[i]? = some (f + tot (l.take i))
  | c :: r, f, h, 0, _ => by
    show some (max f (k * L + c.1)) = some (f + 0)
    rw [Int.max_eq_left h.1, Int.add_zero]
  | c :: r, f, h, i + 1, hi => by
    show (beg L k (max f (k * L + c.1) + c.2.2) r)[i]? = some (f + (c.2.2 + tot (r.take i)))
    rw [Int.max_eq_left h.1, busy_at h.2 (by simpa using hi), Int.add_assoc]
section
variable {L : Int} {l : List Cal}
theorem take1 {j : Nat} (hj : j < l.length) : tot (l.take (j + 1)) = tot (l.take j) + (cl l j).2.2 := by
  rw [take_snoc (cl_at hj), tot_app]
  show _ + (_ + 0) = _
  omega
theorem b0_is {j : Nat} (hj : j < l.length) : bAt L l 0 j = max (fin L 0 0 (l.take j)) ((cl l j).1) := by
  have e := bAt_some (L := L) (k := 0) hj
  have e2 : (bgs L l 0)[j]? = _ := beg_take (L := L) (k := 0) (f := 0) (cl_at hj)
  rw [e2] at e
  have := Option.some.inj e
  omega
theorem e0_is {j : Nat} (hj : j < l.length) : bAt L l 0 j + (cl l j).2.2 = fin L 0 0 (l.take (j + 1)) := by
  rw [b0_is hj, fin_take (cl_at hj)]
  omega
theorem b1_is {j : Nat} (hj : j < l.length) : bAt L l 1 j = max (fin L 1 (fre L l 0) (l.take j)) (L + (cl l j).1) := by
  have e := bAt_some (L := L) (k := 1) hj
  have e2 : (bgs L l 1)[j]? = _ := beg_take (L := L) (k := (1 : Nat)) (f := fre L l 0) (cl_at hj)
  rw [e2] at e
  have := Option.some.inj e
  have h1 : ((1 : Nat) : Int) * L = L := by omega
  rw [h1] at this
  exact this.symm
theorem sh1 : fin L 1 L l = fin L 0 0 l + L := by
  have := fin_shift L 0 0 l 0
  rw [Int.zero_add, Int.zero_add] at this
  exact this
/-- round 1 behind a round 0 that ends late -/
theorem b1_late {j : Nat} (hj : j < l.length) (h : L ≤ fre L l 0) : bAt L l 1 j = max (bAt L l 0 j + L) (fre L l 0 + tot (l.take j)) := by
  rw [b1_is hj, b0_is hj, fin_max h, sh1]
  omega
/-- .. in time -/
theorem b1_early (o : Okr L l) {j : Nat} (hj : j < l.length) (h : fre L l 0 ≤ L) : bAt L l 1 j = bAt L l 0 j + L := by
  have l1 := o.1
  rw [b1_is hj, b0_is hj]
  cases j with
  | zero =>
    have c0 := (o.all 0 hj).1
    rw [List.take_zero]
    show max (fre L l 0) (L + _) = max 0 _ + L
    omega
  | succ j =>
    have ne : l.take (j + 1) ≠ [] := by
      intro z
      have : 0 < (l.take (j + 1)).length := by
        rw [List.length_take]
        omega
      rw [z] at this
      exact absurd this (Nat.lt_irrefl 0)
    rw [fin_early (g := L) ne (fun c hc => o.pos c (List.mem_of_mem_take hc)) (by omega) (by omega), sh1]
    omega
theorem tot_drop {j : Nat} (hj : j < l.length) : tot (l.drop j) = (cl l j).2.2 + tot (l.drop (j + 1)) := by
  have a := tot_split l j
  have b := tot_split l (j + 1)
  have c := take1 hj
  omega
theorem fre0_split (j : Nat) : fre L l 0 = fin L 0 (fin L 0 0 (l.take (j + 1))) (l.drop (j + 1)) := by
  rw [← fin_app, List.take_append_drop]
  rfl
/-- behind a call that ends behind the round's end the press has no pause -/
theorem fre0_late (o : Okr L l) {j : Nat} (hj : j < l.length) (h : L < bAt L l 0 j + (cl l j).2.2) : fre L l 0 = bAt L l 0 j + tot (l.drop j) := by
  have l1 := o.1
  rw [fre0_split j, ← e0_is hj]
  rw [busy_fin (busy_of fun i c e => ?_)]
  · rw [tot_drop hj]
    omega
  · rw [List.getElem?_drop] at e
    have ho := o.all (j + 1 + i) (List.getElem?_eq_some_iff.mp e).1
    rw [cl_eq e] at ho
    have t0 : 0 ≤ tot ((l.drop (j + 1)).take i) := tot_pos fun d hd => by
      obtain ⟨p, hp, e2⟩ := List.getElem_of_mem (List.mem_of_mem_drop (List.mem_of_mem_take hd))
      have ho2 := o.all p hp
      rw [cl_eq (by rw [List.getElem?_eq_getElem hp, e2])] at ho2
      omega
    omega
theorem sh0 (o : Okr L l) {j : Nat} (hj : j < l.length) (h : L < bAt L l 0 j + (cl l j).2.2) : bAt L l 1 j = bAt L l 0 j + stp L l := by
  have f := fre0_late o hj h
  have w := (o.all j hj).2.2
  have t0 : 0 ≤ tot (l.drop (j + 1)) := tot_pos fun d hd => by
    obtain ⟨p, hp, e2⟩ := List.getElem_of_mem (List.mem_of_mem_drop hd)
    have ho2 := o.all p hp
    rw [cl_eq (by rw [List.getElem?_eq_getElem hp, e2])] at ho2
    omega
  have s := tot_split l j
  have d := tot_drop hj
  rw [b1_late hj (by omega)]
  unfold stp
  omega
theorem bd0 (o : Okr L l) {a : List Cal} (h : ∀ c ∈ a, c ∈ l) {f : Int} (hf : f ≤ L) : fin L 0 f a ≤ L + tot a := by
  refine (beg_bd (L := L) (k := 0) (l := a) (f := f) (b := L) (fun c hc => ?_) hf).2.2
  obtain ⟨p, hp, e2⟩ := List.getElem_of_mem (h c hc)
  have ho2 := o.all p hp
  rw [cl_eq (by rw [List.getElem?_eq_getElem hp, e2])] at ho2
  omega
theorem e0_le (o : Okr L l) {j : Nat} (hj : j < l.length) : bAt L l 0 j + (cl l j).2.2 ≤ L + stp L l := by
  have l1 := o.1
  have a := bd0 o (a := l.take (j + 1)) (fun c hc => List.mem_of_mem_take hc) (f := 0) (by omega)
  rw [← e0_is hj] at a
  have s := tot_split l (j + 1)
  have t0 : 0 ≤ tot (l.drop (j + 1)) := tot_pos fun d hd => by
    obtain ⟨p, hp, e2⟩ := List.getElem_of_mem (List.mem_of_mem_drop hd)
    have ho2 := o.all p hp
    rw [cl_eq (by rw [List.getElem?_eq_getElem hp, e2])] at ho2
    omega
  unfold stp
  omega
theorem e1_le (o : Okr L l) {j : Nat} (hj : j < l.length) (h : bAt L l 0 j + (cl l j).2.2 ≤ L) : bAt L l 1 j + (cl l j).2.2 ≤ L + stp L l := by
  have st : L ≤ stp L l := by unfold stp; omega
  by_cases z : fre L l 0 ≤ L
  · rw [b1_early o hj z]
    omega
  · rw [b1_late hj (by omega)]
    have a := bd0 o (a := l.drop (j + 1)) (fun c hc => List.mem_of_mem_drop hc) (f := fin L 0 0 (l.take (j + 1))) (by rw [← e0_is hj]; exact h)
    rw [← fre0_split j] at a
    have s := tot_split l (j + 1)
    have t := take1 hj
    unfold stp
    omega
/-- later rounds -/
theorem b_on (o : Okr L l) {j : Nat} (hj : j < l.length) (k : Nat) : bAt L l (k + 2) j = bAt L l (k + 1) j + stp L l := by
  have l1 := o.1
  rw [bAt_on (k := k + 1) (by omega) o.pos hj, bAt_on (k := k) (by omega) o.pos hj]
  rw [show ((k + 1 : Nat) : Int) = (k : Int) + 1 from rfl, Int.add_mul, Int.one_mul]
  omega
/-- where it ends behind L, the next one is later by a step -/
theorem b_sh (o : Okr L l) {j : Nat} (hj : j < l.length) (k : Nat) (h : L < bAt L l k j + (cl l j).2.2) : bAt L l (k + 1) j = bAt L l k j + stp L l := by
  cases k with
  | zero => exact sh0 o hj h
  | succ k => exact b_on o hj k
theorem e1_ge (o : Okr L l) {j : Nat} (hj : j < l.length) (k : Nat) : L < bAt L l (k + 1) j + (cl l j).2.2 := by
  have := o.come (k := k + 1) hj
  have ho := o.all j hj
  have l1 := o.1
  have : (1 : Int) * L ≤ ((k + 1 : Nat) : Int) * L := Int.mul_le_mul_of_nonneg_right (by omega) (by omega)
  omega
theorem end_sh (o : Okr L l) {j : Nat} (hj : j < l.length) {h : Int} (hl : L ≤ h) (k : Nat) : bAt L l (k + 1) j + (cl l j).2.2 ≤ h + stp L l ↔ bAt L l k j + (cl l j).2.2 ≤ h := by
  by_cases z : L < bAt L l k j + (cl l j).2.2
  · rw [b_sh o hj k z]
    omega
  · cases k with
    | zero =>
      have := e1_le o hj (by omega)
      show bAt L l 1 j + _ ≤ _ ↔ _
      omega
    | succ k => exact absurd (e1_ge o hj k) z
theorem nde_sh (o : Okr L l) {j : Nat} (hj : j < l.length) {h : Int} (hl : L ≤ h) : nde L l j (h + stp L l) = nde L l j h + 1 := by
  obtain ⟨n, e, a, b⟩ := bgn_is o hj (h - (cl l j).2.2)
  obtain ⟨m, e2, a2, b2⟩ := bgn_is o hj (h + stp L l - (cl l j).2.2)
  unfold nde
  rw [e, e2]
  have : m = n + 1 := by
    by_cases z : m < n + 1
    · cases m with
      | zero =>
        have := b2 0 (Nat.le_refl _)
        have := e0_le o hj
        omega
      | succ m =>
        have x := a m (by omega)
        have y := b2 (m + 1) (Nat.le_refl _)
        have := (end_sh o hj hl m).mpr (by omega)
        omega
    · by_cases z2 : n + 1 < m
      · have x := a2 (n + 1) z2
        have y := b n (Nat.le_refl _)
        have := (end_sh o hj hl n).mp (by omega)
        omega
      · omega
  omega
theorem clp_sh (o : Okr L l) {j : Nat} (hj : j < l.length) {h : Int} (hl : L ≤ h) (k : Nat) : clp (cl l j).2.2 (h + stp L l - bAt L l (k + 1) j) = clp (cl l j).2.2 (h - bAt L l k j) := by
  have w := (o.all j hj).2.2
  by_cases z : L < bAt L l k j + (cl l j).2.2
  · rw [b_sh o hj k z]
    congr 1
    omega
  · have := (end_sh o hj hl k).mpr (by omega)
    unfold clp
    omega
theorem dn1_sh (o : Okr L l) {j : Nat} (hj : j < l.length) {h : Int} (hl : L ≤ h) : dn1 L l j (h + stp L l) = dn1 L l j h + (cl l j).2.2 := by
  have l1 := o.1
  have st : L ≤ stp L l := by unfold stp; omega
  have w := (o.all j hj).2.2
  have hn : h + stp L l ≤ ((h + stp L l).toNat : Nat) * L := by
    have : ((h + stp L l).toNat : Int) * 1 ≤ ((h + stp L l).toNat : Int) * L := Int.mul_le_mul_of_nonneg_left l1 (by omega)
    omega
  have hn2 : h + stp L l ≤ ((h + stp L l).toNat + 1 : Nat) * L := by
    rw [show (((h + stp L l).toNat + 1 : Nat) : Int) = ((h + stp L l).toNat : Int) + 1 from rfl, Int.add_mul]
    omega
  rw [dn1_sm o hj hn2, dn1_sm o hj (n := (h + stp L l).toNat) (by omega), sm_first]
  have e0 := e0_le o hj
  rw [sm_eq fun k _ => clp_sh o hj hl k, Int.add_comm]
  congr 1
  show clp _ (h + stp L l - bAt L l 0 j) = _
  unfold clp
  omega
theorem dnA_sh (o : Okr L l) {h : Int} (hl : L ≤ h) : dnA L l (h + stp L l) = dnA L l h + tot l := by
  unfold dnA
  rw [tot_sm, ← sm_add]
  exact sm_eq fun j hj => dn1_sh o hj hl
theorem cme_sh (o : Okr L l) (j : Nat) (h : Int) (r : Int) : cme L l j (h + r * L) = cme L l j h + r := by
  have l1 := o.1
  unfold cme
  rw [show h + r * L - (cl l j).1 = (h - (cl l j).1) + r * L from by omega, Int.add_mul_ediv_right _ _ (by omega)]
  omega
theorem cmA_sh (o : Okr L l) (h r : Int) : cmA L l (h + r * L) = cmA L l h + r * tot l := by
  unfold cmA
  rw [tot_sm, Int.mul_comm r (sm _ _), ← sm_mul, ← sm_add]
  refine sm_eq fun j _ => ?_
  show cme L l j (h + r * L) * _ = _
  rw [cme_sh o, Int.add_mul, Int.mul_comm r]
/-- with more work than hours the press is never free from the first round's end on -/
theorem never_free (o : Okr L l) (ne : 0 < l.length) (ht : L ≤ tot l) {h : Int} (hl : L ≤ h) : ¬ ∀ (k j : Nat), j < l.length → ¬ onp L l k j h := by
  intro no
  have l1 := o.1
  have ie := idle_end o (h := h) (by omega) no
  have all : ∀ k j : Nat, j < l.length → bAt L l k j + (cl l j).2.2 ≤ h := by
    intro k
    induction k with
    | zero =>
      intro j hj
      have ho := o.all j hj
      exact ie 0 j hj (by omega)
    | succ k ih =>
      have z : (bgs L l (k + 1))[0]? = some (fre L l k) := by
        have b : busy L ((k + 1 : Nat) : Int) (fre L l k) l := by
          cases k with
          | zero => exact busy_next (k := 0) ht
          | succ k => exact busy_next (k := (k + 1 : Nat)) ht
        have := busy_at b ne
        rw [List.take_zero] at this
        show (beg L ((k + 1 : Nat) : Int) (fre L l k) l)[0]? = _
        rw [this]
        show some (fre L l k + 0) = _
        rw [Int.add_zero]
      have hz : bAt L l (k + 1) 0 = fre L l k := by
        have := bAt_some (L := L) (k := k + 1) ne
        rw [z] at this
        exact (Option.some.inj this).symm
      obtain ⟨q, eq⟩ : ∃ q, q + 1 = l.length := ⟨l.length - 1, by omega⟩
      have fl : fre L l k = bAt L l k q + (cl l q).2.2 := by
        have a := bAt_some (L := L) (k := k) (j := q) (l := l) (by omega)
        cases k with
        | zero => exact fin_last eq (cl_at (by omega)) a
        | succ k => exact fin_last eq (cl_at (by omega)) a
      have b0 : bAt L l (k + 1) 0 ≤ h := by
        have := ih q (by omega)
        omega
      intro j
      induction j with
      | zero =>
        intro hj
        have := o.come (k := k + 1) hj
        exact ie (k + 1) 0 hj (by omega)
      | succ j ih2 =>
        intro hj
        have e := ih2 (by omega)
        have n := o.next (k := k + 1) hj
        have b : busy L ((k + 1 : Nat) : Int) (fre L l k) l := by
          cases k with
          | zero => exact busy_next (k := 0) ht
          | succ k => exact busy_next (k := (k + 1 : Nat)) ht
        have e1 := busy_at b (i := j) (by omega)
        have e2 := busy_at b (i := j + 1) hj
        have f1 := bAt_some (L := L) (k := k + 1) (j := j) (l := l) (by omega)
        have f2 := bAt_some (L := L) (k := k + 1) hj
        have f1' : (beg L ((k + 1 : Nat) : Int) (fre L l k) l)[j]? = some (bAt L l (k + 1) j) := f1
        have f2' : (beg L ((k + 1 : Nat) : Int) (fre L l k) l)[j + 1]? = some (bAt L l (k + 1) (j + 1)) := f2
        rw [e1] at f1'
        rw [e2] at f2'
        have g1 := Option.some.inj f1'
        have g2 := Option.some.inj f2'
        have t := take1 (l := l) (j := j) (by omega)
        have c := o.come (k := k + 1) hj
        exact ie (k + 1) (j + 1) hj (by omega)
  have x := all h.toNat 0 ne
  have c := o.come (k := h.toNat) ne
  have ho := o.all 0 ne
  have : (h.toNat : Int) * 1 ≤ (h.toNat : Int) * L := Int.mul_le_mul_of_nonneg_left l1 (by omega)
  omega
theorem idl_on (o : Okr L l) (ne : 0 < l.length) (ht : L ≤ tot l) {h : Int} (hl : L ≤ h) : idl L l h = fre L l 0 - tot l := by
  have ex : ∃ (t j : Nat), j < l.length ∧ onp L l t j h := by
    cases e : atF L l h with
    | none => exact absurd (fun k j hj => atF_none o e hj) (never_free o ne ht hl)
    | some p =>
      obtain ⟨t, j⟩ := p
      obtain ⟨a, b⟩ := atF_some o e
      exact ⟨t, j, a, b⟩
  obtain ⟨t, j, hj, on⟩ := ex
  have d := dnA_on o hj on
  unfold idl
  rw [d]
  cases t with
  | zero =>
    obtain ⟨o1, o2⟩ := on
    have f := fre0_late o hj (by omega)
    have s := tot_split l j
    omega
  | succ t =>
    have b : busy L ((t + 1 : Nat) : Int) (fre L l t) l := by
      cases t with
      | zero => exact busy_next (k := 0) ht
      | succ k => exact busy_next (k := (k + 1 : Nat)) ht
    have e1 := busy_at b hj
    have f1 : (beg L ((t + 1 : Nat) : Int) (fre L l t) l)[j]? = some (bAt L l (t + 1) j) := bAt_some (L := L) (k := t + 1) hj
    rw [e1] at f1
    have g1 := Option.some.inj f1
    have fr : ∀ t : Nat, fre L l t = fre L l 0 + t * tot l := by
      intro t
      induction t with
      | zero => omega
      | succ t ih =>
        rw [fre_step t ht, ih, show ((t + 1 : Nat) : Int) = (t : Int) + 1 from rfl, Int.add_mul, Int.one_mul]
        omega
    have := fr t
    rw [show ((t + 1 : Nat) : Int) = (t : Int) + 1 from rfl, Int.add_mul, Int.one_mul]
    omega
theorem tot_nil_or (o : Okr L l) : (l.length = 0 ∧ tot l = 0) ∨ 0 < l.length := by
  by_cases z : l.length = 0
  · have : l = [] := List.eq_nil_of_length_eq_zero z
    subst this
    exact .inl ⟨rfl, rfl⟩
  · exact .inr (by omega)
/-- what waits grows by what comes more than a round has hours -/
theorem wtn_sh (o : Okr L l) {h : Int} (hl : L ≤ h) : wtn L l (h + L) = wtn L l h + max 0 (tot l - L) := by
  have l1 := o.1
  have c := cmA_sh o h 1
  rw [Int.one_mul, Int.one_mul] at c
  by_cases z : tot l ≤ L
  · have d := dnA_sh o hl
    have s : stp L l = L := by unfold stp; omega
    rw [s] at d
    unfold wtn
    omega
  · have ne : 0 < l.length := by
      rcases tot_nil_or o with ⟨_, a⟩ | a
      · omega
      · exact a
    have a := idl_on o ne (by omega) hl
    have b := idl_on o ne (by omega) (h := h + L) (by omega)
    unfold idl at a b
    unfold wtn
    omega
theorem wtn_far (o : Okr L l) {h : Int} (hl : L ≤ h) : ∀ r : Nat, wtn L l (h + r * L) = wtn L l h + r * max 0 (tot l - L)
  | 0 => by
    rw [show h + ((0 : Nat) : Int) * L = h from by omega]
    omega
  | r + 1 => by
    have l1 := o.1
    have m : (0 : Int) ≤ (r : Int) * L := Int.mul_nonneg (by omega) (by omega)
    rw [show h + ((r + 1 : Nat) : Int) * L = (h + r * L) + L from by rw [show ((r + 1 : Nat) : Int) = (r : Int) + 1 from rfl, Int.add_mul]; omega, wtn_sh o (by omega), wtn_far o hl r, show ((r + 1 : Nat) : Int) = (r : Int) + 1 from rfl, Int.add_mul, Int.one_mul]
    omega
/-- when a call comes it waits -/
theorem wtn_come (o : Okr L l) {j : Nat} (hj : j < l.length) (k : Nat) : 1 ≤ wtn L l (k * L + (cl l j).1) := by
  have l1 := o.1
  have ho := o.all j hj
  have m : (0 : Int) ≤ (k : Int) * L := Int.mul_nonneg (by omega) (by omega)
  have hn : (k : Int) * L + (cl l j).1 < (k + 1 : Nat) * L := by
    rw [show ((k + 1 : Nat) : Int) = (k : Int) + 1 from rfl, Int.add_mul]
    omega
  have co := o.come (k := k) hj
  rw [wtn_rows o (by omega) hn]
  have pos : ∀ q : Nat, q < k + 1 → ∀ i : Nat, i < l.length → 0 ≤ (if (q : Int) * L + (cl l i).1 ≤ (k : Int) * L + (cl l j).1 ∧ (k : Int) * L + (cl l j).1 < bAt L l q i + (cl l i).2.2 then bAt L l q i + (cl l i).2.2 - max (bAt L l q i) ((k : Int) * L + (cl l j).1) else 0) := by
    intro q _ i hi
    have hi2 := o.all i hi
    split <;> omega
  show 1 ≤ sm _ k + sm _ l.length
  have a : 0 ≤ sm (fun q : Nat => sm (fun i => if (q : Int) * L + (cl l i).1 ≤ (k : Int) * L + (cl l j).1 ∧ (k : Int) * L + (cl l j).1 < bAt L l q i + (cl l i).2.2 then bAt L l q i + (cl l i).2.2 - max (bAt L l q i) ((k : Int) * L + (cl l j).1) else 0) l.length) k :=
    sm_nonneg fun q hq => sm_nonneg fun i hi => pos q (by omega) i hi
  have b : 1 ≤ sm (fun i => if (k : Int) * L + (cl l i).1 ≤ (k : Int) * L + (cl l j).1 ∧ (k : Int) * L + (cl l j).1 < bAt L l k i + (cl l i).2.2 then bAt L l k i + (cl l i).2.2 - max (bAt L l k i) ((k : Int) * L + (cl l j).1) else 0) l.length := by
    obtain ⟨d, e⟩ : ∃ d, l.length = j + (d + 1) := ⟨l.length - j - 1, by omega⟩
    rw [e, sm_app, sm_first]
    have x := sm_nonneg (n := j) fun i hi => pos k (by omega) i (by omega)
    have y := sm_nonneg (n := d) fun i hi => pos k (by omega) (j + (i + 1)) (by omega)
    have z : (if (k : Int) * L + (cl l (j + 0)).1 ≤ (k : Int) * L + (cl l j).1 ∧ (k : Int) * L + (cl l j).1 < bAt L l k (j + 0) + (cl l (j + 0)).2.2 then bAt L l k (j + 0) + (cl l (j + 0)).2.2 - max (bAt L l k (j + 0)) ((k : Int) * L + (cl l j).1) else 0) = bAt L l k (j + 0) + (cl l (j + 0)).2.2 - max (bAt L l k (j + 0)) ((k : Int) * L + (cl l j).1) := if_pos ⟨by rw [Nat.add_zero]; omega, by rw [Nat.add_zero]; omega⟩
    rw [z]
    rw [Nat.add_zero] at *
    omega
  omega
end
end Rm

/-! ### rounds: so many rounds on -/
namespace Rm
section
variable {L : Int} {l : List Cal}
theorem mul1 (r : Nat) (x : Int) : ((r + 1 : Nat) : Int) * x = r * x + x := by
  rw [show ((r + 1 : Nat) : Int) = (r : Int) + 1 from rfl, Int.add_mul, Int.one_mul]
theorem stp_ge (L : Int) (l : List Cal) : L ≤ stp L l := by
  unfold stp
  omega
theorem nde_far (o : Okr L l) {j : Nat} (hj : j < l.length) {h : Int} (hl : L ≤ h) : ∀ r : Nat, nde L l j (h + r * stp L l) = nde L l j h + r
  | 0 => by
    rw [show h + ((0 : Nat) : Int) * stp L l = h from by omega]
    omega
  | r + 1 => by
    have l1 := o.1
    have s := stp_ge L l
    have m : (0 : Int) ≤ (r : Int) * stp L l := Int.mul_nonneg (by omega) (by omega)
    rw [show h + ((r + 1 : Nat) : Int) * stp L l = (h + r * stp L l) + stp L l from by rw [mul1]; omega, nde_sh o hj (by omega), nde_far o hj hl r]
    omega
theorem b_far (o : Okr L l) {j : Nat} (hj : j < l.length) (k : Nat) : ∀ r : Nat, bAt L l (k + 1 + r) j = bAt L l (k + 1) j + r * stp L l
  | 0 => by
    show bAt L l (k + 1) j = _
    omega
  | r + 1 => by
    have := b_on o hj (k + r)
    rw [show k + r + 2 = k + 1 + (r + 1) from by omega, show k + r + 1 = k + 1 + r from by omega] at this
    rw [this, b_far o hj k r, mul1]
    omega
theorem onp_sh (o : Okr L l) {t j : Nat} (hj : j < l.length) {h : Int} (hl : L ≤ h) (c : onp L l t j h) : onp L l (t + 1) j (h + stp L l) := by
  obtain ⟨a, b⟩ := c
  have := b_sh o hj t (by omega)
  unfold onp
  omega
theorem onp_back (o : Okr L l) {t j : Nat} (hj : j < l.length) {h : Int} (hl : L ≤ h) (c : onp L l t j (h + stp L l)) : ∃ t', t = t' + 1 ∧ onp L l t' j h := by
  obtain ⟨a, b⟩ := c
  cases t with
  | zero =>
    have := e0_le o hj
    omega
  | succ t =>
    refine ⟨t, rfl, ?_⟩
    by_cases z : L < bAt L l t j + (cl l j).2.2
    · have := b_sh o hj t z
      unfold onp
      omega
    · cases t with
      | zero =>
        have e := e1_le o hj (by omega)
        have b2 : h + stp L l < bAt L l 1 j + (cl l j).2.2 := b
        omega
      | succ t => exact absurd (e1_ge o hj t) z
theorem atF_sh (o : Okr L l) {h : Int} (hl : L ≤ h) : atF L l (h + stp L l) = (atF L l h).map fun p => (p.1 + 1, p.2) := by
  cases e : atF L l h with
  | some p =>
    obtain ⟨t, j⟩ := p
    obtain ⟨hj, on⟩ := atF_some o e
    exact atF_is o hj (onp_sh o hj hl on)
  | none =>
    cases e2 : atF L l (h + stp L l) with
    | none => rfl
    | some p =>
      obtain ⟨t, j⟩ := p
      obtain ⟨hj, on⟩ := atF_some o e2
      obtain ⟨t', rfl, on'⟩ := onp_back o hj hl on
      exact absurd on' (atF_none o e hj)
theorem atF_far (o : Okr L l) {h : Int} (hl : L ≤ h) : ∀ r : Nat, atF L l (h + r * stp L l) = (atF L l h).map fun p => (p.1 + r, p.2)
  | 0 => by
    rw [show h + ((0 : Nat) : Int) * stp L l = h from by omega]
    cases atF L l h <;> rfl
  | r + 1 => by
    have l1 := o.1
    have s := stp_ge L l
    have m : (0 : Int) ≤ (r : Int) * stp L l := Int.mul_nonneg (by omega) (by omega)
    rw [show h + ((r + 1 : Nat) : Int) * stp L l = (h + r * stp L l) + stp L l from by rw [mul1]; omega, atF_sh o (by omega), atF_far o hl r]
    cases atF L l h <;> rfl
/-- what is on the press so many rounds on: where it was, the round is a later one -/
theorem bAt_far (o : Okr L l) {t j : Nat} (hj : j < l.length) {h : Int} (hl : L ≤ h) (c : onp L l t j h) : ∀ r : Nat, bAt L l (t + r) j = bAt L l t j + r * stp L l
  | 0 => by
    show bAt L l t j = _
    omega
  | r + 1 => by
    obtain ⟨a, b⟩ := c
    have f := bAt_far o hj hl ⟨a, b⟩ r
    have l1 := o.1
    have s := stp_ge L l
    have m : (0 : Int) ≤ (r : Int) * stp L l := Int.mul_nonneg (by omega) (by omega)
    have := b_sh o hj (t + r) (by omega)
    rw [show t + (r + 1) = t + r + 1 from rfl, this, f, mul1]
    omega
theorem idl_far (o : Okr L l) {h : Int} (hl : L ≤ h) : ∀ r : Nat, idl L l (h + r * L) = idl L l h + r * max 0 (L - tot l)
  | 0 => by
    rw [show h + ((0 : Nat) : Int) * L = h from by omega]
    omega
  | r + 1 => by
    have l1 := o.1
    have m : (0 : Int) ≤ (r : Int) * L := Int.mul_nonneg (by omega) (by omega)
    have e : h + ((r + 1 : Nat) : Int) * L = (h + r * L) + L := by rw [mul1]; omega
    have ih := idl_far o hl r
    rw [e, mul1]
    by_cases z : tot l ≤ L
    · have d := dnA_sh o (h := h + r * L) (by omega)
      have s : stp L l = L := by unfold stp; omega
      rw [s] at d
      unfold idl at ih ⊢
      omega
    · have ne : 0 < l.length := by
        rcases tot_nil_or o with ⟨_, a⟩ | a
        · omega
        · exact a
      have a := idl_on o ne (by omega) (h := h + r * L) (by omega)
      have b := idl_on o ne (by omega) (h := h + r * L + L) (by omega)
      omega
theorem hmn_far (o : Okr L l) {h : Int} (hl : L ≤ h) (r : Nat) : hmn L l (h + r * (L * if L < tot l then tot l else 1)) = hmn L l h + r * (l.length : Nat) * max 0 (tot l - L) := by
  have l1 := o.1
  unfold hmn
  have t0 : 0 ≤ max 0 (tot l - L) := by omega
  by_cases z : L < tot l
  · rw [if_pos z]
    obtain ⟨tn, et⟩ : ∃ tn : Nat, tot l = tn := ⟨(tot l).toNat, by omega⟩
    obtain ⟨ln, el⟩ : ∃ ln : Nat, L = ln := ⟨L.toNat, by omega⟩
    have s : stp L l = tot l := by unfold stp; omega
    have rhs : (r : Int) * (l.length : Nat) * (tot l - L) = sm (fun _ => r * (tot l - L)) l.length := by
      rw [sm_const, ← Int.mul_assoc, Int.mul_comm (r : Int)]
    rw [show max 0 (tot l - L) = tot l - L from by omega, rhs, ← sm_add]
    refine sm_eq fun j hj => ?_
    show cme L l j _ - nde L l j _ = cme L l j h - nde L l j h + _
    have a := cme_sh o j h (r * tot l)
    have b := nde_far o hj hl (r * ln)
    rw [s] at b
    have e1 : h + r * (L * tot l) = h + r * tot l * L := by
      rw [Int.mul_comm L, ← Int.mul_assoc]
    have e2 : h + ((r * ln : Nat) : Int) * tot l = h + r * (L * tot l) := by
      rw [Int.natCast_mul, ← el, Int.mul_assoc]
    rw [e1, a, ← e1, ← e2, b, Int.natCast_mul, ← el, Int.mul_sub]
    omega
  · rw [if_neg z, show max 0 (tot l - L) = 0 from by omega, Int.mul_zero, Int.add_zero]
    refine sm_eq fun j hj => ?_
    show cme L l j _ - nde L l j _ = cme L l j h - nde L l j h
    have s : stp L l = L := by unfold stp; omega
    have b := nde_far o hj hl r
    rw [s] at b
    rw [Int.mul_one, cme_sh o j h r, b]
    omega
end
end Rm

set_option maxRecDepth 100000
set_option maxHeartbeats 4000000
namespace K
open PySem PySem.Spec PyProof.Rows L2 Gd Dl
def topS (i : Nat) : Stmt := PySem.Challenge.pw_bindbench_k38_whole_comes_round.main.body.getD i (.Pass ⟨0, 0, 0, 0⟩)
abbrev s_is_whole : Stmt := topS 7
theorem sc_is_whole : FnScope ["thing", "least", "most"] ["thing", "least", "most"] (defScope s_is_whole) := ⟨rfl, rfl, rfl, by decide +kernel, rfl, by decide +kernel, by decide +kernel⟩
abbrev s_is_name : Stmt := topS 8
theorem sc_is_name : FnScope ["thing", "sign"] ["thing"] (defScope s_is_name) := ⟨rfl, rfl, rfl, by decide +kernel, rfl, by decide +kernel, by decide +kernel⟩
abbrev s_are_calls : Stmt := topS 14
theorem sc_are_calls : FnScope ["thing", "length", "least", "call", "at", "name", "hours"] ["thing", "length"] (defScope s_are_calls) := ⟨rfl, rfl, rfl, by decide +kernel, rfl, by decide +kernel, by decide +kernel⟩
abbrev s_refuse_no_hour : Stmt := topS 15
theorem sc_refuse_no_hour : FnScope ["hour"] ["hour"] (defScope s_refuse_no_hour) := ⟨rfl, rfl, rfl, by decide +kernel, rfl, by decide +kernel, by decide +kernel⟩
abbrev s_Round_init : Stmt := (inCls (topS 16)).getD 0 (.Pass ⟨0, 0, 0, 0⟩)
theorem sc_Round_init : FnScope ["self", "length", "calls", "told", "_", "hours"] ["self", "length", "calls"] (defScope s_Round_init) := ⟨rfl, rfl, rfl, by decide +kernel, rfl, by decide +kernel, by decide +kernel⟩
abbrev s_Round__first_begins : Stmt := (inCls (topS 16)).getD 1 (.Pass ⟨0, 0, 0, 0⟩)
theorem sc_Round__first_begins : FnScope ["self", "begins", "free", "turn", "at", "_", "hours", "begin"] ["self"] (defScope s_Round__first_begins) := ⟨rfl, rfl, rfl, by decide +kernel, rfl, by decide +kernel, by decide +kernel⟩
abbrev s_Round__begin : Stmt := (inCls (topS 16)).getD 2 (.Pass ⟨0, 0, 0, 0⟩)
theorem sc_Round__begin : FnScope ["self", "turn", "call"] ["self", "turn", "call"] (defScope s_Round__begin) := ⟨rfl, rfl, rfl, by decide +kernel, rfl, by decide +kernel, by decide +kernel⟩
abbrev s_Round__begun : Stmt := (inCls (topS 16)).getD 3 (.Pass ⟨0, 0, 0, 0⟩)
theorem sc_Round__begun : FnScope ["self", "call", "hour"] ["self", "call", "hour"] (defScope s_Round__begun) := ⟨rfl, rfl, rfl, by decide +kernel, rfl, by decide +kernel, by decide +kernel⟩
abbrev s_Round__ended : Stmt := (inCls (topS 16)).getD 4 (.Pass ⟨0, 0, 0, 0⟩)
theorem sc_Round__ended : FnScope ["self", "call", "hour"] ["self", "call", "hour"] (defScope s_Round__ended) := ⟨rfl, rfl, rfl, by decide +kernel, rfl, by decide +kernel, by decide +kernel⟩
abbrev s_Round__came : Stmt := (inCls (topS 16)).getD 5 (.Pass ⟨0, 0, 0, 0⟩)
theorem sc_Round__came : FnScope ["self", "call", "hour"] ["self", "call", "hour"] (defScope s_Round__came) := ⟨rfl, rfl, rfl, by decide +kernel, rfl, by decide +kernel, by decide +kernel⟩
abbrev s_Round__hours_done : Stmt := (inCls (topS 16)).getD 6 (.Pass ⟨0, 0, 0, 0⟩)
theorem sc_Round__hours_done : FnScope ["self", "call", "hour", "hours", "ended"] ["self", "call", "hour"] (defScope s_Round__hours_done) := ⟨rfl, rfl, rfl, by decide +kernel, rfl, by decide +kernel, by decide +kernel⟩
abbrev s_Round__all_done : Stmt := (inCls (topS 16)).getD 7 (.Pass ⟨0, 0, 0, 0⟩)
theorem sc_Round__all_done : FnScope ["self", "hour", "call"] ["self", "hour"] (defScope s_Round__all_done) := ⟨rfl, rfl, rfl, by decide +kernel, rfl, by decide +kernel, by decide +kernel⟩
abbrev s_Round__waiting : Stmt := (inCls (topS 16)).getD 8 (.Pass ⟨0, 0, 0, 0⟩)
theorem sc_Round__waiting : FnScope ["self", "hour", "came", "call", "_", "hours"] ["self", "hour"] (defScope s_Round__waiting) := ⟨rfl, rfl, rfl, by decide +kernel, rfl, by decide +kernel, by decide +kernel⟩
abbrev s_Round_keeps_up : Stmt := (inCls (topS 16)).getD 12 (.Pass ⟨0, 0, 0, 0⟩)
theorem sc_Round_keeps_up : FnScope ["self"] ["self"] (defScope s_Round_keeps_up) := ⟨rfl, rfl, rfl, by decide +kernel, rfl, by decide +kernel, by decide +kernel⟩
abbrev s_Round__refuse_no_call : Stmt := (inCls (topS 16)).getD 13 (.Pass ⟨0, 0, 0, 0⟩)
theorem sc_Round__refuse_no_call : FnScope ["self", "turn", "call"] ["self", "turn", "call"] (defScope s_Round__refuse_no_call) := ⟨rfl, rfl, rfl, by decide +kernel, rfl, by decide +kernel, by decide +kernel⟩
abbrev s_Round_begins : Stmt := (inCls (topS 16)).getD 14 (.Pass ⟨0, 0, 0, 0⟩)
theorem sc_Round_begins : FnScope ["self", "turn", "call"] ["self", "turn", "call"] (defScope s_Round_begins) := ⟨rfl, rfl, rfl, by decide +kernel, rfl, by decide +kernel, by decide +kernel⟩
abbrev s_Round_ends : Stmt := (inCls (topS 16)).getD 15 (.Pass ⟨0, 0, 0, 0⟩)
theorem sc_Round_ends : FnScope ["self", "turn", "call"] ["self", "turn", "call"] (defScope s_Round_ends) := ⟨rfl, rfl, rfl, by decide +kernel, rfl, by decide +kernel, by decide +kernel⟩
abbrev s_Round_at : Stmt := (inCls (topS 16)).getD 16 (.Pass ⟨0, 0, 0, 0⟩)
theorem sc_Round_at : FnScope ["self", "hour", "call", "_", "name", "hours", "turn"] ["self", "hour"] (defScope s_Round_at) := ⟨rfl, rfl, rfl, by decide +kernel, rfl, by decide +kernel, by decide +kernel⟩
abbrev s_Round_waiting : Stmt := (inCls (topS 16)).getD 17 (.Pass ⟨0, 0, 0, 0⟩)
theorem sc_Round_waiting : FnScope ["self", "hour"] ["self", "hour"] (defScope s_Round_waiting) := ⟨rfl, rfl, rfl, by decide +kernel, rfl, by decide +kernel, by decide +kernel⟩
abbrev s_Round_how_many : Stmt := (inCls (topS 16)).getD 18 (.Pass ⟨0, 0, 0, 0⟩)
theorem sc_Round_how_many : FnScope ["self", "hour", "call"] ["self", "hour"] (defScope s_Round_how_many) := ⟨rfl, rfl, rfl, by decide +kernel, rfl, by decide +kernel, by decide +kernel⟩
abbrev s_Round_idle : Stmt := (inCls (topS 16)).getD 19 (.Pass ⟨0, 0, 0, 0⟩)
theorem sc_Round_idle : FnScope ["self", "hour"] ["self", "hour"] (defScope s_Round_idle) := ⟨rfl, rfl, rfl, by decide +kernel, rfl, by decide +kernel, by decide +kernel⟩
abbrev s_Round_first_over : Stmt := (inCls (topS 16)).getD 20 (.Pass ⟨0, 0, 0, 0⟩)
theorem sc_Round_first_over : FnScope ["self", "most", "hours", "turn", "call", "hour"] ["self", "most"] (defScope s_Round_first_over) := ⟨rfl, rfl, rfl, by decide +kernel, rfl, by decide +kernel, by decide +kernel⟩
abbrev s_Round__hour_over : Stmt := (inCls (topS 16)).getD 21 (.Pass ⟨0, 0, 0, 0⟩)
theorem sc_Round__hour_over : FnScope ["self", "at", "most", "second", "growth", "lacking"] ["self", "at", "most"] (defScope s_Round__hour_over) := ⟨rfl, rfl, rfl, by decide +kernel, rfl, by decide +kernel, by decide +kernel⟩
abbrev s_law_mixed : Stmt := topS 18
theorem sc_law_mixed : FnScope ["cell", "j", "number"] ["cell", "j"] (defScope s_law_mixed) := ⟨rfl, rfl, rfl, by decide +kernel, rfl, by decide +kernel, by decide +kernel⟩
abbrev s_law_folded : Stmt := topS 19
theorem sc_law_folded : FnScope ["script", "found", "j", "cell"] ["script"] (defScope s_law_folded) := ⟨rfl, rfl, rfl, by decide +kernel, rfl, by decide +kernel, by decide +kernel⟩
abbrev s_law_draw : Stmt := topS 20
theorem sc_law_draw : FnScope ["m", "many", "j", "spot", "cell"] ["m", "many"] (defScope s_law_draw) := ⟨rfl, rfl, rfl, by decide +kernel, rfl, by decide +kernel, by decide +kernel⟩
abbrev s_law_begun : Stmt := topS 21
theorem sc_law_begun : FnScope ["script", "m", "cell"] ["script"] (defScope s_law_begun) := ⟨rfl, rfl, rfl, by decide +kernel, rfl, by decide +kernel, by decide +kernel⟩
abbrev s_law_called : Stmt := topS 22
theorem sc_law_called : FnScope ["m", "many", "letters", "found", "is_last", "shift", "stride", "j", "sign", "said", "more"] ["m", "many"] (defScope s_law_called) := ⟨rfl, rfl, rfl, by decide +kernel, rfl, by decide +kernel, by decide +kernel⟩
abbrev s_law_plain : Stmt := topS 23
theorem sc_law_plain : FnScope ["m", "w", "top", "span", "many", "high", "comes", "works", "rest", "j", "come", "work"] ["m", "w", "top"] (defScope s_law_plain) := ⟨rfl, rfl, rfl, by decide +kernel, rfl, by decide +kernel, by decide +kernel⟩
abbrev s_law_rounds_on : Stmt := topS 24
theorem sc_law_rounds_on : FnScope ["m", "most_on"] ["m", "most_on"] (defScope s_law_rounds_on) := ⟨rfl, rfl, rfl, by decide +kernel, rfl, by decide +kernel, by decide +kernel⟩
abbrev s_law_calls_right : Stmt := topS 25
theorem sc_law_calls_right : FnScope ["m", "circle", "plain", "work", "k", "j", "on", "more", "found"] ["m", "circle", "plain", "work"] (defScope s_law_calls_right) := ⟨rfl, rfl, rfl, by decide +kernel, rfl, by decide +kernel, by decide +kernel⟩
abbrev s_law_press_right : Stmt := topS 26
theorem sc_law_press_right : FnScope ["m", "circle", "plain", "work", "date", "on", "near", "far"] ["m", "circle", "plain", "work", "date"] (defScope s_law_press_right) := ⟨rfl, rfl, rfl, by decide +kernel, rfl, by decide +kernel, by decide +kernel⟩
abbrev s_law_waits_right : Stmt := topS 27
theorem sc_law_waits_right : FnScope ["m", "circle", "plain", "work", "date", "span", "on", "found", "due"] ["m", "circle", "plain", "work", "date"] (defScope s_law_waits_right) := ⟨rfl, rfl, rfl, by decide +kernel, rfl, by decide +kernel, by decide +kernel⟩
abbrev s_law_many_right : Stmt := topS 28
theorem sc_law_many_right : FnScope ["m", "circle", "plain", "work", "date", "over", "long", "on", "due"] ["m", "circle", "plain", "work", "date"] (defScope s_law_many_right) := ⟨rfl, rfl, rfl, by decide +kernel, rfl, by decide +kernel, by decide +kernel⟩
abbrev s_law_over_right : Stmt := topS 29
theorem sc_law_over_right : FnScope ["m", "circle", "plain", "work", "over", "top", "found", "on", "due"] ["m", "circle", "plain", "work"] (defScope s_law_over_right) := ⟨rfl, rfl, rfl, by decide +kernel, rfl, by decide +kernel, by decide +kernel⟩
abbrev s_law : Stmt := topS 30
theorem sc_law : FnScope ["script", "m", "again", "w", "plain", "circle", "work", "turn", "date", "row"] ["script"] (defScope s_law) := ⟨rfl, rfl, rfl, by decide +kernel, rfl, by decide +kernel, by decide +kernel⟩
structure Txt (mg : PySem.Str → Option Value) (K : PySem.W.Frag) (prm : Params) where
  n_all : mg "all" = none
  n_enumerate : mg "enumerate" = none
  n_int : mg "int" = none
  n_len : mg "len" = none
  n_list : mg "list" = none
  n_max : mg "max" = none
  n_min : mg "min" = none
  n_range : mg "range" = none
  n_repr : mg "repr" = none
  n_sorted : mg "sorted" = none
  n_str : mg "str" = none
  n_sum : mg "sum" = none
  n_tuple : mg "tuple" = none
  n_type : mg "type" = none
  n_zip : mg "zip" = none
  t_MOST_LETTERS : Tok
  c_MOST_LETTERS : mg "MOST_LETTERS" = some (.int 8 t_MOST_LETTERS)
  a_NO_NAMES : Addr
  c_NO_NAMES : mg "NO_NAMES" = some (.ref a_NO_NAMES)
  q_NO_NAMES : ∀ H : Hp, SqT K H a_NO_NAMES [.str "style", .str "job", .str "round", .str "sew", .str "glue", .str "cover", .str "letter", .str "press", .str "hand", .str "haste"]
  t_MOST_LENGTH : Tok
  c_MOST_LENGTH : mg "MOST_LENGTH" = some (.int 1000 t_MOST_LENGTH)
  t_MOST_CALLS : Tok
  c_MOST_CALLS : mg "MOST_CALLS" = some (.int 12 t_MOST_CALLS)
  t_MOST_CALL_HOURS : Tok
  c_MOST_CALL_HOURS : mg "MOST_CALL_HOURS" = some (.int 1000 t_MOST_CALL_HOURS)
  t_FARTHEST : Tok
  c_FARTHEST : mg "FARTHEST" = some (.int 1000000000000000000 t_FARTHEST)
  f_is_whole : Addr
  fd_is_whole : FuncData
  F_is_whole : FunD K "is_whole" "is_whole" (defArgs s_is_whole) (defBody s_is_whole) (defScope s_is_whole) [.int 1000000] [] f_is_whole fd_is_whole
  g_is_whole : mg "is_whole" = some (.ref f_is_whole)
  f_is_name : Addr
  fd_is_name : FuncData
  F_is_name : FunD K "is_name" "is_name" (defArgs s_is_name) (defBody s_is_name) (defScope s_is_name) [] [] f_is_name fd_is_name
  g_is_name : mg "is_name" = some (.ref f_is_name)
  f_are_calls : Addr
  fd_are_calls : FuncData
  F_are_calls : FunD K "_are_calls" "_are_calls" (defArgs s_are_calls) (defBody s_are_calls) (defScope s_are_calls) [] [] f_are_calls fd_are_calls
  g_are_calls : mg "_are_calls" = some (.ref f_are_calls)
  f_refuse_no_hour : Addr
  fd_refuse_no_hour : FuncData
  F_refuse_no_hour : FunD K "_refuse_no_hour" "_refuse_no_hour" (defArgs s_refuse_no_hour) (defBody s_refuse_no_hour) (defScope s_refuse_no_hour) [] [] f_refuse_no_hour fd_refuse_no_hour
  g_refuse_no_hour : mg "_refuse_no_hour" = some (.ref f_refuse_no_hour)
  f_Round_init : Addr
  fd_Round_init : FuncData
  F_Round_init : FunD K "__init__" "Round.__init__" (defArgs s_Round_init) (defBody s_Round_init) (defScope s_Round_init) [.non] [] f_Round_init fd_Round_init
  f_Round__first_begins : Addr
  fd_Round__first_begins : FuncData
  F_Round__first_begins : FunD K "_first_begins" "Round._first_begins" (defArgs s_Round__first_begins) (defBody s_Round__first_begins) (defScope s_Round__first_begins) [] [] f_Round__first_begins fd_Round__first_begins
  f_Round__begin : Addr
  fd_Round__begin : FuncData
  F_Round__begin : FunD K "_begin" "Round._begin" (defArgs s_Round__begin) (defBody s_Round__begin) (defScope s_Round__begin) [] [] f_Round__begin fd_Round__begin
  f_Round__begun : Addr
  fd_Round__begun : FuncData
  F_Round__begun : FunD K "_begun" "Round._begun" (defArgs s_Round__begun) (defBody s_Round__begun) (defScope s_Round__begun) [] [] f_Round__begun fd_Round__begun
  f_Round__ended : Addr
  fd_Round__ended : FuncData
  F_Round__ended : FunD K "_ended" "Round._ended" (defArgs s_Round__ended) (defBody s_Round__ended) (defScope s_Round__ended) [] [] f_Round__ended fd_Round__ended
  f_Round__came : Addr
  fd_Round__came : FuncData
  F_Round__came : FunD K "_came" "Round._came" (defArgs s_Round__came) (defBody s_Round__came) (defScope s_Round__came) [] [] f_Round__came fd_Round__came
  f_Round__hours_done : Addr
  fd_Round__hours_done : FuncData
  F_Round__hours_done : FunD K "_hours_done" "Round._hours_done" (defArgs s_Round__hours_done) (defBody s_Round__hours_done) (defScope s_Round__hours_done) [] [] f_Round__hours_done fd_Round__hours_done
  f_Round__all_done : Addr
  fd_Round__all_done : FuncData
  F_Round__all_done : FunD K "_all_done" "Round._all_done" (defArgs s_Round__all_done) (defBody s_Round__all_done) (defScope s_Round__all_done) [] [] f_Round__all_done fd_Round__all_done
  f_Round__waiting : Addr
  fd_Round__waiting : FuncData
  F_Round__waiting : FunD K "_waiting" "Round._waiting" (defArgs s_Round__waiting) (defBody s_Round__waiting) (defScope s_Round__waiting) [] [] f_Round__waiting fd_Round__waiting
  f_Round_keeps_up : Addr
  fd_Round_keeps_up : FuncData
  F_Round_keeps_up : FunD K "keeps_up" "Round.keeps_up" (defArgs s_Round_keeps_up) (defBody s_Round_keeps_up) (defScope s_Round_keeps_up) [] [] f_Round_keeps_up fd_Round_keeps_up
  f_Round__refuse_no_call : Addr
  fd_Round__refuse_no_call : FuncData
  F_Round__refuse_no_call : FunD K "_refuse_no_call" "Round._refuse_no_call" (defArgs s_Round__refuse_no_call) (defBody s_Round__refuse_no_call) (defScope s_Round__refuse_no_call) [] [] f_Round__refuse_no_call fd_Round__refuse_no_call
  f_Round_begins : Addr
  fd_Round_begins : FuncData
  F_Round_begins : FunD K "begins" "Round.begins" (defArgs s_Round_begins) (defBody s_Round_begins) (defScope s_Round_begins) [] [] f_Round_begins fd_Round_begins
  f_Round_ends : Addr
  fd_Round_ends : FuncData
  F_Round_ends : FunD K "ends" "Round.ends" (defArgs s_Round_ends) (defBody s_Round_ends) (defScope s_Round_ends) [] [] f_Round_ends fd_Round_ends
  f_Round_at : Addr
  fd_Round_at : FuncData
  F_Round_at : FunD K "at" "Round.at" (defArgs s_Round_at) (defBody s_Round_at) (defScope s_Round_at) [] [] f_Round_at fd_Round_at
  f_Round_waiting : Addr
  fd_Round_waiting : FuncData
  F_Round_waiting : FunD K "waiting" "Round.waiting" (defArgs s_Round_waiting) (defBody s_Round_waiting) (defScope s_Round_waiting) [] [] f_Round_waiting fd_Round_waiting
  f_Round_how_many : Addr
  fd_Round_how_many : FuncData
  F_Round_how_many : FunD K "how_many" "Round.how_many" (defArgs s_Round_how_many) (defBody s_Round_how_many) (defScope s_Round_how_many) [] [] f_Round_how_many fd_Round_how_many
  f_Round_idle : Addr
  fd_Round_idle : FuncData
  F_Round_idle : FunD K "idle" "Round.idle" (defArgs s_Round_idle) (defBody s_Round_idle) (defScope s_Round_idle) [] [] f_Round_idle fd_Round_idle
  f_Round_first_over : Addr
  fd_Round_first_over : FuncData
  F_Round_first_over : FunD K "first_over" "Round.first_over" (defArgs s_Round_first_over) (defBody s_Round_first_over) (defScope s_Round_first_over) [] [] f_Round_first_over fd_Round_first_over
  f_Round__hour_over : Addr
  fd_Round__hour_over : FuncData
  F_Round__hour_over : FunD K "_hour_over" "Round._hour_over" (defArgs s_Round__hour_over) (defBody s_Round__hour_over) (defScope s_Round__hour_over) [] [] f_Round__hour_over fd_Round__hour_over
  f_law_mixed : Addr
  fd_law_mixed : FuncData
  F_law_mixed : FunD K "_law_mixed" "_law_mixed" (defArgs s_law_mixed) (defBody s_law_mixed) (defScope s_law_mixed) [] [] f_law_mixed fd_law_mixed
  g_law_mixed : mg "_law_mixed" = some (.ref f_law_mixed)
  f_law_folded : Addr
  fd_law_folded : FuncData
  F_law_folded : FunD K "_law_folded" "_law_folded" (defArgs s_law_folded) (defBody s_law_folded) (defScope s_law_folded) [] [] f_law_folded fd_law_folded
  g_law_folded : mg "_law_folded" = some (.ref f_law_folded)
  f_law_draw : Addr
  fd_law_draw : FuncData
  F_law_draw : FunD K "_law_draw" "_law_draw" (defArgs s_law_draw) (defBody s_law_draw) (defScope s_law_draw) [] [] f_law_draw fd_law_draw
  g_law_draw : mg "_law_draw" = some (.ref f_law_draw)
  f_law_begun : Addr
  fd_law_begun : FuncData
  F_law_begun : FunD K "_law_begun" "_law_begun" (defArgs s_law_begun) (defBody s_law_begun) (defScope s_law_begun) [] [] f_law_begun fd_law_begun
  g_law_begun : mg "_law_begun" = some (.ref f_law_begun)
  f_law_called : Addr
  fd_law_called : FuncData
  F_law_called : FunD K "_law_called" "_law_called" (defArgs s_law_called) (defBody s_law_called) (defScope s_law_called) [] [] f_law_called fd_law_called
  g_law_called : mg "_law_called" = some (.ref f_law_called)
  f_law_plain : Addr
  fd_law_plain : FuncData
  F_law_plain : FunD K "_law_plain" "_law_plain" (defArgs s_law_plain) (defBody s_law_plain) (defScope s_law_plain) [] [] f_law_plain fd_law_plain
  g_law_plain : mg "_law_plain" = some (.ref f_law_plain)
  f_law_rounds_on : Addr
  fd_law_rounds_on : FuncData
  F_law_rounds_on : FunD K "_law_rounds_on" "_law_rounds_on" (defArgs s_law_rounds_on) (defBody s_law_rounds_on) (defScope s_law_rounds_on) [] [] f_law_rounds_on fd_law_rounds_on
  g_law_rounds_on : mg "_law_rounds_on" = some (.ref f_law_rounds_on)
  f_law_calls_right : Addr
  fd_law_calls_right : FuncData
  F_law_calls_right : FunD K "_law_calls_right" "_law_calls_right" (defArgs s_law_calls_right) (defBody s_law_calls_right) (defScope s_law_calls_right) [] [] f_law_calls_right fd_law_calls_right
  g_law_calls_right : mg "_law_calls_right" = some (.ref f_law_calls_right)
  f_law_press_right : Addr
  fd_law_press_right : FuncData
  F_law_press_right : FunD K "_law_press_right" "_law_press_right" (defArgs s_law_press_right) (defBody s_law_press_right) (defScope s_law_press_right) [] [] f_law_press_right fd_law_press_right
  g_law_press_right : mg "_law_press_right" = some (.ref f_law_press_right)
  f_law_waits_right : Addr
  fd_law_waits_right : FuncData
  F_law_waits_right : FunD K "_law_waits_right" "_law_waits_right" (defArgs s_law_waits_right) (defBody s_law_waits_right) (defScope s_law_waits_right) [] [] f_law_waits_right fd_law_waits_right
  g_law_waits_right : mg "_law_waits_right" = some (.ref f_law_waits_right)
  f_law_many_right : Addr
  fd_law_many_right : FuncData
  F_law_many_right : FunD K "_law_many_right" "_law_many_right" (defArgs s_law_many_right) (defBody s_law_many_right) (defScope s_law_many_right) [] [] f_law_many_right fd_law_many_right
  g_law_many_right : mg "_law_many_right" = some (.ref f_law_many_right)
  f_law_over_right : Addr
  fd_law_over_right : FuncData
  F_law_over_right : FunD K "_law_over_right" "_law_over_right" (defArgs s_law_over_right) (defBody s_law_over_right) (defScope s_law_over_right) [] [] f_law_over_right fd_law_over_right
  g_law_over_right : mg "_law_over_right" = some (.ref f_law_over_right)
  f_law : Addr
  fd_law : FuncData
  F_law : FunD K "law" "law" (defArgs s_law) (defBody s_law) (defScope s_law) [] [] f_law fd_law
  g_law : mg "law" = some (.ref f_law)
  C_Round : Addr
  g_Round : mg "Round" = some (.ref C_Round)
  cl_Round : Cls K C_Round
  no_Round__length : NoAttr K C_Round "_length"
  no_Round__calls : NoAttr K C_Round "_calls"
  no_Round__total : NoAttr K C_Round "_total"
  no_Round__step : NoAttr K C_Round "_step"
  no_Round__begins : NoAttr K C_Round "_begins"
  mk_Round : Mk K C_Round f_Round_init
  m_Round__first_begins : Meth K C_Round "_first_begins" f_Round__first_begins
  m_Round__begin : Meth K C_Round "_begin" f_Round__begin
  m_Round__begun : Meth K C_Round "_begun" f_Round__begun
  m_Round__ended : Meth K C_Round "_ended" f_Round__ended
  m_Round__came : Meth K C_Round "_came" f_Round__came
  m_Round__hours_done : Meth K C_Round "_hours_done" f_Round__hours_done
  m_Round__all_done : Meth K C_Round "_all_done" f_Round__all_done
  m_Round__waiting : Meth K C_Round "_waiting" f_Round__waiting
  m_Round_keeps_up : Meth K C_Round "keeps_up" f_Round_keeps_up
  m_Round__refuse_no_call : Meth K C_Round "_refuse_no_call" f_Round__refuse_no_call
  m_Round_begins : Meth K C_Round "begins" f_Round_begins
  m_Round_ends : Meth K C_Round "ends" f_Round_ends
  m_Round_at : Meth K C_Round "at" f_Round_at
  m_Round_waiting : Meth K C_Round "waiting" f_Round_waiting
  m_Round_how_many : Meth K C_Round "how_many" f_Round_how_many
  m_Round_idle : Meth K C_Round "idle" f_Round_idle
  m_Round_first_over : Meth K C_Round "first_over" f_Round_first_over
  m_Round__hour_over : Meth K C_Round "_hour_over" f_Round__hour_over
local macro_rules | `(tactic| walk_at "mulok") => `(tactic| first | exact Or.inr ⟨by decide, by decide⟩ | exact Or.inl ⟨by decide, by decide⟩ | exact Or.inr ⟨by omega, by omega⟩ | exact Or.inl ⟨by omega, by omega⟩)
local macro_rules | `(tactic| walk_at "st") => `(tactic| first
  | refine ⟨_, rfl, ?_⟩
  | refine ⟨_, _, rfl, rfl, (by walk_at "mulok"), ?_⟩
  | refine ⟨_, _, rfl, rfl, (by show (0 : Int) < _; decide), ?_⟩
  | refine ⟨_, _, rfl, rfl, ⟨by decide, by decide⟩, ?_⟩
  | refine ⟨_, _, rfl, rfl, ?_⟩)
section
variable {P : Program} {w : World} {K : PySem.W.Frag} {mg : PySem.Str → Option Value} {base : Heap}
theorem b_Round_init_3 {prm : Params} (T : Txt mg K prm) : ∃ ds, Vals ([] : List V) ds ∧ Binds K T.fd_Round_init ["self", "length", "calls"] ds := FunD.binds1 (ps := ["self", "length", "calls"]) T.F_Round_init 3 1 (by simp) rfl fun D kV doc pm an cdv ct us its h1 h2 => match us, its, h1, h2 with | [a0, a1, a2], [d0], _, _ => ⟨_, rfl, rfl⟩
theorem b_Round__all_done_2 {prm : Params} (T : Txt mg K prm) : ∃ ds, Vals [] ds ∧ Binds K T.fd_Round__all_done ["self", "hour"] ds := FunD.b0 T.F_Round__all_done fun kV doc pm an cdv ct us hl => match us, hl with | [a0, a1], _ => rfl
theorem b_Round__begin_3 {prm : Params} (T : Txt mg K prm) : ∃ ds, Vals [] ds ∧ Binds K T.fd_Round__begin ["self", "turn", "call"] ds := FunD.b0 T.F_Round__begin fun kV doc pm an cdv ct us hl => match us, hl with | [a0, a1, a2], _ => rfl
theorem b_Round__begun_3 {prm : Params} (T : Txt mg K prm) : ∃ ds, Vals [] ds ∧ Binds K T.fd_Round__begun ["self", "call", "hour"] ds := FunD.b0 T.F_Round__begun fun kV doc pm an cdv ct us hl => match us, hl with | [a0, a1, a2], _ => rfl
theorem b_Round__came_3 {prm : Params} (T : Txt mg K prm) : ∃ ds, Vals [] ds ∧ Binds K T.fd_Round__came ["self", "call", "hour"] ds := FunD.b0 T.F_Round__came fun kV doc pm an cdv ct us hl => match us, hl with | [a0, a1, a2], _ => rfl
theorem b_Round__ended_3 {prm : Params} (T : Txt mg K prm) : ∃ ds, Vals [] ds ∧ Binds K T.fd_Round__ended ["self", "call", "hour"] ds := FunD.b0 T.F_Round__ended fun kV doc pm an cdv ct us hl => match us, hl with | [a0, a1, a2], _ => rfl
theorem b_Round__first_begins_1 {prm : Params} (T : Txt mg K prm) : ∃ ds, Vals [] ds ∧ Binds K T.fd_Round__first_begins ["self"] ds := FunD.b0 T.F_Round__first_begins fun kV doc pm an cdv ct us hl => match us, hl with | [a0], _ => rfl
theorem b_Round__hour_over_3 {prm : Params} (T : Txt mg K prm) : ∃ ds, Vals [] ds ∧ Binds K T.fd_Round__hour_over ["self", "at", "most"] ds := FunD.b0 T.F_Round__hour_over fun kV doc pm an cdv ct us hl => match us, hl with | [a0, a1, a2], _ => rfl
theorem b_Round__hours_done_3 {prm : Params} (T : Txt mg K prm) : ∃ ds, Vals [] ds ∧ Binds K T.fd_Round__hours_done ["self", "call", "hour"] ds := FunD.b0 T.F_Round__hours_done fun kV doc pm an cdv ct us hl => match us, hl with | [a0, a1, a2], _ => rfl
theorem b_Round__refuse_no_call_3 {prm : Params} (T : Txt mg K prm) : ∃ ds, Vals [] ds ∧ Binds K T.fd_Round__refuse_no_call ["self", "turn", "call"] ds := FunD.b0 T.F_Round__refuse_no_call fun kV doc pm an cdv ct us hl => match us, hl with | [a0, a1, a2], _ => rfl
theorem b_Round__waiting_2 {prm : Params} (T : Txt mg K prm) : ∃ ds, Vals [] ds ∧ Binds K T.fd_Round__waiting ["self", "hour"] ds := FunD.b0 T.F_Round__waiting fun kV doc pm an cdv ct us hl => match us, hl with | [a0, a1], _ => rfl
theorem b_Round_at_2 {prm : Params} (T : Txt mg K prm) : ∃ ds, Vals [] ds ∧ Binds K T.fd_Round_at ["self", "hour"] ds := FunD.b0 T.F_Round_at fun kV doc pm an cdv ct us hl => match us, hl with | [a0, a1], _ => rfl
theorem b_Round_begins_3 {prm : Params} (T : Txt mg K prm) : ∃ ds, Vals [] ds ∧ Binds K T.fd_Round_begins ["self", "turn", "call"] ds := FunD.b0 T.F_Round_begins fun kV doc pm an cdv ct us hl => match us, hl with | [a0, a1, a2], _ => rfl
theorem b_Round_ends_3 {prm : Params} (T : Txt mg K prm) : ∃ ds, Vals [] ds ∧ Binds K T.fd_Round_ends ["self", "turn", "call"] ds := FunD.b0 T.F_Round_ends fun kV doc pm an cdv ct us hl => match us, hl with | [a0, a1, a2], _ => rfl
theorem b_Round_first_over_2 {prm : Params} (T : Txt mg K prm) : ∃ ds, Vals [] ds ∧ Binds K T.fd_Round_first_over ["self", "most"] ds := FunD.b0 T.F_Round_first_over fun kV doc pm an cdv ct us hl => match us, hl with | [a0, a1], _ => rfl
theorem b_Round_how_many_2 {prm : Params} (T : Txt mg K prm) : ∃ ds, Vals [] ds ∧ Binds K T.fd_Round_how_many ["self", "hour"] ds := FunD.b0 T.F_Round_how_many fun kV doc pm an cdv ct us hl => match us, hl with | [a0, a1], _ => rfl
theorem b_Round_idle_2 {prm : Params} (T : Txt mg K prm) : ∃ ds, Vals [] ds ∧ Binds K T.fd_Round_idle ["self", "hour"] ds := FunD.b0 T.F_Round_idle fun kV doc pm an cdv ct us hl => match us, hl with | [a0, a1], _ => rfl
theorem b_Round_keeps_up_1 {prm : Params} (T : Txt mg K prm) : ∃ ds, Vals [] ds ∧ Binds K T.fd_Round_keeps_up ["self"] ds := FunD.b0 T.F_Round_keeps_up fun kV doc pm an cdv ct us hl => match us, hl with | [a0], _ => rfl
theorem b_Round_waiting_2 {prm : Params} (T : Txt mg K prm) : ∃ ds, Vals [] ds ∧ Binds K T.fd_Round_waiting ["self", "hour"] ds := FunD.b0 T.F_Round_waiting fun kV doc pm an cdv ct us hl => match us, hl with | [a0, a1], _ => rfl
theorem b_are_calls_2 {prm : Params} (T : Txt mg K prm) : ∃ ds, Vals [] ds ∧ Binds K T.fd_are_calls ["thing", "length"] ds := FunD.b0 T.F_are_calls fun kV doc pm an cdv ct us hl => match us, hl with | [a0, a1], _ => rfl
theorem b_law_begun_1 {prm : Params} (T : Txt mg K prm) : ∃ ds, Vals [] ds ∧ Binds K T.fd_law_begun ["script"] ds := FunD.b0 T.F_law_begun fun kV doc pm an cdv ct us hl => match us, hl with | [a0], _ => rfl
theorem b_law_called_2 {prm : Params} (T : Txt mg K prm) : ∃ ds, Vals [] ds ∧ Binds K T.fd_law_called ["m", "many"] ds := FunD.b0 T.F_law_called fun kV doc pm an cdv ct us hl => match us, hl with | [a0, a1], _ => rfl
theorem b_law_calls_right_4 {prm : Params} (T : Txt mg K prm) : ∃ ds, Vals [] ds ∧ Binds K T.fd_law_calls_right ["m", "circle", "plain", "work"] ds := FunD.b0 T.F_law_calls_right fun kV doc pm an cdv ct us hl => match us, hl with | [a0, a1, a2, a3], _ => rfl
theorem b_law_draw_2 {prm : Params} (T : Txt mg K prm) : ∃ ds, Vals [] ds ∧ Binds K T.fd_law_draw ["m", "many"] ds := FunD.b0 T.F_law_draw fun kV doc pm an cdv ct us hl => match us, hl with | [a0, a1], _ => rfl
theorem b_law_folded_1 {prm : Params} (T : Txt mg K prm) : ∃ ds, Vals [] ds ∧ Binds K T.fd_law_folded ["script"] ds := FunD.b0 T.F_law_folded fun kV doc pm an cdv ct us hl => match us, hl with | [a0], _ => rfl
theorem b_law_many_right_5 {prm : Params} (T : Txt mg K prm) : ∃ ds, Vals [] ds ∧ Binds K T.fd_law_many_right ["m", "circle", "plain", "work", "date"] ds := FunD.b0 T.F_law_many_right fun kV doc pm an cdv ct us hl => match us, hl with | [a0, a1, a2, a3, a4], _ => rfl
theorem b_law_mixed_2 {prm : Params} (T : Txt mg K prm) : ∃ ds, Vals [] ds ∧ Binds K T.fd_law_mixed ["cell", "j"] ds := FunD.b0 T.F_law_mixed fun kV doc pm an cdv ct us hl => match us, hl with | [a0, a1], _ => rfl
theorem b_law_over_right_4 {prm : Params} (T : Txt mg K prm) : ∃ ds, Vals [] ds ∧ Binds K T.fd_law_over_right ["m", "circle", "plain", "work"] ds := FunD.b0 T.F_law_over_right fun kV doc pm an cdv ct us hl => match us, hl with | [a0, a1, a2, a3], _ => rfl
theorem b_law_plain_3 {prm : Params} (T : Txt mg K prm) : ∃ ds, Vals [] ds ∧ Binds K T.fd_law_plain ["m", "w", "top"] ds := FunD.b0 T.F_law_plain fun kV doc pm an cdv ct us hl => match us, hl with | [a0, a1, a2], _ => rfl
theorem b_law_press_right_5 {prm : Params} (T : Txt mg K prm) : ∃ ds, Vals [] ds ∧ Binds K T.fd_law_press_right ["m", "circle", "plain", "work", "date"] ds := FunD.b0 T.F_law_press_right fun kV doc pm an cdv ct us hl => match us, hl with | [a0, a1, a2, a3, a4], _ => rfl
theorem b_law_rounds_on_2 {prm : Params} (T : Txt mg K prm) : ∃ ds, Vals [] ds ∧ Binds K T.fd_law_rounds_on ["m", "most_on"] ds := FunD.b0 T.F_law_rounds_on fun kV doc pm an cdv ct us hl => match us, hl with | [a0, a1], _ => rfl
theorem b_law_waits_right_5 {prm : Params} (T : Txt mg K prm) : ∃ ds, Vals [] ds ∧ Binds K T.fd_law_waits_right ["m", "circle", "plain", "work", "date"] ds := FunD.b0 T.F_law_waits_right fun kV doc pm an cdv ct us hl => match us, hl with | [a0, a1, a2, a3, a4], _ => rfl
theorem b_refuse_no_hour_1 {prm : Params} (T : Txt mg K prm) : ∃ ds, Vals [] ds ∧ Binds K T.fd_refuse_no_hour ["hour"] ds := FunD.b0 T.F_refuse_no_hour fun kV doc pm an cdv ct us hl => match us, hl with | [a0], _ => rfl
theorem b_is_name_1 {prm : Params} (T : Txt mg K prm) : ∃ ds, Vals [] ds ∧ Binds K T.fd_is_name ["thing"] ds := FunD.b0 T.F_is_name fun kV doc pm an cdv ct us hl => match us, hl with | [a0], _ => rfl
theorem b_is_whole_3 {prm : Params} (T : Txt mg K prm) : ∃ ds, Vals ([] : List V) ds ∧ Binds K T.fd_is_whole ["thing", "least", "most"] ds := FunD.binds1 (ps := ["thing", "least", "most"]) T.F_is_whole 3 1 (by simp) rfl fun D kV doc pm an cdv ct us its h1 h2 => match us, its, h1, h2 with | [a0, a1, a2], [d0], _, _ => ⟨_, rfl, rfl⟩
theorem cok_Round {prm : Params} (T : Txt mg K prm) : Dl.COk K T.C_Round [] := ⟨T.cl_Round, fun f h => absurd h List.not_mem_nil⟩
theorem nmN : Nm "next" := ⟨by decide +kernel, by decide +kernel⟩
theorem ok_law_mixed (T : Txt mg K w.params) : FnOk P w K mg base CX0 1 T.f_law_mixed T.fd_law_mixed ["cell", "j"] spMixed := by
  refine FunD.ok0 T.F_law_mixed sc_law_mixed (fun vs H Q E h => ?_) (fun cdv A outer s H vs Q E hr h => ?_)
  · obtain ⟨_, _, rfl, _⟩ := h
    rfl
  · obtain ⟨cell, k, rfl, c0, c1, k0, k1, q⟩ := h
    refine ⟨_, pss_cons (ps_set (i := 2) sc_law_mixed.nd rfl (.inl rfl) (pe_op op_add (pe_op op_add (pe_op op_mod (pe_op op_mul (pe_op op_mul (pv 0) (pe_op op_add (pe_int) (pe_op op_mul (pe_int) (pv 1)))) (pe_int)) (pe_int)) (pe_op op_mul (pe_op op_mul (pe_int) (pv 1)) (pv 1))) (pe_op op_mul (pe_int) (pv 1))))
 (pss_one (ps_ret (pe_op op_fdiv (pe_op op_mod (pe_op op_mul (pv 2) (pe_int)) (pe_int)) (pe_int)))), ?_⟩
    have e1 : 0 ≤ cell * (1 + 2 * k) * 48271 % 2147483647 := Int.emod_nonneg _ (by decide)
    have e2 : 0 ≤ 7919 * k * k := Int.mul_nonneg (Int.mul_nonneg (by decide) k0) k0
    have e3 : 0 ≤ 104729 * k := Int.mul_nonneg (by decide) k0
    repeat walk_at "st"
    refine q _ ?_ ?_
    · exact Int.ediv_nonneg (Int.emod_nonneg _ (by decide)) (by decide)
    · show _ % 2147483629 / 7 < 2147483648
      omega
theorem ok_law_folded (T : Txt mg K w.params) : FnOk P w K mg base CX0 1 T.f_law_folded T.fd_law_folded ["script"] (spFolded K) := by
  refine FunD.ok0 T.F_law_folded sc_law_folded (fun vs H Q E h => ?_) (fun cdv A outer s H vs Q E hr h => ?_)
  · obtain ⟨_, _, rfl, _⟩ := h
    rfl
  · obtain ⟨a, ns, rfl, hS, hlen, q⟩ := h
    refine ⟨_, pss_cons (ps_setLc (i := 1) (own := [("j", 2)]) (g := gName 2) (tt := tYes) (by rfl) sc_law_folded.nd rfl rfl (sw_true rfl rfl rfl (by decide +kernel)) (pi_range1 (by rfl) T.n_range (pa_cons (pe_int) pa_nil)) (blkOk_by (own := [("j", 2)]) (N := ["script", "found", "j", "cell"]) (sc := defScope s_law_folded) (by decide +kernel)) (fun _ _ _ _ _ => pg_name (i := 2) sc_law_folded.nd rfl (Or.inl rfl)) (fun _ _ _ _ _ => pts_nil) (fun _ _ _ _ _ => pe_op op_add (pe_int) (pv 2)))
 (pss_cons (ps_for PassesOwn.never rfl (pi_enum (by rfl) T.n_enumerate (pa_cons (pv 0) pa_nil)) (pg_tup (n := 2) (by rfl) (pgs_cons (pg_name (i := 2) sc_law_folded.nd rfl (.inl rfl)) (pgs_cons (pg_name (i := 3) sc_law_folded.nd rfl (.inl rfl)) (pgs_nil)))) (pss_one (ps_asg (pe_op op_mod (pe_op op_add (pe_op op_mul (pe_ix ix_list (pv 1) (pe_op op_mod (pv 2) (pe_int)) (fun _ _ => rfl)) (pe_int)) (pv 3)) (pe_int)) (pg_sub (pv 1) (pe_op op_mod (pv 2) (pe_int)) set_list))))
 (pss_cons (ps_for PassesOwn.never rfl (pi_range2 (by rfl) T.n_range (pa_cons (pe_int) (pa_cons (pe_int) pa_nil))) (pg_name (i := 2) sc_law_folded.nd rfl (.inl rfl)) (pss_one (ps_asg (pe_op op_mod (pe_op op_add (pe_ix ix_list (pv 1) (pv 2) (fun _ _ => rfl)) (pe_op op_mul (pe_ix ix_list (pv 1) (pe_op op_sub (pv 2) (pe_int)) (fun _ _ => rfl)) (pe_int))) (pe_int)) (pg_sub (pv 1) (pv 2) set_list))))
 (pss_one (ps_ret (pv 1))))), ?_⟩
    refine ⟨64, rfl, by decide, by decide, fun p fresh => lc_range (lo := 0) (n := 64) (fun i H1 => Same H H1 ∧ H1 p = some (.lst (((List.range i).map fun j : Nat => (17 : Int) + (0 + (j : Int))).map V.int))) ⟨same_new fresh, upd_same⟩ ?_ ?_⟩
    · rintro i H1 lt ⟨sm, e⟩
      refine ⟨rfl, ?_⟩
      repeat walk_at "st"
      refine ⟨_, e, ?_, same_put sm fresh, ?_⟩
      · simp only [List.length_map, List.length_range]
        exact small1000 (by omega)
      · rw [upd_same, List.range_succ]
        simp only [List.map_append, List.map_cons, List.map_nil]
    · rintro H1 ⟨sm, e⟩
      refine ⟨_, rfl, a, _, rfl, sm.seq hS, for_enum (K := K) (a := a) (xs := ns.map V.int) (fun i σ H2 => ∃ (v2 v3 : Option V) (cs : List Int), σ = [some (.ref a), some (.ref p), v2, v3] ∧ Same H H2 ∧ H2 p = some (.lst (cs.map V.int)) ∧ cs.length = 64 ∧ ∀ c ∈ cs, 0 ≤ c ∧ c < 2147483647)
        ⟨none, none, _, rfl, sm, e, by simp, ?_⟩ (fun i σ H2 ⟨_, _, _, _, sm2, _⟩ => sm2.seq hS) ?_ ?_⟩
      · intro c hc
        obtain ⟨j, hj, rfl⟩ := List.mem_map.mp hc
        have := List.mem_range.mp hj
        omega
      · rintro i x σ H2 T2 lt hx ⟨v2, v3, cs, rfl, sm2, e2, l2, b2⟩ fr
        obtain ⟨z, rfl⟩ := int_of hx
        have ep : (upd H2 T2 (.tup [.int (i : Nat), .int z])) p = some (.lst (cs.map V.int)) := by
          rw [upd_ne (ne_of_none e2 fr)]
          exact e2
        refine ⟨T2, _, rfl, .inl (.inl upd_same), rfl, _, _, rfl, _, _, rfl, rfl, ?_⟩
        have i0 : (0 : Int) ≤ (i : Int) % 64 := Int.emod_nonneg _ (by decide)
        have i1 : (i : Int) % 64 < cs.length := by
          rw [l2]
          exact Int.emod_lt_of_pos _ (by decide)
        obtain ⟨c, hc, ac, ax⟩ := at_int i0 i1
        repeat walk_at "st"
        refine ⟨p, _, _, _, rfl, rfl, .inl (.inl ep), ac, ?_⟩
        repeat walk_at "st"
        refine ⟨p, _, _, _, rfl, rfl, ep, ax, ?_⟩
        rw [set_int]
        refine ⟨_, _, _, rfl, ?_, upd_same, by rw [List.length_set]; exact l2, all_set b2 ⟨Int.emod_nonneg _ (by decide), Int.emod_lt_of_pos _ (by decide)⟩⟩
        exact same_put (sm2.trans (same_new fr)) fresh
      · rintro σ H2 ⟨v2, v3, cs, rfl, sm2, e2, l2, b2⟩
        refine ⟨1, 64, rfl, by decide, for_range (lo := 1) (n := 63) (fun i σ H3 => ∃ (v2 v3 : Option V) (cs : List Int), σ = [some (.ref a), some (.ref p), v2, v3] ∧ Same H H3 ∧ H3 p = some (.lst (cs.map V.int)) ∧ cs.length = 64 ∧ ∀ c ∈ cs, 0 ≤ c ∧ c < 2147483647)
          ⟨v2, v3, cs, rfl, sm2, e2, l2, b2⟩ ?_ ?_⟩
        · rintro i σ H3 lt ⟨v2, v3, cs, rfl, sm3, e3, l3, b3⟩
          obtain ⟨c, hc, ac, ax⟩ := at_int (cs := cs) (i := 1 + (i : Int)) (by omega) (by omega)
          obtain ⟨c', hc', ac', _⟩ := at_int (cs := cs) (i := 1 + (i : Int) - 1) (by omega) (by omega)
          have := b3 c' hc'
          repeat walk_at "st"
          refine ⟨p, _, _, _, rfl, rfl, .inl (.inl e3), ac, ?_⟩
          repeat walk_at "st"
          refine ⟨p, _, _, _, rfl, rfl, .inl (.inl e3), ac', ?_⟩
          repeat walk_at "st"
          refine ⟨p, _, _, _, rfl, rfl, e3, ax, ?_⟩
          rw [set_int]
          exact ⟨_, _, _, rfl, same_put sm3 fresh, upd_same, by rw [List.length_set]; exact l3, all_set b3 ⟨Int.emod_nonneg _ (by decide), Int.emod_lt_of_pos _ (by decide)⟩⟩
        · rintro σ H3 ⟨v2, v3, cs, rfl, sm3, e3, l3, b3⟩
          exact ⟨_, rfl, q p cs H3 fresh l3 b3 sm3 e3⟩
theorem ok0_law_draw (T : Txt mg K w.params) : FnOk P w K mg base CX0 2 T.f_law_draw T.fd_law_draw ["m", "many"] (spDrawS "next") := by
  refine FunD.ok0 T.F_law_draw sc_law_draw (fun vs H Q E h => ?_) (fun cdv A outer s H vs Q E hr h => ?_)
  · obtain ⟨_, _, _, _, rfl, _⟩ := h
    rfl
  · obtain ⟨d, many, H0, n, rfl, m0, m1, ⟨⟨lc, ll, cs, ls, k, hd, hc, hl, ne, c64, cb, l63, k0, kn, f1, f2⟩, sm, fr⟩, q⟩ := h
    have ndc : d ≠ lc := ne_of hd hc (by intro z; cases z)
    have ndl : d ≠ ll := ne_of hd hl (by intro z; cases z)
    refine ⟨_, pss_cons (ps_set (i := 2) sc_law_draw.nd rfl (.inl rfl) (pe_dget (hu_of hr) (pv 0) (pe_str) (fun _ _ => rfl)))
 (pss_cons (ps_dput (hu_of hr) (pv 0) (pe_str) (pe_op op_add (pv 2) (pe_int)) rfl)
 (pss_cons (ps_if (pt_cmpR (op_neD hr.units) (pe_dget (hu_of hr) (pv 0) (pe_str) (fun _ _ => rfl)) (pe_lst (pa_nil)) (by first | rfl | exact nomark _)) (pss_cons (ps_set (i := 3) sc_law_draw.nd rfl (.inl rfl) (pe_op op_mod (pv 2) (pe_callB call_len_seq (by rfl) T.n_len (by decide +kernel) (pa_cons (pe_dget (hu_of hr) (pv 0) (pe_str) (fun _ _ => rfl)) pa_nil))))
 (pss_cons (ps_set (i := 4) sc_law_draw.nd rfl (.inl rfl) (pe_ix ix_list (pe_dget (hu_of hr) (pv 0) (pe_str) (fun _ _ => rfl)) (pv 3) (fun _ _ => rfl)))
 (pss_one (ps_if (pt_cmpR op_gt (pv 4) (pe_int) (by first | rfl | exact nomark _)) (pss_cons (ps_asg (pe_op op_fdivN (pv 4) (pv 1)) (pg_sub (pe_dget (hu_of hr) (pv 0) (pe_str) (fun _ _ => rfl)) (pv 3) set_list))
 (pss_one (ps_ret (pe_op op_mod (pv 4) (pv 1))))) (pss_nil))))) (pss_nil))
 (pss_one (ps_ret (pe_op op_mod (pe_callX (ok_law_mixed T) (hr.mono (by decide)) (by rfl) T.g_law_mixed T.F_law_mixed.kp (b_law_mixed_2 T) pass0 (pa_cons (pe_callX (ok_law_mixed T) (hr.mono (by decide)) (by rfl) T.g_law_mixed T.F_law_mixed.kp (b_law_mixed_2 T) pass0 (pa_cons (pe_op op_add (pe_ix ix_list (pe_dget (hu_of hr) (pv 0) (pe_str) (fun _ _ => rfl)) (pe_op op_mod (pv 2) (pe_int)) (fun _ _ => rfl)) (pe_op op_mul (pe_int) (pe_op op_fdiv (pv 2) (pe_int)))) (pa_cons (pv 2) pa_nil))) (pa_cons (pe_op op_add (pv 2) (pe_int)) pa_nil))) (pv 1)))))), ?_⟩
    -- k = m["spot"]; m["spot"] = k + 1
    refine ⟨_, rfl, d, _, rfl, ms_S nmN ▸ DGet.k (k := Sum.inr "next") hd, ?_⟩
    refine ⟨_, rfl, _, _, rfl, rfl, _, rfl, d, _, rfl, DPut.k (k := Sum.inr "next") hd (small1000 (by show 3 ≤ 1000; decide)), ?_⟩
    rw [ms_put nmN]
    have hd1 : (upd H d (.dK (mKs "next" lc ll (k + 1)))) d = some (.dK (mKs "next" lc ll (k + 1))) := upd_same
    have hc1 : (upd H d (.dK (mKs "next" lc ll (k + 1)))) lc = some (.lst (cs.map V.int)) := by rw [upd_ne ndc.symm]; exact hc
    have hl1 : (upd H d (.dK (mKs "next" lc ll (k + 1)))) ll = some (.lst (ls.map V.int)) := by rw [upd_ne ndl.symm]; exact hl
    have sm1 : Same H0 (upd H d (.dK (mKs "next" lc ll (k + 1)))) := same_put sm fr
    -- if m["left"] != []
    refine ⟨_, rfl, d, _, rfl, ms_L ▸ DGet.k (k := kL) hd1, Nat.zero_le _, fun e fe => ?_⟩
    obtain ⟨H1, eH1⟩ : ∃ H1, H1 = upd H d (.dK (mKs "next" lc ll (k + 1))) := ⟨_, rfl⟩
    rw [← eH1] at hd1 hc1 hl1 sm1 fe ⊢
    have nde : d ≠ e := ne_of_none hd1 fe
    have nce : lc ≠ e := ne_of_none hc1 fe
    have nle : ll ≠ e := ne_of_none hl1 fe
    obtain ⟨H2, eH2⟩ : ∃ H2, H2 = upd H1 e (.lst []) := ⟨_, rfl⟩
    rw [← eH2]
    have he2 : H2 e = some (.lst []) := by rw [eH2, upd_same]
    have hd2 : H2 d = some (.dK (mKs "next" lc ll (k + 1))) := by rw [eH2, upd_ne nde]; exact hd1
    have hc2 : H2 lc = some (.lst (cs.map V.int)) := by rw [eH2, upd_ne nce]; exact hc1
    have hl2 : H2 ll = some (.lst (ls.map V.int)) := by rw [eH2, upd_ne nle]; exact hl1
    have sm2 : Same H0 H2 := by rw [eH2]; exact fun b u z => by rw [upd_ne (ne_of_none (sm1 b u z) fe)]; exact sm1 b u z
    refine ⟨_, _, .lst (.inl (.inl hl2)) (dp_ints ls), .lst (.inl (.inl he2)) .nil, shaped_ints ls, shaped_nil, _, rfl, ?_⟩
    have dr2 : DrS "next" H0 H2 d n := ⟨⟨lc, ll, cs, ls, k + 1, hd2, hc2, hl2, ne, c64, cb, l63, by omega, by omega, f1, f2⟩, sm2, fr⟩
    have i0 : (0 : Int) ≤ k % 64 := Int.emod_nonneg _ (by decide)
    obtain ⟨c, hcc, ac, _⟩ := at_int (cs := cs) i0 (by rw [c64]; exact Int.emod_lt_of_pos _ (by decide))
    have cbb := cb c hcc
    rw [eqv_nil]
    cases ls with
    | nil =>
      refine ⟨_, rfl, d, _, rfl, ms_C ▸ DGet.k (k := kC) hd2, ?_⟩
      repeat walk_at "st"
      refine ⟨lc, _, _, _, rfl, rfl, .inl (.inl hc2), ac, ?_⟩
      repeat walk_at "st"
      refine ⟨_, k, rfl, by omega, by omega, k0, by omega, fun v v0 v1 => ?_⟩
      repeat walk_at "st"
      refine ⟨v, k + 7, rfl, v0, by omega, by omega, by omega, fun u u0 u1 => ?_⟩
      refine ⟨_, rfl, _, _, rfl, rfl, m0, ?_⟩
      exact q _ _ (Int.emod_nonneg _ (by omega)) (Int.emod_lt_of_pos _ m0) dr2
    | cons x r =>
      refine ⟨_, rfl, _, rfl, d, _, rfl, ms_L ▸ DGet.k (k := kL) hd2, ll, _, rfl, .inl (.inl (.inl hl2)), ?_⟩
      have n0 : (0 : Int) < ((((x :: r).map V.int).length : Nat) : Int) := by
        rw [List.length_map, List.length_cons]
        omega
      refine ⟨_, _, rfl, rfl, n0, ?_⟩
      obtain ⟨y, hy, ay, ix⟩ := at_int (cs := x :: r) (i := k % ((((x :: r).map V.int).length : Nat) : Int)) (Int.emod_nonneg _ (by omega)) (by
        have z := Int.emod_lt_of_pos k n0
        rw [List.length_map] at z
        rw [List.length_map]
        exact z)
      refine ⟨_, rfl, d, _, rfl, ms_L ▸ DGet.k (k := kL) hd2, ?_⟩
      repeat walk_at "st"
      refine ⟨ll, _, _, _, rfl, rfl, .inl (.inl hl2), ay, ?_⟩
      repeat walk_at "st"
      refine ite2 (fun _ => ?_) (fun _ => ?_)
      · refine ⟨_, rfl, _, rfl, _, _, rfl, rfl, ⟨by omega, by omega⟩, ?_⟩
        refine ⟨_, rfl, d, _, rfl, ms_L ▸ DGet.k (k := kL) hd2, _, rfl, ll, _, _, _, rfl, rfl, hl2, ix, ?_⟩
        rw [set_int]
        refine ⟨_, rfl, _, rfl, _, _, rfl, rfl, m0, ?_⟩
        refine q _ _ (Int.emod_nonneg _ (by omega)) (Int.emod_lt_of_pos _ m0) ⟨⟨lc, ll, cs, _, k + 1, by rw [upd_ne ndl]; exact hd2, by rw [upd_ne ne]; exact hc2, upd_same, ne, c64, cb, by rw [List.length_set]; exact l63, by omega, by omega, f1, f2⟩, same_put sm2 f2, fr⟩
      · refine ⟨_, rfl, d, _, rfl, ms_C ▸ DGet.k (k := kC) hd2, ?_⟩
        repeat walk_at "st"
        refine ⟨lc, _, _, _, rfl, rfl, .inl (.inl hc2), ac, ?_⟩
        repeat walk_at "st"
        refine ⟨_, k, rfl, by omega, by omega, k0, by omega, fun v v0 v1 => ?_⟩
        repeat walk_at "st"
        refine ⟨v, k + 7, rfl, v0, by omega, by omega, by omega, fun u u0 u1 => ?_⟩
        refine ⟨_, rfl, _, _, rfl, rfl, m0, ?_⟩
        exact q _ _ (Int.emod_nonneg _ (by omega)) (Int.emod_lt_of_pos _ m0) dr2
theorem ok_law_draw (T : Txt mg K w.params) : FnOk P w K mg base CX0 2 T.f_law_draw T.fd_law_draw ["m", "many"] (liftSp K 2 (dDraw "next")) := draw_imp (ok0_law_draw T)
theorem ok_law_begun (T : Txt mg K w.params) : FnOk P w K mg base CX0 2 T.f_law_begun T.fd_law_begun ["script"] (spBegunS K "next") := by
  refine FunD.ok0 T.F_law_begun sc_law_begun (fun vs H Q E h => ?_) (fun cdv A outer s H vs Q E hr h => ?_)
  · obtain ⟨_, _, rfl, _⟩ := h
    rfl
  · obtain ⟨a, ns, rfl, hS, l63, q⟩ := h
    refine ⟨_, pss_cons (ps_set (i := 1) sc_law_begun.nd rfl (.inl rfl) (pe_disp (pps_cons (pe_str) (pe_callX (ok_law_folded T) (hr.mono (by decide)) (by rfl) T.g_law_folded T.F_law_folded.kp (b_law_folded_1 T) pass0 (pa_cons (pv 0) pa_nil)) (pps_cons (pe_str) (pe_lst (pa_nil)) (pps_cons (pe_str) (pe_int) (pps_nil)))) (by rfl) (by rfl) (fun z => by cases z) (by decide)))
 (pss_cons (ps_dput (hu_of hr) (pv 1) (pe_str) (pe_lc (own := [("cell", 2)]) (g := gName 2) (tt := tYes) (by rfl) sc_law_begun.nd (pi_list (pv 0)) (blkOk_by (own := [("cell", 2)]) (N := ["script", "m", "cell"]) (sc := defScope s_law_begun) (by decide +kernel)) (fun _ _ _ _ _ => pg_name (i := 2) sc_law_begun.nd rfl (Or.inl rfl)) (fun _ _ _ _ _ => pts_nil) (fun _ _ _ _ _ => pe_ifExp (pt_cmpR op_ge (pv 2) (pe_op op_pow (pe_int) (pe_int)) (by first | rfl | exact nomark _)) (pv 2) (pe_int))) rfl)
 (pss_one (ps_ret (pv 1)))), ?_⟩
    -- the dict
    intro d fd
    have s0 : Same H (upd H d (.dK [])) := same_new fd
    refine ⟨_, rfl, a, ns, rfl, s0.seq hS, l63, fun p cs H1 fp c64 cb s1 e1 => ?_⟩
    have hd1 : H1 d = some (.dK []) := s1 _ _ upd_same
    refine ⟨Nat.zero_le _, fun l fl => ?_⟩
    have ndl : d ≠ l := ne_of_none hd1 fl
    have npl : p ≠ l := ne_of_none e1 fl
    have npd : p ≠ d := ne_of e1 hd1 (by intro z; cases z)
    refine ⟨by rw [upd_ne ndl]; exact hd1, [(kC, V.ref p), (kL, V.ref l), (Sum.inr "next", V.int 0)], rfl, by show 3 ≤ 15; decide, ?_⟩
    have em : mergeK [] [(kC, V.ref p), (kL, V.ref l), (Sum.inr "next", V.int 0)] = mKs "next" p l 0 := by
      show putK (putK (putK [] kC (V.ref p)) kL (V.ref l)) (Sum.inr "next") (V.int 0) = _
      rw [putK_new (kvs := []) _ valV_nil]
      rw [putK_new (kvs := [] ++ [(kC, V.ref p)]) _ ((valV_neg nCL).trans valV_nil)]
      rw [putK_new (kvs := [] ++ [(kC, V.ref p)] ++ [(kL, V.ref l)]) _ ((valV_neg nmN.c).trans ((valV_neg nmN.l).trans valV_nil))]
      rfl
    rw [em]
    obtain ⟨H2, eH2⟩ : ∃ H2, H2 = upd (upd H1 l (.lst [])) d (.dK (mKs "next" p l 0)) := ⟨_, rfl⟩
    rw [← eH2]
    have hd2 : H2 d = some (.dK (mKs "next" p l 0)) := by rw [eH2, upd_same]
    have hp2 : H2 p = some (.lst (cs.map V.int)) := by rw [eH2, upd_ne npd, upd_ne npl]; exact e1
    have s2 : Same H H2 := by
      intro b u z
      rw [eH2, upd_ne (ne_of_none z fd), upd_ne (ne_of_none (s1 b u (s0 b u z)) fl)]
      exact s1 b u (s0 b u z)
    -- m["left"] = [.. for cell in script]
    refine ⟨_, rfl, a, rfl, ⟨_, s2.seq hS⟩, fun D fD => lc_list (K := K) (a := a) (xs := ns.map V.int) (fun i H3 => Same H2 H3 ∧ ∃ ls : List Int, H3 D = some (.lst (ls.map V.int)) ∧ ls.length = i) ⟨same_new fD, [], upd_same, rfl⟩ (fun i H3 _ hw => hw.1.seq (s2.seq hS)) ?_ ?_⟩
    · rintro i x H3 hx ⟨s3, ls, e3, l3⟩
      obtain ⟨z, rfl⟩ := int_of hx
      have il : i < ns.length := by
        have := (List.getElem?_eq_some_iff.mp hx).1
        rw [List.length_map] at this
        exact this
      refine ⟨rfl, ?_⟩
      have fin : ∀ y : Int, ∃ acc, H3 D = some (.lst acc) ∧ acc.length < sizeLine ∧ (Same H2 (upd H3 D (.lst (acc ++ [V.int y]))) ∧ ∃ ls : List Int, (upd H3 D (.lst (acc ++ [V.int y]))) D = some (.lst (ls.map V.int)) ∧ ls.length = i + 1) := fun y =>
        ⟨_, e3, small1000 (by rw [List.length_map]; omega), same_put s3 fD, ls ++ [y], by rw [upd_same, List.map_append]; rfl, by rw [List.length_append, l3]; rfl⟩
      refine ⟨_, rfl, _, _, rfl, rfl, ⟨by decide, by decide, by decide⟩, _, _, rfl, rfl, _, rfl, ite2 (fun _ => ?_) (fun _ => ?_)⟩
      · exact ⟨_, rfl, fin z⟩
      · exact fin 0
    · rintro H3 ⟨s3, ls, e3, l3⟩
      have hd3 := s3 _ _ hd2
      have hp3 := s3 _ _ hp2
      rw [List.length_map] at l3
      refine ⟨_, rfl, d, _, rfl, DPut.k (k := kL) hd3 (small1000 (by show 3 ≤ 1000; decide)), ?_⟩
      rw [ms_putL nmN]
      refine ⟨_, rfl, q d _ ⟨⟨p, D, cs, ls, 0, upd_same, ?_, ?_, ?_, c64, cb, by omega, by decide, by decide, ?_, ?_⟩, ?_, fd⟩⟩
      · rw [upd_ne npd]; exact hp3
      · rw [upd_ne (fun z => by rw [z] at e3; rw [e3] at hd3; cases hd3)]; exact e3
      · intro z; subst z; rw [hp2] at fD; cases fD
      · exact s0.free fp
      · exact s2.free fD
      · exact same_put (s2.trans s3) fd
end
end K

set_option maxRecDepth 100000
set_option maxHeartbeats 4000000
set_option synthInstance.maxSize 100000
set_option synthInstance.maxHeartbeats 4000000
namespace K
open PySem PySem.Spec PyProof.Rows L2 Gd
local macro_rules | `(tactic| walk_at "mulok") => `(tactic| first | exact Or.inr ⟨by decide, by decide⟩ | exact Or.inl ⟨by decide, by decide⟩ | exact Or.inr ⟨by omega, by omega⟩ | exact Or.inl ⟨by omega, by omega⟩)
local macro_rules | `(tactic| walk_at "st") => `(tactic| first
  | refine ⟨_, rfl, ?_⟩
  | refine ⟨_, _, rfl, rfl, (by walk_at "mulok"), ?_⟩
  | refine ⟨_, _, rfl, rfl, (by show (0 : Int) < _; decide), ?_⟩
  | refine ⟨_, _, rfl, rfl, ⟨by decide, by decide⟩, ?_⟩
  | refine ⟨_, _, rfl, rfl, ?_⟩)
local macro_rules | `(tactic| walk_at "st0") => `(tactic| simp only [List.map_cons, List.map_nil, List.append_nil, List.cons_append, List.nil_append, List.length_cons, List.length_nil, Nat.reduceSub, Nat.reduceAdd, Nat.sub_self, List.replicate])
local macro_rules | `(tactic| walk_at "rd") => `(tactic| dsimp only [Dl.rRet, Dl.rRetN, Dl.rIfS, Dl.rSeq, Dl.rNext, Dl.rDrop, Dl.rAsg, Dl.rName, Dl.rPar, Dl.rPar3, Dl.rAndV, Dl.rOrV, Dl.rNotV, Dl.dIsi, Dl.dDivmod, Dl.mput, Dl.rUn, Dl.rGset, Dl.rFrz, Dl.rAnd, Dl.rOr, Dl.rNot, Dl.rTest, Dl.rTru, Dl.rIf, Dl.rOp, Dl.rOpL, Dl.rCB, Dl.rCBL, Dl.rCons, Dl.rNil, Dl.rVar, Dl.rC, Dl.rStr, Dl.d1, Dl.fTyp, Dl.fLenS, Dl.fLenQ, Dl.fAll, Dl.fSum, Dl.fRepr, Dl.fTupOf, Dl.dTy, Dl.nb, Dl.dInT, Dl.dIn, Dl.dN, Dl.dEq, Dl.dEqD, Dl.dI0, Dl.dIC, Dl.dCat, Dl.dCatL, Dl.dCatS, Dl.dCatT, Dl.dIxL, Dl.dIxT, Dl.dIxS, Dl.rChain, Dl.rChain3, Dl.rTup, Dl.rLst, Dl.rFroz, Dl.rKeep, Dl.rFld, Dl.rBM, Dl.dAppend, Dl.dReverse, Dl.dClear, Dl.dExtend, Dl.rCK, Dl.fMinD, Dl.rCall, Dl.rCall0, Dl.rMeth, Dl.rMeth0, Dl.rMethN0, Dl.rMake, Dl.rMake0, Dl.rSetF, Dl.rGtup, Dl.rGcons, Dl.rGnil, Dl.rIlst, Dl.rItup, Dl.rIenum, Dl.rIenumT, Dl.rIzip, Dl.rIzip3, Dl.rSlcL, Dl.rSlcT, Dl.rSlcS, Dl.rNoPart, Dl.rPart, Dl.dSS, Dl.dII, Dl.dListOf, Dl.dSortI, Dl.rtD, Dl.rtL, List.map_cons, List.map_nil, List.length_cons, List.length_nil, List.cons_append, List.nil_append, List.append_nil, List.replicate, Nat.reduceSub, Nat.reduceAdd, Nat.sub_self, Nat.sub_zero, List.getElem?_cons_zero, List.getElem?_cons_succ, List.set_cons_zero, List.set_cons_succ, List.take_succ_cons, List.take_zero, List.take_nil, Dl.view, Dl.T.tyn, Dl.T.isN, Dl.T.sc, Dl.T.flat, Dl.flats])
local macro_rules | `(tactic| walk_at "rs") => `(tactic| dsimp only [Dl.rRet, Dl.rRetN, Dl.rIfS, Dl.rNext, Dl.rDrop, Dl.rAsg, Dl.rName, Dl.rPar, Dl.rPar3, Dl.rAndV, Dl.rOrV, Dl.rNotV, Dl.dIsi, Dl.dDivmod, Dl.mput, Dl.rUn, Dl.rGset, Dl.rFrz, Dl.rAnd, Dl.rOr, Dl.rNot, Dl.rTest, Dl.rTru, Dl.rIf, Dl.rOp, Dl.rOpL, Dl.rCB, Dl.rCBL, Dl.rCons, Dl.rNil, Dl.rVar, Dl.rC, Dl.rStr, Dl.d1, Dl.fTyp, Dl.fLenS, Dl.fLenQ, Dl.fAll, Dl.fSum, Dl.fRepr, Dl.fTupOf, Dl.dTy, Dl.nb, Dl.dInT, Dl.dIn, Dl.dN, Dl.dEq, Dl.dEqD, Dl.dI0, Dl.dIC, Dl.dCat, Dl.dCatL, Dl.dCatS, Dl.dCatT, Dl.dIxL, Dl.dIxT, Dl.dIxS, Dl.rChain, Dl.rChain3, Dl.rTup, Dl.rLst, Dl.rFroz, Dl.rKeep, Dl.rFld, Dl.rBM, Dl.dAppend, Dl.dReverse, Dl.dClear, Dl.dExtend, Dl.rCK, Dl.fMinD, Dl.rCall, Dl.rCall0, Dl.rMeth, Dl.rMeth0, Dl.rMethN0, Dl.rMake, Dl.rMake0, Dl.rSetF, Dl.rGtup, Dl.rGcons, Dl.rGnil, Dl.rIlst, Dl.rItup, Dl.rIenum, Dl.rIenumT, Dl.rIzip, Dl.rIzip3, Dl.rSlcL, Dl.rSlcT, Dl.rSlcS, Dl.rNoPart, Dl.rPart, Dl.dSS, Dl.dII, Dl.dListOf, Dl.dSortI, Dl.rtD, Dl.rtL, List.map_cons, List.map_nil, List.length_cons, List.length_nil, List.cons_append, List.nil_append, List.append_nil, List.replicate, Nat.reduceSub, Nat.reduceAdd, Nat.sub_self, Nat.sub_zero, List.getElem?_cons_zero, List.getElem?_cons_succ, List.set_cons_zero, List.set_cons_succ, List.take_succ_cons, List.take_zero, List.take_nil, Dl.view, Dl.T.tyn, Dl.T.isN, Dl.T.sc, Dl.T.flat, Dl.flats])
open Dl
/-- a thing of a kind that is known; a number told as one -/
def Knd (t : Dl.T) : Prop := t.flat = true ∧ ∃ n, t.tyn = some n ∧ (n = "int" → ∃ i, t = .int i) ∧ (n = "str" → ∃ z, t = .str z)
def whT (t : Dl.T) (lo hi : Int) : Bool := match t with
  | .int i => decide (lo ≤ i) && decide (i ≤ hi)
  | _ => false
theorem knd_int (i : Int) : Knd (.int i) := ⟨rfl, _, rfl, fun _ => ⟨i, rfl⟩, fun h => absurd h (by decide)⟩
theorem knd_str (z : PySem.Str) : Knd (.str z) := ⟨rfl, _, rfl, fun h => absurd h (by decide), fun _ => ⟨z, rfl⟩⟩
def dWhole : DSpec := fun ts μ Φ _ => ∃ (t : Dl.T) (lo hi : Int), ts = [t, .int lo, .int hi] ∧ μ = [] ∧ Knd t ∧ Φ (.bl (whT t lo hi)) []
def lowS (c : Nat) : Bool := decide (97 ≤ c) && decide (c ≤ 122)
def noNames : List PySem.Str := ["style", "job", "round", "sew", "glue", "cover", "letter", "press", "hand", "haste"]
def nmS (z : PySem.Str) : Bool := (decide (1 ≤ z.length) && decide (z.length ≤ 8)) && (z.cps.toList.all lowS && !decide (z ∈ noNames))
def lowX (x : PySem.Str) : Bool := match x.cps.toList with
  | [c] => lowS c
  | _ => false
def nmT (t : Dl.T) : Bool := match t with
  | .str z => nmS z
  | _ => false
def dName : DSpec := fun ts μ Φ _ => ∃ t : Dl.T, ts = [t] ∧ μ = [] ∧ Knd t ∧ (∀ z, t = .str z → z.length ≤ 1000000) ∧ Φ (.bl (nmT t)) []
instance sim_noNames {mg : PySem.Str → Option Value} {K : PySem.W.Frag} {prm : Params} {E : XK} (T : Txt mg K prm) : SimE K E (tC (.ref T.a_NO_NAMES)) (rC (.tup (noNames.map Dl.T.str))) := ⟨fun {W H σ ρ μ xw Φ Q} x _ _ h q => q Wd.Le.refl x (.of (.tup (T.q_NO_NAMES W.B) (by
  show DnAll K W.B [V.str "style", V.str "job", V.str "round", V.str "sew", V.str "glue", V.str "cover", V.str "letter", V.str "press", V.str "hand", V.str "haste"] _
  refine .cons (.str (okSb_ok (by decide +kernel))) (.cons (.str (okSb_ok (by decide +kernel))) (.cons (.str (okSb_ok (by decide +kernel))) (.cons (.str (okSb_ok (by decide +kernel))) (.cons (.str (okSb_ok (by decide +kernel))) (.cons (.str (okSb_ok (by decide +kernel))) (.cons (.str (okSb_ok (by decide +kernel))) (.cons (.str (okSb_ok (by decide +kernel))) (.cons (.str (okSb_ok (by decide +kernel))) (.cons (.str (okSb_ok (by decide +kernel))) .nil)))))))))))) h⟩
theorem inV_str (z : PySem.Str) : ∀ l : List PySem.Str, inV (V.str z) (l.map V.str) = decide (z ∈ l)
  | [] => rfl
  | a :: r => by
    show ((a == z) || inV (V.str z) (r.map V.str)) = _
    rw [inV_str z r]
    by_cases h : z = a
    · subst h; simp
    · have h' : (a == z) = false := by simpa using fun q => h q.symm
      simp [h, h']
section
variable {P : Program} {w : World} {K : PySem.W.Frag} {mg : PySem.Str → Option Value} {base : Heap}
theorem ok_is_whole (T : Txt mg K w.params) : FnOk P w K mg base CX0 1 T.f_is_whole T.fd_is_whole ["thing", "least", "most"] (liftSp K 3 dWhole) := by
  refine FunD.ok0 T.F_is_whole sc_is_whole lift_len (fun cdv A outer s H vs Q E hr h => ⟨_, pss_one (ps_ret (pe_and (pe_cmpR op_isTyB (pe_callTy (typeK (K := K) rfl) (by rfl) T.n_type (by decide +kernel) (pa_cons (pv 0) pa_nil)) (pe_bltn (v := .ty "int") (by rfl) T.n_int (by decide +kernel) rfl) (by first | rfl | exact nomark _)) (pe_one (pe_chain op_le op_le (pv 1) (pv 0) (pv 2))))), body_sim h ?_⟩)
  rintro ts μ Φ xw hl ⟨t, lo, hi, rfl, rfl, ⟨fl, n, ty, ki, ks⟩, q⟩
  walk_at "st0"
  walk_at "rd"
  by_cases hn : n = "int"
  · obtain ⟨i, rfl⟩ := ki hn
    by_cases h1 : lo ≤ i
    · simpa [whT, h1] using q
    · simpa [whT, h1] using q
  · have hw : whT t lo hi = false := by
      cases t with
      | int i => cases ty; exact absurd rfl hn
      | _ => rfl
    rw [hw] at q
    cases t with
    | rs k => cases fl
    | obj _ _ => cases ty
    | wst _ => cases ty
    | ty _ => cases ty
    | int i => cases ty; exact absurd rfl hn
    | far a m =>
      cases ty
      show if decide (n = "int") = true then _ else _
      rw [if_neg (by simp [hn])]
      exact q
    | _ => cases ty; exact q
theorem ok_is_name (T : Txt mg K w.params) : FnOk P w K mg base CX0 1 T.f_is_name T.fd_is_name ["thing"] (liftSp K 1 dName) := by
  refine FunD.ok0 T.F_is_name sc_is_name lift_len (fun cdv A outer s H vs Q E hr h => ⟨_, pss_cons (ps_if (PW.pt (pw_or (pt_cmpR op_notTyB (pe_callTy (typeK (K := K) rfl) (by rfl) T.n_type (by decide +kernel) (pa_cons (pv 0) pa_nil)) (pe_bltn (v := .ty "str") (by rfl) T.n_str (by decide +kernel) rfl) (by first | rfl | exact nomark _)) (pw_or1 (pt_not (pt_chain op_le op_le (pe_int) (pe_callB call_len_str (by rfl) T.n_len (by decide +kernel) (pa_cons (pv 0) pa_nil)) (pe_glob (v := .int 8) (by rfl) T.c_MOST_LETTERS (by first | exact rfl | exact ⟨_, rfl⟩))))))) (pss_one (ps_ret (pe_bl))) (pss_nil))
 (pss_one (ps_ret (pe_and (pe_callB (allK (K := K) rfl rfl) (by rfl) T.n_all (by decide +kernel) (pa_cons (pe_lc (own := [("sign", 1)]) (g := gName 1) (tt := tYes) (by rfl) sc_is_name.nd (pi_str (pv 0)) (blkOk_by (own := [("sign", 1)]) (N := ["thing", "sign"]) (sc := defScope s_is_name) (by decide +kernel)) (fun _ _ _ _ _ => pg_name (i := 1) sc_is_name.nd rfl (Or.inl rfl)) (fun _ _ _ _ _ => pts_nil) (fun _ _ _ _ _ => pe_chain op_le_str op_le_str (pe_str) (pv 1) (pe_str))) pa_nil)) (pe_one (pe_cmpR (notInK (K := K) rfl) (pv 0) (pe_glob (v := .ref T.a_NO_NAMES) (by rfl) T.c_NO_NAMES (by first | exact rfl | exact ⟨_, rfl⟩)) (by first | rfl | exact nomark _)))))), body_sim h ?_⟩)
  rintro ts μ Φ xw hl ⟨t, rfl, rfl, ⟨fl, n, ty, ki, ks⟩, sz, q⟩
  walk_at "st0"
  walk_at "rd"
  by_cases hn : n = "str"
  · obtain ⟨z, rfl⟩ := ks hn
    have z0 := sz z rfl
    have q' : Φ (.bl (nmS z)) [] := q
    by_cases h1 : 1 ≤ z.length
    · by_cases h8 : z.length ≤ 8
      · simp only [decide_true, Bool.not_true, Bool.false_eq_true, if_false, if_true]
        refine ⟨z0, ?_⟩
        rw [if_pos (decide_eq_true (by omega)), if_neg (by simp; omega)]
        refine rLc_map (fun t => match t with | .str x => .bl (lowX x) | _ => .non) (by simp) ?_ ?_ ?_
        · rw [List.length_map, ← len_tl]
          exact z0
        · intro t ht
          obtain ⟨c, hc, rfl⟩ := List.mem_map.mp ht
          refine ⟨rfl, fun Ψ hΨ => ?_⟩
          have hΨ' : Ψ (.bl (decide (97 ≤ c) && decide (c ≤ 122))) [] := hΨ
          simp only [wipeR, rName, rChain, rStr, rVar, dSS, List.set_cons_zero, List.set_cons_succ, List.getElem?_cons_zero, List.getElem?_cons_succ]
          refine ⟨by decide +kernel, ?_⟩
          refine iteE (le_sign (a := Str.ofString "a") (d := 97) (by decide +kernel)) ?_
          by_cases c1 : 97 ≤ c
          · rw [if_pos (decide_eq_true c1)]
            refine ⟨by decide +kernel, ?_⟩
            rw [decide_eq_true c1, Bool.true_and, ← ge_sign (a := Str.ofString "z") (d := 122) (by decide +kernel)] at hΨ'
            exact hΨ'
          · rw [if_neg (by simp [c1])]
            rw [decide_eq_false c1, Bool.false_and] at hΨ'
            exact hΨ'
        · refine ⟨_, z.cps.toList.map lowS, rfl, ?_, ?_⟩
          · rw [List.map_map, show ((fun t => match t with | Dl.T.str x => Dl.T.bl (lowX x) | _ => Dl.T.non) ∘ fun c => Dl.T.str { cps := #[c] }) = Dl.T.bl ∘ lowS from funext fun c => rfl, ← List.map_map]
            exact bls_map _
          · unfold nmS at q'
            rw [decide_eq_true h1, decide_eq_true h8, Bool.true_and, Bool.true_and] at q'
            rw [List.all_map, show (id ∘ lowS) = lowS from rfl]
            by_cases ha : z.cps.toList.all lowS = true
            · rw [if_pos ha]
              rw [ha, Bool.true_and] at q'
              refine ⟨_, _, noNames.map V.str, rfl, rfl, rfl, ?_⟩
              rw [show inV (V.str z) (noNames.map V.str) = decide (z ∈ noNames) from inV_str z noNames]
              exact q'
            · rw [if_neg ha]
              rw [Bool.eq_false_iff.mpr ha, Bool.false_and] at q'
              exact q'
      · simp only [decide_true, Bool.not_true, Bool.false_eq_true, if_false, if_true]
        refine ⟨z0, ?_⟩
        rw [if_pos (decide_eq_true (by omega)), if_pos (by simp; omega)]
        unfold nmS at q'
        rw [decide_eq_false h8, Bool.and_false, Bool.false_and] at q'
        exact q'
    · simp only [decide_true, Bool.not_true, Bool.false_eq_true, if_false, if_true]
      refine ⟨z0, ?_⟩
      rw [if_neg (by simp; omega)]
      unfold nmS at q'
      rw [decide_eq_false h1, Bool.false_and, Bool.false_and] at q'
      simpa using q'
  · have hw : nmT t = false := by
      cases t with
      | str z => cases ty; exact absurd rfl hn
      | _ => rfl
    rw [hw] at q
    cases t with
    | rs k => cases fl
    | obj _ _ => cases ty
    | wst _ => cases ty
    | ty _ => cases ty
    | str z => cases ty; exact absurd rfl hn
    | far a m =>
      cases ty
      show if (!decide (n = "str")) = true then _ else _
      rw [if_pos (by simp [hn])]
      exact q
    | _ => cases ty; exact q
end
end K

set_option maxRecDepth 100000
set_option maxHeartbeats 4000000
set_option synthInstance.maxSize 100000
set_option synthInstance.maxHeartbeats 4000000
namespace K
open PySem PySem.Spec PyProof.Rows L2 Gd
local macro_rules | `(tactic| walk_at "mulok") => `(tactic| first | exact Or.inr ⟨by decide, by decide⟩ | exact Or.inl ⟨by decide, by decide⟩ | exact Or.inr ⟨by omega, by omega⟩ | exact Or.inl ⟨by omega, by omega⟩)
local macro_rules | `(tactic| walk_at "st") => `(tactic| first
  | refine ⟨_, rfl, ?_⟩
  | refine ⟨_, _, rfl, rfl, (by walk_at "mulok"), ?_⟩
  | refine ⟨_, _, rfl, rfl, (by show (0 : Int) < _; decide), ?_⟩
  | refine ⟨_, _, rfl, rfl, ⟨by decide, by decide⟩, ?_⟩
  | refine ⟨_, _, rfl, rfl, ?_⟩)
local macro_rules | `(tactic| walk_at "st0") => `(tactic| simp only [List.map_cons, List.map_nil, List.append_nil, List.cons_append, List.nil_append, List.length_cons, List.length_nil, Nat.reduceSub, Nat.reduceAdd, Nat.sub_self, List.replicate])
local macro_rules | `(tactic| walk_at "rd") => `(tactic| dsimp only [Dl.rRet, Dl.rRetN, Dl.rIfS, Dl.rSeq, Dl.rNext, Dl.rDrop, Dl.rAsg, Dl.rName, Dl.rPar, Dl.rPar3, Dl.rAndV, Dl.rOrV, Dl.rNotV, Dl.dIsi, Dl.dDivmod, Dl.mput, Dl.rUn, Dl.rGset, Dl.rFrz, Dl.rAnd, Dl.rOr, Dl.rNot, Dl.rTest, Dl.rTru, Dl.rIf, Dl.rOp, Dl.rOpL, Dl.rCB, Dl.rCBL, Dl.rCons, Dl.rNil, Dl.rVar, Dl.rC, Dl.rStr, Dl.d1, Dl.fTyp, Dl.fLenS, Dl.fLenQ, Dl.fAll, Dl.fSum, Dl.fRepr, Dl.fTupOf, Dl.dTy, Dl.nb, Dl.dInT, Dl.dIn, Dl.dN, Dl.dEq, Dl.dEqD, Dl.dI0, Dl.dIC, Dl.dCat, Dl.dCatL, Dl.dCatS, Dl.dCatT, Dl.dIxL, Dl.dIxT, Dl.dIxS, Dl.rChain, Dl.rChain3, Dl.rTup, Dl.rLst, Dl.rFroz, Dl.rKeep, Dl.rFld, Dl.rBM, Dl.dAppend, Dl.dReverse, Dl.dClear, Dl.dExtend, Dl.rCK, Dl.fMinD, Dl.rCall, Dl.rCall0, Dl.rMeth, Dl.rMeth0, Dl.rMethN0, Dl.rMake, Dl.rMake0, Dl.rSetF, Dl.rGtup, Dl.rGcons, Dl.rGnil, Dl.rIlst, Dl.rItup, Dl.rIenum, Dl.rIenumT, Dl.rIzip, Dl.rIzip3, Dl.rSlcL, Dl.rSlcT, Dl.rSlcS, Dl.rNoPart, Dl.rPart, Dl.dSS, Dl.dII, Dl.dListOf, Dl.dSortI, Dl.rtD, Dl.rtL, List.map_cons, List.map_nil, List.length_cons, List.length_nil, List.cons_append, List.nil_append, List.append_nil, List.replicate, Nat.reduceSub, Nat.reduceAdd, Nat.sub_self, Nat.sub_zero, List.getElem?_cons_zero, List.getElem?_cons_succ, List.set_cons_zero, List.set_cons_succ, List.take_succ_cons, List.take_zero, List.take_nil, Dl.view, Dl.T.tyn, Dl.T.isN, Dl.T.sc, Dl.T.flat, Dl.flats])
local macro_rules | `(tactic| walk_at "rs") => `(tactic| dsimp only [Dl.rRet, Dl.rRetN, Dl.rIfS, Dl.rNext, Dl.rDrop, Dl.rAsg, Dl.rName, Dl.rPar, Dl.rPar3, Dl.rAndV, Dl.rOrV, Dl.rNotV, Dl.dIsi, Dl.dDivmod, Dl.mput, Dl.rUn, Dl.rGset, Dl.rFrz, Dl.rAnd, Dl.rOr, Dl.rNot, Dl.rTest, Dl.rTru, Dl.rIf, Dl.rOp, Dl.rOpL, Dl.rCB, Dl.rCBL, Dl.rCons, Dl.rNil, Dl.rVar, Dl.rC, Dl.rStr, Dl.d1, Dl.fTyp, Dl.fLenS, Dl.fLenQ, Dl.fAll, Dl.fSum, Dl.fRepr, Dl.fTupOf, Dl.dTy, Dl.nb, Dl.dInT, Dl.dIn, Dl.dN, Dl.dEq, Dl.dEqD, Dl.dI0, Dl.dIC, Dl.dCat, Dl.dCatL, Dl.dCatS, Dl.dCatT, Dl.dIxL, Dl.dIxT, Dl.dIxS, Dl.rChain, Dl.rChain3, Dl.rTup, Dl.rLst, Dl.rFroz, Dl.rKeep, Dl.rFld, Dl.rBM, Dl.dAppend, Dl.dReverse, Dl.dClear, Dl.dExtend, Dl.rCK, Dl.fMinD, Dl.rCall, Dl.rCall0, Dl.rMeth, Dl.rMeth0, Dl.rMethN0, Dl.rMake, Dl.rMake0, Dl.rSetF, Dl.rGtup, Dl.rGcons, Dl.rGnil, Dl.rIlst, Dl.rItup, Dl.rIenum, Dl.rIenumT, Dl.rIzip, Dl.rIzip3, Dl.rSlcL, Dl.rSlcT, Dl.rSlcS, Dl.rNoPart, Dl.rPart, Dl.dSS, Dl.dII, Dl.dListOf, Dl.dSortI, Dl.rtD, Dl.rtL, List.map_cons, List.map_nil, List.length_cons, List.length_nil, List.cons_append, List.nil_append, List.append_nil, List.replicate, Nat.reduceSub, Nat.reduceAdd, Nat.sub_self, Nat.sub_zero, List.getElem?_cons_zero, List.getElem?_cons_succ, List.set_cons_zero, List.set_cons_succ, List.take_succ_cons, List.take_zero, List.take_nil, Dl.view, Dl.T.tyn, Dl.T.isN, Dl.T.sc, Dl.T.flat, Dl.flats])
open Dl Rm
def callT (c : Cal) : Dl.T := .tup [.int c.1, .str c.2.1, .int c.2.2]
def callsT (l : List Cal) : Dl.T := .tup (l.map callT)
/-- calls as they may be -/
structure OkC (L : Int) (l : List Cal) : Prop where
  l1 : 1 ≤ L
  l2 : L ≤ 1000
  len : l.length ≤ 12
  all : ∀ c ∈ l, 0 ≤ c.1 ∧ c.1 < L ∧ nmS c.2.1 = true ∧ 1 ≤ c.2.2 ∧ c.2.2 ≤ 1000
  up : ∀ (i : Nat) (c d : Cal), l[i]? = some c → l[i + 1]? = some d → c.1 ≤ d.1
theorem OkC.pos {L : Int} {l : List Cal} (h : OkC L l) : ∀ c ∈ l, 0 ≤ c.1 := fun c hc => (h.all c hc).1
theorem tot_le {n : Int} : ∀ {l : List Cal}, (∀ c ∈ l, 0 ≤ c.2.2 ∧ c.2.2 ≤ n) → 0 ≤ tot l ∧ tot l ≤ l.length * n
  | [], _ => ⟨Int.le_refl _, by show (0 : Int) ≤ 0 * n; omega⟩
  | c :: r, h => by
    have a := h c List.mem_cons_self
    have b := tot_le (l := r) fun d hd => h d (List.mem_cons_of_mem _ hd)
    show 0 ≤ c.2.2 + tot r ∧ c.2.2 + tot r ≤ ((r.length + 1 : Nat) : Int) * n
    rw [show ((r.length + 1 : Nat) : Int) = (r.length : Int) + 1 from by omega, Int.add_mul]
    omega
theorem OkC.tot {L : Int} {l : List Cal} (h : OkC L l) : 0 ≤ tot l ∧ tot l ≤ 12000 := by
  have a := tot_le (n := 1000) fun c hc => ⟨Int.le_trans (by decide) (h.all c hc).2.2.2.1, (h.all c hc).2.2.2.2⟩
  have := h.len
  omega
theorem OkC.stp {L : Int} {l : List Cal} (h : OkC L l) : 1 ≤ stp L l ∧ stp L l ≤ 12000 := by
  have := h.tot
  have := h.l1
  have := h.l2
  unfold Rm.stp
  omega
theorem nm_len {z : PySem.Str} (h : nmS z = true) : z.length ≤ 8 := by
  unfold nmS at h
  simp only [Bool.and_eq_true, decide_eq_true_eq] at h
  exact h.1.2
def dAre : DSpec := fun ts μ Φ _ => ∃ (L : Int) (l : List Cal), ts = [callsT l, .int L] ∧ μ = [] ∧ OkC L l ∧ Φ (.bl true) []
theorem ofTy_of {n : String} (h : ∀ s' : Shared, s'.TypeIs (.type n) "type") : OfTy n := h
section
variable {P : Program} {w : World} {K : PySem.W.Frag} {mg : PySem.Str → Option Value} {base : Heap}
theorem ok_are_calls (T : Txt mg K w.params) : FnOk P w K mg base CX0 2 T.f_are_calls T.fd_are_calls ["thing", "length"] (liftSp K 2 dAre) := by
  refine FunD.ok0 T.F_are_calls sc_are_calls lift_len (fun cdv A outer s H vs Q E hr h => ⟨_, pss_cons (ps_if (PW.pt (pw_or (pt_cmpR (notInTK (K := K) rfl) (pe_callTy (typeK (K := K) rfl) (by rfl) T.n_type (by decide +kernel) (pa_cons (pv 0) pa_nil)) (pe_tup (pa_cons (pe_bltn (v := .ty "list") (by rfl) T.n_list (by decide +kernel) rfl) (pa_cons (pe_bltn (v := .ty "tuple") (by rfl) T.n_tuple (by decide +kernel) rfl) pa_nil))) (by first | rfl | exact nomark _)) (pw_or1 (pt_cmpR op_gt (pe_callB (lenK (K := K) rfl) (by rfl) T.n_len (by decide +kernel) (pa_cons (pv 0) pa_nil)) (pe_glob (v := .int 12) (by rfl) T.c_MOST_CALLS (by first | exact rfl | exact ⟨_, rfl⟩)) (by first | rfl | exact nomark _))))) (pss_one (ps_ret (pe_bl))) (pss_nil))
 (pss_cons (ps_set (i := 2) sc_are_calls.nd rfl (.inl rfl) (pe_int))
 (pss_cons (ps_for PassesOwn.never rfl (piTK (K := K) rfl (pv 0)) (pg_name (i := 3) sc_are_calls.nd rfl (.inl rfl)) (pss_cons (ps_if (PW.pt (pw_or (pt_cmpR op_notTyB (pe_callTy (typeK (K := K) rfl) (by rfl) T.n_type (by decide +kernel) (pa_cons (pv 3) pa_nil)) (pe_bltn (v := .ty "tuple") (by rfl) T.n_tuple (by decide +kernel) rfl) (by first | rfl | exact nomark _)) (pw_or1 (pt_cmpR op_ne (pe_callB (lenK (K := K) rfl) (by rfl) T.n_len (by decide +kernel) (pa_cons (pv 3) pa_nil)) (pe_int) (by first | rfl | exact nomark _))))) (pss_one (ps_ret (pe_bl))) (pss_nil))
 (pss_cons (ps_asg (pv 3) (pgTK (K := K) rfl (n := 3) (by rfl) (pgs_cons (pg_name (i := 4) sc_are_calls.nd rfl (.inl rfl)) (pgs_cons (pg_name (i := 5) sc_are_calls.nd rfl (.inl rfl)) (pgs_cons (pg_name (i := 6) sc_are_calls.nd rfl (.inl rfl)) (pgs_nil))))))
 (pss_cons (ps_if (PW.pt (pw_or (pt_not (pt_val (pe_callX (ok_is_whole T) (hr.mono (by decide)) (by rfl) T.g_is_whole T.F_is_whole.kp (b_is_whole_3 T) pass0 (pa_cons (pv 4) (pa_cons (pv 2) (pa_cons (pe_op op_sub (pv 1) (pe_int)) pa_nil)))))) (pw_or (pt_not (pt_val (pe_callX (ok_is_name T) (hr.mono (by decide)) (by rfl) T.g_is_name T.F_is_name.kp (b_is_name_1 T) pass0 (pa_cons (pv 5) pa_nil)))) (pw_or1 (pt_not (pt_val (pe_callX (ok_is_whole T) (hr.mono (by decide)) (by rfl) T.g_is_whole T.F_is_whole.kp (b_is_whole_3 T) pass0 (pa_cons (pv 6) (pa_cons (pe_int) (pa_cons (pe_glob (v := .int 1000) (by rfl) T.c_MOST_CALL_HOURS (by first | exact rfl | exact ⟨_, rfl⟩)) pa_nil)))))))))) (pss_one (ps_ret (pe_bl))) (pss_nil))
 (pss_one (ps_set (i := 2) sc_are_calls.nd rfl (.inl rfl) (pv 4)))))))
 (pss_one (ps_ret (pe_bl))))), body_sim h ?_⟩)
  rintro ts μ Φ xw hl ⟨L, l, rfl, rfl, ok, q⟩
  walk_at "st0"
  unfold callsT
  walk_at "rd"
  refine ⟨by decide, by decide, ["list", "tuple"], rfl, TypeEq.meta_tuple, fun n hn => ?_, ?_⟩
  · simp only [List.mem_cons, List.not_mem_nil, or_false] at hn
    rcases hn with rfl | rfl
    · exact TypeEq.meta_list
    · exact TypeEq.meta_tuple
  refine iteF' (by decide) ?_
  rw [List.length_map]
  refine iteF' (by simpa using by have := ok.len; omega) ?_
  refine ⟨fun i ρ μ => ∃ (least : Int) (a b c d : Option Dl.T), ρ = [some (callsT l), some (.int L), some (.int least), a, b, c, d] ∧ μ = [] ∧ ∀ c, l[i]? = some c → least ≤ c.1, ⟨0, none, none, none, none, rfl, rfl, fun c hc => (ok.all c (List.mem_of_getElem? hc)).1⟩, ?_, ?_⟩
  · rintro i t ρ μ e ⟨least, a, b, c, d, rfl, rfl, hle⟩
    rw [List.getElem?_map, Option.map_eq_some_iff] at e
    obtain ⟨cal, ec, rfl⟩ := e
    obtain ⟨o1, o2, o3, o4, o5⟩ := ok.all cal (List.mem_of_getElem? ec)
    unfold callT
    walk_at "rd"
    refine iteF' (by decide) (iteF' (by simp) ⟨rfl, rfl, callF rfl ⟨_, _, _, rfl, rfl, knd_int _, ?_⟩⟩)
    have := hle cal ec
    refine iteF' (by simp [whT]; omega) ⟨rfl, callF rfl ⟨_, rfl, rfl, knd_str _, fun z hz => ?_, ?_⟩⟩
    · cases hz
      exact Nat.le_trans (nm_len o3) (by decide)
    refine iteF' (by simp [nmT, o3]) ⟨rfl, callF rfl ⟨_, _, _, rfl, rfl, knd_int _, ?_⟩⟩
    refine iteF' (by simp [whT]; omega) ?_
    refine ⟨cal.1, _, _, _, _, rfl, rfl, fun d hd => ok.up i cal d ec hd⟩
  · rintro ρ μ ⟨least, a, b, c, d, rfl, rfl, hle⟩
    exact q
end
end K

set_option maxRecDepth 100000
set_option maxHeartbeats 4000000
set_option synthInstance.maxSize 100000
set_option synthInstance.maxHeartbeats 4000000
namespace K
open PySem PySem.Spec PyProof.Rows L2 Gd
local macro_rules | `(tactic| walk_at "mulok") => `(tactic| first | exact Or.inr ⟨by decide, by decide⟩ | exact Or.inl ⟨by decide, by decide⟩ | exact Or.inr ⟨by omega, by omega⟩ | exact Or.inl ⟨by omega, by omega⟩)
local macro_rules | `(tactic| walk_at "st") => `(tactic| first
  | refine ⟨_, rfl, ?_⟩
  | refine ⟨_, _, rfl, rfl, (by walk_at "mulok"), ?_⟩
  | refine ⟨_, _, rfl, rfl, (by show (0 : Int) < _; decide), ?_⟩
  | refine ⟨_, _, rfl, rfl, ⟨by decide, by decide⟩, ?_⟩
  | refine ⟨_, _, rfl, rfl, ?_⟩)
local macro_rules | `(tactic| walk_at "st0") => `(tactic| simp only [List.map_cons, List.map_nil, List.append_nil, List.cons_append, List.nil_append, List.length_cons, List.length_nil, Nat.reduceSub, Nat.reduceAdd, Nat.sub_self, List.replicate])
local macro_rules | `(tactic| walk_at "rd") => `(tactic| dsimp only [Dl.rRet, Dl.rRetN, Dl.rIfS, Dl.rSeq, Dl.rNext, Dl.rDrop, Dl.rAsg, Dl.rName, Dl.rPar, Dl.rPar3, Dl.rAndV, Dl.rOrV, Dl.rNotV, Dl.dIsi, Dl.dDivmod, Dl.mput, Dl.rUn, Dl.rGset, Dl.rFrz, Dl.rAnd, Dl.rOr, Dl.rNot, Dl.rTest, Dl.rTru, Dl.rIf, Dl.rOp, Dl.rOpL, Dl.rCB, Dl.rCBL, Dl.rCons, Dl.rNil, Dl.rVar, Dl.rC, Dl.rStr, Dl.d1, Dl.fTyp, Dl.fLenS, Dl.fLenQ, Dl.fAll, Dl.fSum, Dl.fRepr, Dl.fTupOf, Dl.dTy, Dl.nb, Dl.dInT, Dl.dIn, Dl.dN, Dl.dEq, Dl.dEqD, Dl.dI0, Dl.dIC, Dl.dCat, Dl.dCatL, Dl.dCatS, Dl.dCatT, Dl.dIxL, Dl.dIxT, Dl.dIxS, Dl.rChain, Dl.rChain3, Dl.rTup, Dl.rLst, Dl.rFroz, Dl.rKeep, Dl.rFld, Dl.rBM, Dl.dAppend, Dl.dReverse, Dl.dClear, Dl.dExtend, Dl.rCK, Dl.fMinD, Dl.rCall, Dl.rCall0, Dl.rMeth, Dl.rMeth0, Dl.rMethN0, Dl.rMake, Dl.rMake0, Dl.rSetF, Dl.rGtup, Dl.rGcons, Dl.rGnil, Dl.rIlst, Dl.rItup, Dl.rIenum, Dl.rIenumT, Dl.rIzip, Dl.rIzip3, Dl.rSlcL, Dl.rSlcT, Dl.rSlcS, Dl.rNoPart, Dl.rPart, Dl.dSS, Dl.dII, Dl.dListOf, Dl.dSortI, Dl.rtD, Dl.rtL, List.map_cons, List.map_nil, List.length_cons, List.length_nil, List.cons_append, List.nil_append, List.append_nil, List.replicate, Nat.reduceSub, Nat.reduceAdd, Nat.sub_self, Nat.sub_zero, List.getElem?_cons_zero, List.getElem?_cons_succ, List.set_cons_zero, List.set_cons_succ, List.take_succ_cons, List.take_zero, List.take_nil, Dl.view, Dl.T.tyn, Dl.T.isN, Dl.T.sc, Dl.T.flat, Dl.flats])
local macro_rules | `(tactic| walk_at "rs") => `(tactic| dsimp only [Dl.rRet, Dl.rRetN, Dl.rIfS, Dl.rNext, Dl.rDrop, Dl.rAsg, Dl.rName, Dl.rPar, Dl.rPar3, Dl.rAndV, Dl.rOrV, Dl.rNotV, Dl.dIsi, Dl.dDivmod, Dl.mput, Dl.rUn, Dl.rGset, Dl.rFrz, Dl.rAnd, Dl.rOr, Dl.rNot, Dl.rTest, Dl.rTru, Dl.rIf, Dl.rOp, Dl.rOpL, Dl.rCB, Dl.rCBL, Dl.rCons, Dl.rNil, Dl.rVar, Dl.rC, Dl.rStr, Dl.d1, Dl.fTyp, Dl.fLenS, Dl.fLenQ, Dl.fAll, Dl.fSum, Dl.fRepr, Dl.fTupOf, Dl.dTy, Dl.nb, Dl.dInT, Dl.dIn, Dl.dN, Dl.dEq, Dl.dEqD, Dl.dI0, Dl.dIC, Dl.dCat, Dl.dCatL, Dl.dCatS, Dl.dCatT, Dl.dIxL, Dl.dIxT, Dl.dIxS, Dl.rChain, Dl.rChain3, Dl.rTup, Dl.rLst, Dl.rFroz, Dl.rKeep, Dl.rFld, Dl.rBM, Dl.dAppend, Dl.dReverse, Dl.dClear, Dl.dExtend, Dl.rCK, Dl.fMinD, Dl.rCall, Dl.rCall0, Dl.rMeth, Dl.rMeth0, Dl.rMethN0, Dl.rMake, Dl.rMake0, Dl.rSetF, Dl.rGtup, Dl.rGcons, Dl.rGnil, Dl.rIlst, Dl.rItup, Dl.rIenum, Dl.rIenumT, Dl.rIzip, Dl.rIzip3, Dl.rSlcL, Dl.rSlcT, Dl.rSlcS, Dl.rNoPart, Dl.rPart, Dl.dSS, Dl.dII, Dl.dListOf, Dl.dSortI, Dl.rtD, Dl.rtL, List.map_cons, List.map_nil, List.length_cons, List.length_nil, List.cons_append, List.nil_append, List.append_nil, List.replicate, Nat.reduceSub, Nat.reduceAdd, Nat.sub_self, Nat.sub_zero, List.getElem?_cons_zero, List.getElem?_cons_succ, List.set_cons_zero, List.set_cons_succ, List.take_succ_cons, List.take_zero, List.take_nil, Dl.view, Dl.T.tyn, Dl.T.isN, Dl.T.sc, Dl.T.flat, Dl.flats])
open Dl Rm
def rf1 (L : Int) (l : List Cal) : List (PySem.Str × Dl.T) := [("_length", .int L), ("_calls", callsT l), ("_total", .int (tot l)), ("_step", .int (stp L l))]
def begT (L : Int) (l : List Cal) : Dl.T := .lst ((bgs L l 0 ++ bgs L l 1).map .int)
def rfs (L : Int) (l : List Cal) : List (PySem.Str × Dl.T) := [("_length", .int L), ("_calls", callsT l), ("_total", .int (tot l)), ("_step", .int (stp L l)), ("_begins", begT L l)]
/-- a round, as it is told -/
def rndT (C : Addr) (L : Int) (l : List Cal) : Dl.T := .obj C (rfs L l)
theorem lk_len {L : Int} {l : List Cal} : List.lookup (Str.ofString "_length") (rfs L l) = some (.int L) := rfl
theorem lk_calls {L : Int} {l : List Cal} : List.lookup (Str.ofString "_calls") (rfs L l) = some (.tup (l.map callT)) := rfl
theorem lk_tot {L : Int} {l : List Cal} : List.lookup (Str.ofString "_total") (rfs L l) = some (.int (tot l)) := rfl
theorem lk_step {L : Int} {l : List Cal} : List.lookup (Str.ofString "_step") (rfs L l) = some (.int (stp L l)) := rfl
theorem lk_begins {L : Int} {l : List Cal} : List.lookup (Str.ofString "_begins") (rfs L l) = some (.lst ((bgs L l 0 ++ bgs L l 1).map .int)) := rfl
def dFirst (C : Addr) : DSpec := fun ts μ Φ _ => ∃ (L : Int) (l : List Cal), ts = [.rs 0] ∧ μ = [.obj C (rf1 L l)] ∧ OkC L l ∧ Φ (begT L l) [.obj C (rf1 L l)]
def dInit (C : Addr) : DSpec := fun ts μ Φ _ => ∃ (L : Int) (l : List Cal), ts = [.rs 0, .int L, callsT l] ∧ μ = [.obj C []] ∧ OkC L l ∧ Φ .non [.obj C (rfs L l)]
def dBg (C : Addr) : DSpec := fun ts μ Φ _ => ∃ (L : Int) (l : List Cal) (k j : Nat), ts = [rndT C L l, .int k, .int j] ∧ μ = [] ∧ OkC L l ∧ j < l.length ∧ Φ (.int (bAt L l k j)) []
section
variable {P : Program} {w : World} {K : PySem.W.Frag} {mg : PySem.Str → Option Value} {base : Heap}
theorem ok_Round__first_begins (T : Txt mg K w.params) : FnOk P w K mg base CX0 1 T.f_Round__first_begins T.fd_Round__first_begins ["self"] (liftSp K 1 (dFirst T.C_Round)) := by
  refine FunD.ok0 T.F_Round__first_begins sc_Round__first_begins lift_len (fun cdv A outer s H vs Q E hr h => ⟨_, pss_cons (ps_set (i := 1) sc_Round__first_begins.nd rfl (.inl rfl) (Dl.pe_keep (pe_lst (pa_nil))))
 (pss_cons (ps_set (i := 2) sc_Round__first_begins.nd rfl (.inl rfl) (pe_int))
 (pss_cons (ps_for PassesOwn.never rfl (pi_range1 (by rfl) T.n_range (pa_cons (pe_int) pa_nil)) (pg_name (i := 3) sc_Round__first_begins.nd rfl (.inl rfl)) (pss_one (ps_for PassesOwn.never rfl (piTK (K := K) rfl (fldK (K := K) rfl (pv 0) rfl)) (pgTK (K := K) rfl (n := 3) (by rfl) (pgs_cons (pg_name (i := 4) sc_Round__first_begins.nd rfl (.inl rfl)) (pgs_cons (pg_name (i := 5) sc_Round__first_begins.nd rfl (.inl rfl)) (pgs_cons (pg_name (i := 6) sc_Round__first_begins.nd rfl (.inl rfl)) (pgs_nil))))) (pss_cons (ps_set (i := 7) sc_Round__first_begins.nd rfl (.inl rfl) (pe_callB (call_max2 rfl) (by rfl) T.n_max (by decide +kernel) (pa_cons (pv 2) (pa_cons (pe_op op_add (pe_op op_mul (pv 3) (fldK (K := K) rfl (pv 0) rfl)) (pv 4)) pa_nil))))
 (pss_cons (ps_expr (bmK (K := K) rfl PySem.F.plainAttrs_list PySem.F.slot_list_append PySem.F.type_list_append mt_append (pv 1) (pa_cons (pv 7) pa_nil)))
 (pss_one (ps_set (i := 2) sc_Round__first_begins.nd rfl (.inl rfl) (pe_op op_add (pv 7) (pv 6)))))))))
 (pss_one (ps_ret (pv 1))))), body_sim h ?_⟩)
  rintro ts μ Φ xw hl ⟨L, l, rfl, rfl, ok, q⟩
  walk_at "st0"
  walk_at "rd"
  refine ⟨rfl, by decide, by decide, by decide, fun k ρ μ => k ≤ 2 ∧ ∃ (a b c d e : Option Dl.T), ρ = [some (.rs 0), some (.rs 1), some (.int (freK L l k)), a, b, c, d, e] ∧ μ = [.obj T.C_Round (rf1 L l), .lst ((accK L l k).map .int)], ⟨by decide, _, _, _, _, _, rfl, rfl⟩, ?_, ?_⟩
  · rintro k t ρ μ et ⟨k2, a, b, c, d, e, rfl, rfl⟩
    have kt : k < 2 ∧ t = .int (k : Int) := by
      match k, et with
      | 0, et => exact ⟨by decide, (Option.some.inj et).symm⟩
      | 1, et => exact ⟨by decide, (Option.some.inj et).symm⟩
      | k + 2, et => simp at et
    obtain ⟨k3, rfl⟩ := kt
    refine ⟨fun i ρ μ => i ≤ l.length ∧ ∃ (b c d e : Option Dl.T), ρ = [some (.rs 0), some (.rs 1), some (.int (fin L k (freK L l k) (l.take i))), some (.int k), b, c, d, e] ∧ μ = [.obj T.C_Round (rf1 L l), .lst ((accK L l k ++ (bgs L l k).take i).map .int)], ⟨Nat.zero_le _, _, _, _, _, rfl, by simp⟩, ?_, ?_⟩
    · rintro i t ρ μ et ⟨il, b, c, d, e, rfl, rfl⟩
      rw [List.getElem?_map, Option.map_eq_some_iff] at et
      obtain ⟨cal, ec, rfl⟩ := et
      obtain ⟨o1, o2, o3, o4, o5⟩ := ok.all cal (List.mem_of_getElem? ec)
      have lt := (List.getElem?_eq_some_iff.mp ec).1
      have bk : (bgs L l k)[i]? = some (max (fin L k (freK L l k) (l.take i)) (k * L + cal.1)) := by
        rw [← freK_beg]
        exact beg_take ec
      unfold callT
      walk_at "rd"
      refine ⟨rfl, ?_⟩
      refine ⟨.inl ⟨by omega, by omega⟩, rfl, _, rfl, rfl, ?_, ?_⟩
      · simp only [List.length_map, List.length_append, List.length_take, bgs_len]
        have : (accK L l k).length ≤ 2 * l.length := by
          match k, k3 with
          | 0, _ => exact Nat.zero_le _
          | 1, _ => simp [accK, bgs_len]; omega
        have := ok.len
        omega
      rw [mx_eq]
      refine ⟨lt, some (.int cal.1), some (.str cal.2.1), some (.int cal.2.2), some (.int (max (fin L k (freK L l k) (l.take i)) (k * L + cal.1))), ?_, ?_⟩
      · rw [fin_take ec]
      · rw [take_snoc bk, ← List.append_assoc]
        simp
    · rintro ρ μ ⟨il, b, c, d, e, rfl, rfl⟩
      refine ⟨by omega, some (.int k), b, c, d, e, ?_, ?_⟩
      · rw [List.length_map, List.take_length, freK_fin]
      · rw [List.length_map, List.take_of_length_le (Nat.le_of_eq (bgs_len L l k))]
        rfl
  · rintro ρ μ ⟨k2, a, b, c, d, e, rfl, rfl⟩
    refine ⟨Nat.le_refl _, _, rfl, ?_⟩
    exact q
theorem ok_Round_init (T : Txt mg K w.params) : FnOk P w K mg base CX0 3 T.f_Round_init T.fd_Round_init ["self", "length", "calls"] (liftSp K 3 (dInit T.C_Round)) := by
  refine FunD.ok0 T.F_Round_init sc_Round_init lift_len (fun cdv A outer s H vs Q E hr h => ⟨_, pss_cons (ps_if (pt_not (pt_val (pe_callX (ok_is_whole T) (hr.mono (by decide)) (by rfl) T.g_is_whole T.F_is_whole.kp (b_is_whole_3 T) pass0 (pa_cons (pv 1) (pa_cons (pe_int) (pa_cons (pe_glob (v := .int 1000) (by rfl) T.c_MOST_LENGTH (by first | exact rfl | exact ⟨_, rfl⟩)) pa_nil)))))) (pss_one (ps_never)) (pss_nil))
 (pss_cons (ps_set (i := 3) sc_Round_init.nd rfl (.inl rfl) (pe_ifExp (pt_cmpR op_isN (pv 2) (pe_non) (by first | rfl | exact nomark _)) (pe_tup (pa_nil)) (pv 2)))
 (pss_cons (ps_if (pt_not (pt_val (pe_callX (ok_are_calls T) (hr.mono (by decide)) (by rfl) T.g_are_calls T.F_are_calls.kp (b_are_calls_2 T) pass0 (pa_cons (pv 3) (pa_cons (pv 1) pa_nil))))) (pss_one (ps_never)) (pss_nil))
 (pss_cons (psFK (K := K) rfl (pv 0) (pv 1) rfl)
 (pss_cons (psFK (K := K) rfl (pv 0) (pe_callTy (tupOfK (K := K) rfl) (by rfl) T.n_tuple (by decide +kernel) (pa_cons (pv 3) pa_nil)) rfl)
 (pss_cons (psFK (K := K) rfl (pv 0) (pe_callB (sumK (K := K) rfl rfl) (by rfl) T.n_sum (by decide +kernel) (pa_cons (pe_lc (own := [("_", 4), ("hours", 5)]) (g := gTup K 3 (gCons (gName 4) (gCons (gName 4) (gCons (gName 5) (gNil))))) (tt := tYes) (by rfl) sc_Round_init.nd (piTK (K := K) rfl (fldK (K := K) rfl (pv 0) rfl)) (blkOk_by (own := [("_", 4), ("hours", 5)]) (N := ["self", "length", "calls", "told", "_", "hours"]) (sc := defScope s_Round_init) (by decide +kernel)) (fun _ _ _ _ _ => pgTK (K := K) rfl (by rfl) (pgs_cons (pg_name (i := 4) sc_Round_init.nd rfl (Or.inl rfl)) (pgs_cons (pg_name (i := 4) sc_Round_init.nd rfl (Or.inl rfl)) (pgs_cons (pg_name (i := 5) sc_Round_init.nd rfl (Or.inl rfl)) (pgs_nil))))) (fun _ _ _ _ _ => pts_nil) (fun _ _ _ _ _ => pv 5)) pa_nil)) rfl)
 (pss_cons (psFK (K := K) rfl (pv 0) (pe_callB (call_max2 rfl) (by rfl) T.n_max (by decide +kernel) (pa_cons (pv 1) (pa_cons (fldK (K := K) rfl (pv 0) rfl) pa_nil))) rfl)
 (pss_one (psFK (K := K) rfl (pv 0) (pe_methX0 (pv 0) T.cl_Round T.m_Round__first_begins (ok_Round__first_begins T) (hr.mono (by decide)) (b_Round__first_begins_1 T) pass0) rfl)))))))), body_sim h ?_⟩)
  rintro ts μ Φ xw hl ⟨L, l, rfl, rfl, ok, q⟩
  have ok1 := ok.l1
  have ok2 := ok.l2
  walk_at "st0"
  unfold callsT
  walk_at "rd"
  refine ⟨rfl, callF rfl ⟨_, _, _, rfl, rfl, knd_int _, ?_⟩⟩
  refine iteF' (by simp [whT]; omega) ⟨rfl, iteF' rfl ⟨rfl, callF rfl ⟨L, l, rfl, rfl, ok, ?_⟩⟩⟩
  refine iteF' rfl ⟨_, _, rfl, T.no_Round__length, rfl, by decide, _, _, rfl, T.no_Round__calls, rfl, by show 1 < 1000; decide, ?_⟩
  refine rLc_map (fun t => match t with | .tup [_, _, h] => h | _ => .non) (by simp) ?_ ?_ ?_
  · rw [List.length_map]
    have := ok.len
    omega
  · intro t ht
    obtain ⟨c, hc, rfl⟩ := List.mem_map.mp ht
    exact ⟨rfl, fun Ψ hΨ => ⟨rfl, hΨ⟩⟩
  · rw [List.map_map]
    refine ⟨_, l.map fun c => c.2.2, rfl, ?_, T.C_Round, _, rfl, T.no_Round__total, rfl, by show 2 < 1000; decide, ?_⟩
    · exact ints_mapf (α := Cal) (fun c => c.2.2) l
    rw [tot_sum]
    show Exists _
    refine ⟨T.C_Round, _, rfl, T.no_Round__step, rfl, by show 3 < 1000; decide, ?_⟩
    rw [stp_eq]
    refine ⟨⟨_, rfl, rfl⟩, rfl, callR rfl rfl ⟨L, l, rfl, rfl, ok, ?_⟩⟩
    exact ⟨T.C_Round, _, rfl, T.no_Round__begins, rfl, by show 4 < 1000; decide, q⟩
end
end K

set_option maxRecDepth 100000
set_option maxHeartbeats 4000000
set_option synthInstance.maxSize 100000
set_option synthInstance.maxHeartbeats 4000000
namespace K
open PySem PySem.Spec PyProof.Rows L2 Gd
local macro_rules | `(tactic| walk_at "mulok") => `(tactic| first | exact Or.inr ⟨by decide, by decide⟩ | exact Or.inl ⟨by decide, by decide⟩ | exact Or.inr ⟨by omega, by omega⟩ | exact Or.inl ⟨by omega, by omega⟩)
local macro_rules | `(tactic| walk_at "st") => `(tactic| first
  | refine ⟨_, rfl, ?_⟩
  | refine ⟨_, _, rfl, rfl, (by walk_at "mulok"), ?_⟩
  | refine ⟨_, _, rfl, rfl, (by show (0 : Int) < _; decide), ?_⟩
  | refine ⟨_, _, rfl, rfl, ⟨by decide, by decide⟩, ?_⟩
  | refine ⟨_, _, rfl, rfl, ?_⟩)
local macro_rules | `(tactic| walk_at "st0") => `(tactic| simp only [List.map_cons, List.map_nil, List.append_nil, List.cons_append, List.nil_append, List.length_cons, List.length_nil, Nat.reduceSub, Nat.reduceAdd, Nat.sub_self, List.replicate])
local macro_rules | `(tactic| walk_at "rd") => `(tactic| dsimp only [Dl.rRet, Dl.rRetN, Dl.rIfS, Dl.rSeq, Dl.rNext, Dl.rDrop, Dl.rAsg, Dl.rName, Dl.rPar, Dl.rPar3, Dl.rAndV, Dl.rOrV, Dl.rNotV, Dl.dIsi, Dl.dDivmod, Dl.mput, Dl.rUn, Dl.rGset, Dl.rFrz, Dl.rAnd, Dl.rOr, Dl.rNot, Dl.rTest, Dl.rTru, Dl.rIf, Dl.rOp, Dl.rOpL, Dl.rCB, Dl.rCBL, Dl.rCons, Dl.rNil, Dl.rVar, Dl.rC, Dl.rStr, Dl.d1, Dl.fTyp, Dl.fLenS, Dl.fLenQ, Dl.fAll, Dl.fSum, Dl.fRepr, Dl.fTupOf, Dl.dTy, Dl.nb, Dl.dInT, Dl.dIn, Dl.dN, Dl.dEq, Dl.dEqD, Dl.dI0, Dl.dIC, Dl.dCat, Dl.dCatL, Dl.dCatS, Dl.dCatT, Dl.dIxL, Dl.dIxT, Dl.dIxS, Dl.rChain, Dl.rChain3, Dl.rTup, Dl.rLst, Dl.rFroz, Dl.rKeep, Dl.rFld, Dl.rBM, Dl.dAppend, Dl.dReverse, Dl.dClear, Dl.dExtend, Dl.rCK, Dl.fMinD, Dl.rCall, Dl.rCall0, Dl.rMeth, Dl.rMeth0, Dl.rMethN0, Dl.rMake, Dl.rMake0, Dl.rSetF, Dl.rGtup, Dl.rGcons, Dl.rGnil, Dl.rIlst, Dl.rItup, Dl.rIenum, Dl.rIenumT, Dl.rIzip, Dl.rIzip3, Dl.rSlcL, Dl.rSlcT, Dl.rSlcS, Dl.rNoPart, Dl.rPart, Dl.dSS, Dl.dII, Dl.dListOf, Dl.dSortI, Dl.rtD, Dl.rtL, List.map_cons, List.map_nil, List.length_cons, List.length_nil, List.cons_append, List.nil_append, List.append_nil, List.replicate, Nat.reduceSub, Nat.reduceAdd, Nat.sub_self, Nat.sub_zero, List.getElem?_cons_zero, List.getElem?_cons_succ, List.set_cons_zero, List.set_cons_succ, List.take_succ_cons, List.take_zero, List.take_nil, Dl.view, Dl.T.tyn, Dl.T.isN, Dl.T.sc, Dl.T.flat, Dl.flats])
local macro_rules | `(tactic| walk_at "rs") => `(tactic| dsimp only [Dl.rRet, Dl.rRetN, Dl.rIfS, Dl.rNext, Dl.rDrop, Dl.rAsg, Dl.rName, Dl.rPar, Dl.rPar3, Dl.rAndV, Dl.rOrV, Dl.rNotV, Dl.dIsi, Dl.dDivmod, Dl.mput, Dl.rUn, Dl.rGset, Dl.rFrz, Dl.rAnd, Dl.rOr, Dl.rNot, Dl.rTest, Dl.rTru, Dl.rIf, Dl.rOp, Dl.rOpL, Dl.rCB, Dl.rCBL, Dl.rCons, Dl.rNil, Dl.rVar, Dl.rC, Dl.rStr, Dl.d1, Dl.fTyp, Dl.fLenS, Dl.fLenQ, Dl.fAll, Dl.fSum, Dl.fRepr, Dl.fTupOf, Dl.dTy, Dl.nb, Dl.dInT, Dl.dIn, Dl.dN, Dl.dEq, Dl.dEqD, Dl.dI0, Dl.dIC, Dl.dCat, Dl.dCatL, Dl.dCatS, Dl.dCatT, Dl.dIxL, Dl.dIxT, Dl.dIxS, Dl.rChain, Dl.rChain3, Dl.rTup, Dl.rLst, Dl.rFroz, Dl.rKeep, Dl.rFld, Dl.rBM, Dl.dAppend, Dl.dReverse, Dl.dClear, Dl.dExtend, Dl.rCK, Dl.fMinD, Dl.rCall, Dl.rCall0, Dl.rMeth, Dl.rMeth0, Dl.rMethN0, Dl.rMake, Dl.rMake0, Dl.rSetF, Dl.rGtup, Dl.rGcons, Dl.rGnil, Dl.rIlst, Dl.rItup, Dl.rIenum, Dl.rIenumT, Dl.rIzip, Dl.rIzip3, Dl.rSlcL, Dl.rSlcT, Dl.rSlcS, Dl.rNoPart, Dl.rPart, Dl.dSS, Dl.dII, Dl.dListOf, Dl.dSortI, Dl.rtD, Dl.rtL, List.map_cons, List.map_nil, List.length_cons, List.length_nil, List.cons_append, List.nil_append, List.append_nil, List.replicate, Nat.reduceSub, Nat.reduceAdd, Nat.sub_self, Nat.sub_zero, List.getElem?_cons_zero, List.getElem?_cons_succ, List.set_cons_zero, List.set_cons_succ, List.take_succ_cons, List.take_zero, List.take_nil, Dl.view, Dl.T.tyn, Dl.T.isN, Dl.T.sc, Dl.T.flat, Dl.flats])
open Dl Rm
def dRef (C : Addr) : DSpec := fun ts μ Φ _ => ∃ (L : Int) (l : List Cal) (k j : Nat), ts = [rndT C L l, .int k, .int j] ∧ μ = [] ∧ OkC L l ∧ k ≤ 1000000000000000000 ∧ j < l.length ∧ Φ .non []
def dBgP (C : Addr) : DSpec := fun ts μ Φ _ => ∃ (L : Int) (l : List Cal) (k j : Nat), ts = [rndT C L l, .int k, .int j] ∧ μ = [] ∧ OkC L l ∧ k ≤ 1000000000000000000 ∧ j < l.length ∧ Φ (.int (bAt L l k j)) []
def dEnd (C : Addr) : DSpec := fun ts μ Φ _ => ∃ (L : Int) (l : List Cal) (k j : Nat) (c : Cal), ts = [rndT C L l, .int k, .int j] ∧ μ = [] ∧ OkC L l ∧ k ≤ 1000000000000000000 ∧ l[j]? = some c ∧ Φ (.int (bAt L l k j + c.2.2)) []
section
variable {P : Program} {w : World} {K : PySem.W.Frag} {mg : PySem.Str → Option Value} {base : Heap}
theorem ok_Round__begin (T : Txt mg K w.params) : FnOk P w K mg base CX0 1 T.f_Round__begin T.fd_Round__begin ["self", "turn", "call"] (liftSp K 3 (dBg T.C_Round)) := by
  refine FunD.ok0 T.F_Round__begin sc_Round__begin lift_len (fun cdv A outer s H vs Q E hr h => ⟨_, pss_cons (ps_if (pt_cmpR op_eq (pv 1) (pe_int) (by first | rfl | exact nomark _)) (pss_one (ps_ret (pe_ix (ixlK (K := K) rfl) (fldK (K := K) rfl (pv 0) rfl) (pv 2) (fun _ _ => rfl)))) (pss_nil))
 (pss_one (ps_ret (pe_op op_add (pe_ix (ixlK (K := K) rfl) (fldK (K := K) rfl (pv 0) rfl) (pe_op op_add (pe_callB (lenK (K := K) rfl) (by rfl) T.n_len (by decide +kernel) (pa_cons (fldK (K := K) rfl (pv 0) rfl) pa_nil)) (pv 2)) (fun _ _ => rfl)) (pe_op op_mul (pe_op op_sub (pv 1) (pe_int)) (fldK (K := K) rfl (pv 0) rfl))))), body_sim h ?_⟩)
  rintro ts μ Φ xw hl ⟨L, l, k, j, rfl, rfl, ok, j1, q⟩
  walk_at "st0"
  unfold rndT
  walk_at "rd"
  simp only [lk_calls, lk_step, lk_begins]
  by_cases k0 : k = 0
  · subst k0
    refine iteT' (by decide) ⟨_, .int (bAt L l 0 j), rfl, ?_, q⟩
    exact atI_map (by rw [List.getElem?_append_left (by rw [bgs_len]; exact j1)]; exact bAt_some j1)
  · obtain ⟨m, rfl⟩ := Nat.exists_eq_succ_of_ne_zero k0
    have st := ok.stp
    refine iteF' (by simp; omega) ⟨_, .int (bAt L l 1 j), rfl, ?_, .inr ⟨by omega, by omega⟩, ?_⟩
    · rw [List.length_map, ← Int.natCast_add]
      exact atI_map (by rw [List.getElem?_append_right (by rw [bgs_len]; omega), bgs_len, Nat.add_sub_cancel_left]; exact bAt_some j1)
    · rw [bAt_on (by have := ok.l1; omega) ok.pos j1] at q
      rw [show ((m.succ : Nat) : Int) - 1 = m from by omega]
      exact q
theorem ok_Round__refuse_no_call (T : Txt mg K w.params) : FnOk P w K mg base CX0 2 T.f_Round__refuse_no_call T.fd_Round__refuse_no_call ["self", "turn", "call"] (liftSp K 3 (dRef T.C_Round)) := by
  refine FunD.ok0 T.F_Round__refuse_no_call sc_Round__refuse_no_call lift_len (fun cdv A outer s H vs Q E hr h => ⟨_, pss_cons (ps_if (pt_not (pt_val (pe_callX (ok_is_whole T) (hr.mono (by decide)) (by rfl) T.g_is_whole T.F_is_whole.kp (b_is_whole_3 T) pass0 (pa_cons (pv 1) (pa_cons (pe_int) (pa_cons (pe_glob (v := .int 1000000000000000000) (by rfl) T.c_FARTHEST (by first | exact rfl | exact ⟨_, rfl⟩)) pa_nil)))))) (pss_one (ps_never)) (pss_nil))
 (pss_one (ps_if (pt_not (pt_val (pe_callX (ok_is_whole T) (hr.mono (by decide)) (by rfl) T.g_is_whole T.F_is_whole.kp (b_is_whole_3 T) pass0 (pa_cons (pv 2) (pa_cons (pe_int) (pa_cons (pe_op op_sub (pe_callB (lenK (K := K) rfl) (by rfl) T.n_len (by decide +kernel) (pa_cons (fldK (K := K) rfl (pv 0) rfl) pa_nil)) (pe_int)) pa_nil)))))) (pss_one (ps_never)) (pss_nil))), body_sim h ?_⟩)
  rintro ts μ Φ xw hl ⟨L, l, k, j, rfl, rfl, ok, k1, j1, q⟩
  walk_at "st0"
  unfold rndT
  walk_at "rd"
  simp only [lk_calls]
  refine ⟨trivial, callF rfl ⟨_, _, _, rfl, rfl, knd_int _, ?_⟩⟩
  refine iteF' (by simp [whT]; omega) ⟨trivial, callF rfl ⟨_, _, _, rfl, rfl, knd_int _, ?_⟩⟩
  refine iteF' (by simp [whT]; omega) q
theorem ok_Round_begins (T : Txt mg K w.params) : FnOk P w K mg base CX0 3 T.f_Round_begins T.fd_Round_begins ["self", "turn", "call"] (liftSp K 3 (dBgP T.C_Round)) := by
  refine FunD.ok0 T.F_Round_begins sc_Round_begins lift_len (fun cdv A outer s H vs Q E hr h => ⟨_, pss_cons (ps_expr (pe_methX (pv 0) T.cl_Round T.m_Round__refuse_no_call (ok_Round__refuse_no_call T) (hr.mono (by decide)) (b_Round__refuse_no_call_3 T) pass0 (pa_cons (pv 1) (pa_cons (pv 2) pa_nil))))
 (pss_one (ps_ret (pe_methX (pv 0) T.cl_Round T.m_Round__begin (ok_Round__begin T) (hr.mono (by decide)) (b_Round__begin_3 T) pass0 (pa_cons (pv 1) (pa_cons (pv 2) pa_nil))))), body_sim h ?_⟩)
  rintro ts μ Φ xw hl ⟨L, l, k, j, rfl, rfl, ok, k1, j1, q⟩
  walk_at "st0"
  unfold rndT
  walk_at "rd"
  refine ⟨⟨_, rfl, rfl⟩, rfl, callF rfl ⟨L, l, k, j, rfl, rfl, ok, k1, j1, ?_⟩⟩
  exact ⟨⟨_, rfl, rfl⟩, rfl, callF rfl ⟨L, l, k, j, rfl, rfl, ok, j1, q⟩⟩
theorem ok_Round_ends (T : Txt mg K w.params) : FnOk P w K mg base CX0 3 T.f_Round_ends T.fd_Round_ends ["self", "turn", "call"] (liftSp K 3 (dEnd T.C_Round)) := by
  refine FunD.ok0 T.F_Round_ends sc_Round_ends lift_len (fun cdv A outer s H vs Q E hr h => ⟨_, pss_cons (ps_expr (pe_methX (pv 0) T.cl_Round T.m_Round__refuse_no_call (ok_Round__refuse_no_call T) (hr.mono (by decide)) (b_Round__refuse_no_call_3 T) pass0 (pa_cons (pv 1) (pa_cons (pv 2) pa_nil))))
 (pss_one (ps_ret (pe_op op_add (pe_methX (pv 0) T.cl_Round T.m_Round__begin (ok_Round__begin T) (hr.mono (by decide)) (b_Round__begin_3 T) pass0 (pa_cons (pv 1) (pa_cons (pv 2) pa_nil))) (pe_ix (ixtK (K := K) rfl) (pe_ix (ixtK (K := K) rfl) (fldK (K := K) rfl (pv 0) rfl) (pv 2) (fun _ _ => rfl)) (pe_int) (fun _ _ => rfl))))), body_sim h ?_⟩)
  rintro ts μ Φ xw hl ⟨L, l, k, j, c, rfl, rfl, ok, k1, j1, q⟩
  walk_at "st0"
  unfold rndT
  walk_at "rd"
  have lt := (List.getElem?_eq_some_iff.mp j1).1
  refine ⟨⟨_, rfl, rfl⟩, rfl, callF rfl ⟨L, l, k, j, rfl, rfl, ok, k1, lt, ?_⟩⟩
  refine ⟨⟨_, rfl, rfl⟩, rfl, callF rfl ⟨L, l, k, j, rfl, rfl, ok, lt, ?_⟩⟩
  simp only [lk_calls]
  exact ⟨_, _, rfl, atI_map j1, _, _, rfl, rfl, q⟩
end
end K

set_option maxRecDepth 100000
set_option maxHeartbeats 4000000
set_option synthInstance.maxSize 100000
set_option synthInstance.maxHeartbeats 4000000
namespace K
open PySem PySem.Spec PyProof.Rows L2 Gd
local macro_rules | `(tactic| walk_at "mulok") => `(tactic| first | exact Or.inr ⟨by decide, by decide⟩ | exact Or.inl ⟨by decide, by decide⟩ | exact Or.inr ⟨by omega, by omega⟩ | exact Or.inl ⟨by omega, by omega⟩)
local macro_rules | `(tactic| walk_at "st") => `(tactic| first
  | refine ⟨_, rfl, ?_⟩
  | refine ⟨_, _, rfl, rfl, (by walk_at "mulok"), ?_⟩
  | refine ⟨_, _, rfl, rfl, (by show (0 : Int) < _; decide), ?_⟩
  | refine ⟨_, _, rfl, rfl, ⟨by decide, by decide⟩, ?_⟩
  | refine ⟨_, _, rfl, rfl, ?_⟩)
local macro_rules | `(tactic| walk_at "st0") => `(tactic| simp only [List.map_cons, List.map_nil, List.append_nil, List.cons_append, List.nil_append, List.length_cons, List.length_nil, Nat.reduceSub, Nat.reduceAdd, Nat.sub_self, List.replicate])
local macro_rules | `(tactic| walk_at "rd") => `(tactic| dsimp only [Dl.rRet, Dl.rRetN, Dl.rIfS, Dl.rSeq, Dl.rNext, Dl.rDrop, Dl.rAsg, Dl.rName, Dl.rPar, Dl.rPar3, Dl.rAndV, Dl.rOrV, Dl.rNotV, Dl.dIsi, Dl.dDivmod, Dl.mput, Dl.rUn, Dl.rGset, Dl.rFrz, Dl.rAnd, Dl.rOr, Dl.rNot, Dl.rTest, Dl.rTru, Dl.rIf, Dl.rOp, Dl.rOpL, Dl.rCB, Dl.rCBL, Dl.rCons, Dl.rNil, Dl.rVar, Dl.rC, Dl.rStr, Dl.d1, Dl.fTyp, Dl.fLenS, Dl.fLenQ, Dl.fAll, Dl.fSum, Dl.fRepr, Dl.fTupOf, Dl.dTy, Dl.nb, Dl.dInT, Dl.dIn, Dl.dN, Dl.dEq, Dl.dEqD, Dl.dI0, Dl.dIC, Dl.dCat, Dl.dCatL, Dl.dCatS, Dl.dCatT, Dl.dIxL, Dl.dIxT, Dl.dIxS, Dl.rChain, Dl.rChain3, Dl.rTup, Dl.rLst, Dl.rFroz, Dl.rKeep, Dl.rFld, Dl.rBM, Dl.dAppend, Dl.dReverse, Dl.dClear, Dl.dExtend, Dl.rCK, Dl.fMinD, Dl.rCall, Dl.rCall0, Dl.rMeth, Dl.rMeth0, Dl.rMethN0, Dl.rMake, Dl.rMake0, Dl.rSetF, Dl.rGtup, Dl.rGcons, Dl.rGnil, Dl.rIlst, Dl.rItup, Dl.rIenum, Dl.rIenumT, Dl.rIzip, Dl.rIzip3, Dl.rSlcL, Dl.rSlcT, Dl.rSlcS, Dl.rNoPart, Dl.rPart, Dl.dSS, Dl.dII, Dl.dListOf, Dl.dSortI, Dl.rtD, Dl.rtL, List.map_cons, List.map_nil, List.length_cons, List.length_nil, List.cons_append, List.nil_append, List.append_nil, List.replicate, Nat.reduceSub, Nat.reduceAdd, Nat.sub_self, Nat.sub_zero, List.getElem?_cons_zero, List.getElem?_cons_succ, List.set_cons_zero, List.set_cons_succ, List.take_succ_cons, List.take_zero, List.take_nil, Dl.view, Dl.T.tyn, Dl.T.isN, Dl.T.sc, Dl.T.flat, Dl.flats])
local macro_rules | `(tactic| walk_at "rs") => `(tactic| dsimp only [Dl.rRet, Dl.rRetN, Dl.rIfS, Dl.rNext, Dl.rDrop, Dl.rAsg, Dl.rName, Dl.rPar, Dl.rPar3, Dl.rAndV, Dl.rOrV, Dl.rNotV, Dl.dIsi, Dl.dDivmod, Dl.mput, Dl.rUn, Dl.rGset, Dl.rFrz, Dl.rAnd, Dl.rOr, Dl.rNot, Dl.rTest, Dl.rTru, Dl.rIf, Dl.rOp, Dl.rOpL, Dl.rCB, Dl.rCBL, Dl.rCons, Dl.rNil, Dl.rVar, Dl.rC, Dl.rStr, Dl.d1, Dl.fTyp, Dl.fLenS, Dl.fLenQ, Dl.fAll, Dl.fSum, Dl.fRepr, Dl.fTupOf, Dl.dTy, Dl.nb, Dl.dInT, Dl.dIn, Dl.dN, Dl.dEq, Dl.dEqD, Dl.dI0, Dl.dIC, Dl.dCat, Dl.dCatL, Dl.dCatS, Dl.dCatT, Dl.dIxL, Dl.dIxT, Dl.dIxS, Dl.rChain, Dl.rChain3, Dl.rTup, Dl.rLst, Dl.rFroz, Dl.rKeep, Dl.rFld, Dl.rBM, Dl.dAppend, Dl.dReverse, Dl.dClear, Dl.dExtend, Dl.rCK, Dl.fMinD, Dl.rCall, Dl.rCall0, Dl.rMeth, Dl.rMeth0, Dl.rMethN0, Dl.rMake, Dl.rMake0, Dl.rSetF, Dl.rGtup, Dl.rGcons, Dl.rGnil, Dl.rIlst, Dl.rItup, Dl.rIenum, Dl.rIenumT, Dl.rIzip, Dl.rIzip3, Dl.rSlcL, Dl.rSlcT, Dl.rSlcS, Dl.rNoPart, Dl.rPart, Dl.dSS, Dl.dII, Dl.dListOf, Dl.dSortI, Dl.rtD, Dl.rtL, List.map_cons, List.map_nil, List.length_cons, List.length_nil, List.cons_append, List.nil_append, List.append_nil, List.replicate, Nat.reduceSub, Nat.reduceAdd, Nat.sub_self, Nat.sub_zero, List.getElem?_cons_zero, List.getElem?_cons_succ, List.set_cons_zero, List.set_cons_succ, List.take_succ_cons, List.take_zero, List.take_nil, Dl.view, Dl.T.tyn, Dl.T.isN, Dl.T.sc, Dl.T.flat, Dl.flats])
open Dl Rm
abbrev nxt : PySem.Str := "next"
def lets : PySem.Str := "abcdefghijklmnopqrstuvwxyz"
/-- all names of a list are ones -/
def dCalled : DSpec := fun ts μ Φ _ => ∃ (n : Nat) (many : Nat), ts = [.rs 0, .int many] ∧ μ = [.drw nxt (n + 3 + many * 8)] ∧ many ≤ 6 ∧ ∀ (zs : List PySem.Str) (m : Nat), zs.length = many → (∀ z ∈ zs, nmS z = true) → n ≤ m → Φ (.lst (zs.map .str)) [.drw nxt m]
def low (z : PySem.Str) : Prop := z.cps.toList.all lowS = true
theorem low_add {z y : PySem.Str} (h : low z) (k : low y) : low (z ++ y) := by
  have e : (z ++ y).cps.toList = z.cps.toList ++ y.cps.toList := Array.toList_append
  unfold low at *
  rw [e, List.all_append, h, k]
  rfl
theorem slen_add (z y : PySem.Str) : (z ++ y).length = z.length + y.length := by
  have e : (z ++ y).cps.toList = z.cps.toList ++ y.cps.toList := Array.toList_append
  rw [len_tl, len_tl, len_tl, e, List.length_append]
theorem low_one {c : Nat} (h : lowS c = true) : low ⟨#[c]⟩ := by
  unfold low
  simp [h]
theorem nm_of {z : PySem.Str} (h : low z) (a : 1 ≤ z.length) (b : z.length ≤ 8) (c : decide (z ∈ noNames) = false) : nmS z = true := by
  unfold low at h
  unfold nmS
  rw [decide_eq_true a, decide_eq_true b, h, c]
  rfl
theorem nm_low {z : PySem.Str} (h : nmS z = true) : low z ∧ 1 ≤ z.length ∧ z.length ≤ 8 := by
  unfold nmS at h
  simp only [Bool.and_eq_true, decide_eq_true_eq] at h
  exact ⟨h.2.1, h.1.1, h.1.2⟩
theorem q_left : ∀ z ∈ noNames, nmS (Str.ofString "q" ++ z) = true ∧ (Str.ofString "q" ++ z).length ≤ 7 := by decide +kernel
theorem q_right : ∀ z ∈ noNames, nmS (z ++ Str.ofString "q") = true ∧ (z ++ Str.ofString "q").length ≤ 7 := by decide +kernel
theorem lets_at {i : Int} (h : 0 ≤ i) (k : i < 26) : ∃ c, lowS c = true ∧ atI lets.cps.toList i = some c := by
  have e : lets.cps.toList.length = 26 := by decide +kernel
  obtain ⟨c, hc, _, a⟩ := at_in (l := lets.cps.toList) (i := i) h (by omega)
  have all : lets.cps.toList.all lowS = true := by decide +kernel
  exact ⟨c, List.all_eq_true.mp all c hc, a⟩
section
variable {P : Program} {w : World} {K : PySem.W.Frag} {mg : PySem.Str → Option Value} {base : Heap}
theorem ok_law_called (T : Txt mg K w.params) : FnOk P w K mg base CX0 3 T.f_law_called T.fd_law_called ["m", "many"] (liftSp K 2 dCalled) := by
  refine FunD.ok0 T.F_law_called sc_law_called lift_len (fun cdv A outer s H vs Q E hr h => ⟨_, pss_cons (ps_par3 (i := 2) (j := 3) (l := 4) (by rfl) sc_law_called.nd rfl rfl rfl (by decide) (by decide) (by decide) rfl rfl rfl (pa_cons (pe_str) (pa_cons (Dl.pe_keep (pe_lst (pa_nil))) (pa_cons (pe_cmpR op_eq (pe_callX (ok_law_draw T) (hr.mono (by decide)) (by rfl) T.g_law_draw T.F_law_draw.kp (b_law_draw_2 T) pass0 (pa_cons (pv 0) (pa_cons (pe_int) pa_nil))) (pe_int) (by first | rfl | exact nomark _)) pa_nil))) (by rfl))
 (pss_cons (ps_set (i := 5) sc_law_called.nd rfl (.inl rfl) (pe_callX (ok_law_draw T) (hr.mono (by decide)) (by rfl) T.g_law_draw T.F_law_draw.kp (b_law_draw_2 T) pass0 (pa_cons (pv 0) (pa_cons (pe_int) pa_nil))))
 (pss_cons (ps_set (i := 6) sc_law_called.nd rfl (.inl rfl) (pe_ix (ixlK (K := K) rfl) (pe_lst (pa_cons (pe_int) (pa_cons (pe_int) (pa_cons (pe_int) (pa_cons (pe_int) (pa_cons (pe_int) (pa_cons (pe_int) (pa_cons (pe_int) (pa_cons (pe_int) (pa_cons (pe_int) (pa_cons (pe_int) (pa_cons (pe_int) (pa_cons (pe_int) pa_nil))))))))))))) (pe_callX (ok_law_draw T) (hr.mono (by decide)) (by rfl) T.g_law_draw T.F_law_draw.kp (b_law_draw_2 T) pass0 (pa_cons (pv 0) (pa_cons (pe_int) pa_nil))) (fun _ _ => rfl)))
 (pss_cons (ps_for PassesOwn.never rfl (pi_range1 (by rfl) T.n_range (pa_cons (pv 1) pa_nil)) (pg_name (i := 7) sc_law_called.nd rfl (.inl rfl)) (pss_cons (ps_par (i := 8) (j := 9) (by rfl) sc_law_called.nd rfl rfl (by decide) rfl rfl (pa_cons (pe_ix ix_str (pv 2) (pe_op op_mod (pe_op op_add (pv 5) (pe_op op_mul (pv 6) (pv 7))) (pe_int)) (fun _ _ => rfl)) (pa_cons (pe_str) pa_nil)) (by rfl))
 (pss_cons (ps_for PassesOwn.never rfl (pi_range1 (by rfl) T.n_range (pa_cons (pe_callX (ok_law_draw T) (hr.mono (by decide)) (by rfl) T.g_law_draw T.F_law_draw.kp (b_law_draw_2 T) pass0 (pa_cons (pv 0) (pa_cons (pe_int) pa_nil))) pa_nil)) (pg_name (i := 10) sc_law_called.nd rfl (.inl rfl)) (pss_one (ps_set (i := 9) sc_law_called.nd rfl (.inl rfl) (pe_op op_add_str (pv 9) (pe_ix ix_str (pv 2) (pe_callX (ok_law_draw T) (hr.mono (by decide)) (by rfl) T.g_law_draw T.F_law_draw.kp (b_law_draw_2 T) pass0 (pa_cons (pv 0) (pa_cons (pe_int) pa_nil))) (fun _ _ => rfl))))))
 (pss_cons (ps_set (i := 9) sc_law_called.nd rfl (.inl rfl) (pe_ifExp (pt_val (pv 4)) (pe_op op_add_str (pv 9) (pv 8)) (pe_op op_add_str (pv 8) (pv 9))))
 (pss_cons (ps_if (PW.pt (pw_and (pt_cmpR op_eq (pe_op op_mod (pv 7) (pe_int)) (pe_int) (by first | rfl | exact nomark _)) (pw_and1 (pt_cmpR op_eq (pe_callX (ok_law_draw T) (hr.mono (by decide)) (by rfl) T.g_law_draw T.F_law_draw.kp (b_law_draw_2 T) pass0 (pa_cons (pv 0) (pa_cons (pe_int) pa_nil))) (pe_int) (by first | rfl | exact nomark _))))) (pss_one (ps_set (i := 9) sc_law_called.nd rfl (.inl rfl) (pe_op op_add_str (pe_ix (ixlK (K := K) rfl) (pv 3) (pe_un un_neg (pe_int)) (fun _ _ => rfl)) (pv 8)))) (pss_nil))
 (pss_cons (ps_if (pt_cmpR (inK (K := K) rfl) (pv 9) (pe_tup (pa_cons (pe_str) (pa_cons (pe_str) (pa_cons (pe_str) (pa_cons (pe_str) (pa_cons (pe_str) (pa_cons (pe_str) (pa_cons (pe_str) (pa_cons (pe_str) (pa_cons (pe_str) (pa_cons (pe_str) pa_nil))))))))))) (by first | rfl | exact nomark _)) (pss_one (ps_set (i := 9) sc_law_called.nd rfl (.inl rfl) (pe_ifExp (pt_val (pv 4)) (pe_op op_add_str (pe_str) (pv 9)) (pe_op op_add_str (pv 9) (pe_str))))) (pss_nil))
 (pss_one (ps_expr (bmK (K := K) rfl PySem.F.plainAttrs_list PySem.F.slot_list_append PySem.F.type_list_append mt_append (pv 3) (pa_cons (pv 9) pa_nil))))))))))
 (pss_one (ps_ret (pv 3)))))), body_sim h ?_⟩)
  rintro ts μ Φ xw hl ⟨n, many, rfl, rfl, m6, q⟩
  walk_at "st0"
  walk_at "rd"
  refine ⟨by decide +kernel, rfl, by decide, rfl, drawR rfl (by omega) (by decide) (by decide) fun v0 v00 v01 => ?_⟩
  walk_at "rd"
  refine ⟨rfl, drawR rfl (by omega) (by decide) (by decide) fun v1 v10 v11 => ?_⟩
  walk_at "rd"
  refine ⟨rfl, by decide, rfl, drawR rfl (by omega) (by decide) (by decide) fun v2 v20 v21 => ?_⟩
  walk_at "rd"
  obtain ⟨st, ⟨st0, st1⟩, es⟩ : ∃ st : Int, (0 ≤ st ∧ st ≤ 25) ∧ atI [Dl.T.int 1, Dl.T.int 3, Dl.T.int 5, Dl.T.int 7, Dl.T.int 9, Dl.T.int 11, Dl.T.int 15, Dl.T.int 17, Dl.T.int 19, Dl.T.int 21, Dl.T.int 23, Dl.T.int 25] v2 = some (.int st) := by
    obtain ⟨c, hc, a⟩ := at_intT (cs := [1, 3, 5, 7, 9, 11, 15, 17, 19, 21, 23, 25]) v20 v21
    exact ⟨c, (show ∀ c ∈ [1, 3, 5, 7, 9, 11, 15, 17, 19, 21, 23, 25], (0 : Int) ≤ c ∧ c ≤ 25 from by decide) c hc, a⟩
  refine ⟨_, _, rfl, es, ?_⟩
  refine ⟨by omega, by omega, fun i ρ μ => ∃ (zs : List PySem.Str) (k : Nat) (a b c d : Option Dl.T), ρ = [some (.rs 0), some (.int many), some (.str lets), some (.rs 1), some (.bl (decide (v0 = 1))), some (.int v1), some (.int st), a, b, c, d] ∧ μ = [.drw nxt k, .lst (zs.map .str)] ∧ zs.length = i ∧ (∀ z ∈ zs, nmS z = true) ∧ (∀ z, i % 2 = 1 → zs[i - 1]? = some z → z.length ≤ 7) ∧ n + (many - i) * 8 ≤ k, ?_, ?_, ?_⟩
  · exact ⟨[], _, none, none, none, none, rfl, rfl, rfl, by simp, by simp, by omega⟩
  · rintro i t ρ μ et ⟨zs, k, a, b, c, d, rfl, rfl, zl, zn, z7, kb⟩
    obtain ⟨im, rfl⟩ := range_at et
    rw [Int.toNat_natCast] at im
    walk_at "rs"
    refine rSeq_go ?_
    walk_at "rs"
    obtain ⟨cs, lcs, ecs⟩ := lets_at (i := (v1 + st * i) % 26) (Int.emod_nonneg _ (by decide)) (Int.emod_lt_of_pos _ (by decide))
    refine ⟨.inr ⟨by omega, by omega⟩, by decide, by decide +kernel, cs, ecs, by decide +kernel, ?_⟩
    refine rSeq_go ?_
    walk_at "rs"
    refine ⟨rfl, drawR rfl (by omega) (by decide) (by decide) fun v3 v30 v31 => ?_⟩
    walk_at "rs"
    refine ⟨by omega, by omega, fun e ρ μ => ∃ (said : PySem.Str) (k' : Nat) (x : Option Dl.T), ρ = [some (.rs 0), some (.int many), some (.str lets), some (.rs 1), some (.bl (decide (v0 = 1))), some (.int v1), some (.int st), some (.int i), some (.str ⟨#[cs]⟩), some (.str said), x] ∧ μ = [.drw nxt k', .lst (zs.map .str)] ∧ low said ∧ said.length = e ∧ k ≤ k' + 1 + e, ⟨_, _, d, rfl, rfl, rfl, by decide +kernel, by omega⟩, ?_, ?_⟩
    · rintro e t ρ μ et ⟨said, k', x, rfl, rfl, lo, le, kb'⟩
      obtain ⟨ev, rfl⟩ := range_at et
      walk_at "rs"
      refine ⟨rfl, drawR rfl (by omega) (by decide) (by decide) fun v4 v40 v41 => ?_⟩
      walk_at "rs"
      obtain ⟨c4, l4, e4⟩ := lets_at v40 v41
      refine ⟨by decide +kernel, c4, e4, ?_, said ++ ⟨#[c4]⟩, _, some (.int e), rfl, rfl, low_add lo (low_one l4), ?_, by omega⟩
      · show said.length + 1 ≤ 1000000
        omega
      · rw [slen_add, le]
        rfl
    · rintro ρ μ ⟨said, k', x, rfl, rfl, lo, le, kb'⟩
      rw [List.length_map, List.length_range] at le kb'
      have c1 : (⟨#[cs]⟩ : PySem.Str).length = 1 := rfl
      refine rSeq_cut (fun ρ μ => ∃ s2 : PySem.Str, ρ = [some (.rs 0), some (.int many), some (.str lets), some (.rs 1), some (.bl (decide (v0 = 1))), some (.int v1), some (.int st), some (.int i), some (.str ⟨#[cs]⟩), some (.str s2), x] ∧ μ = [.drw nxt k', .lst (zs.map .str)] ∧ low s2 ∧ 1 ≤ s2.length ∧ s2.length ≤ 7) (fun N hN => ?_) ?_
      · walk_at "rs"
        by_cases h0 : v0 = 1
        · rw [if_pos (decide_eq_true h0)]
          exact ⟨by omega, hN _ _ ⟨_, rfl, rfl, low_add lo (low_one lcs), by rw [slen_add]; omega, by rw [slen_add]; omega⟩⟩
        · rw [if_neg (by simp [h0])]
          exact ⟨by omega, hN _ _ ⟨_, rfl, rfl, low_add (low_one lcs) lo, by rw [slen_add]; omega, by rw [slen_add]; omega⟩⟩
      rintro ρ μ ⟨s2, rfl, rfl, lo2, a2, b2⟩
      refine rSeq_cut (fun ρ μ => ∃ (s3 : PySem.Str) (k3 : Nat), ρ = [some (.rs 0), some (.int many), some (.str lets), some (.rs 1), some (.bl (decide (v0 = 1))), some (.int v1), some (.int st), some (.int i), some (.str ⟨#[cs]⟩), some (.str s3), x] ∧ μ = [.drw nxt k3, .lst (zs.map .str)] ∧ low s3 ∧ 1 ≤ s3.length ∧ s3.length ≤ 8 ∧ (i % 2 = 0 → s3.length ≤ 7) ∧ k' ≤ k3 + 1) (fun N hN => ?_) ?_
      · walk_at "rs"
        refine ⟨by decide, ?_⟩
        by_cases od : i % 2 = 1
        · refine iteT' (by simp; omega) ⟨rfl, drawR rfl (by omega) (by decide) (by decide) fun v5 v50 v51 => ?_⟩
          walk_at "rs"
          by_cases h5 : v5 = 0
          · obtain ⟨y, hy⟩ : ∃ y, zs[i - 1]? = some y := ⟨_, List.getElem?_eq_getElem (by omega)⟩
            have y7 := z7 y od hy
            obtain ⟨yl, ya, yb⟩ := nm_low (zn y (List.mem_of_getElem? hy))
            refine iteT' (by simp [h5]) ⟨_, .str y, rfl, ?_, by omega, hN _ _ ⟨_, _, rfl, rfl, low_add yl (low_one lcs), by rw [slen_add]; omega, by rw [slen_add]; omega, fun h => by omega, by omega⟩⟩
            exact atI_last (by rw [List.getElem?_map, List.length_map, zl, hy]; rfl)
          · exact iteF' (by simp [h5]) (hN _ _ ⟨_, _, rfl, rfl, lo2, a2, by omega, fun _ => b2, by omega⟩)
        · exact iteF' (by simp; omega) (hN _ _ ⟨_, _, rfl, rfl, lo2, a2, by omega, fun _ => b2, by omega⟩)
      rintro ρ μ ⟨s3, k3, rfl, rfl, lo3, a3, b3, p3, kb3⟩
      refine rSeq_cut (fun ρ μ => ∃ (s4 : PySem.Str), ρ = [some (.rs 0), some (.int many), some (.str lets), some (.rs 1), some (.bl (decide (v0 = 1))), some (.int v1), some (.int st), some (.int i), some (.str ⟨#[cs]⟩), some (.str s4), x] ∧ μ = [.drw nxt k3, .lst (zs.map .str)] ∧ nmS s4 = true ∧ (i % 2 = 0 → s4.length ≤ 7)) (fun N hN => ?_) ?_
      · walk_at "rs"
        refine ⟨by decide +kernel, by decide +kernel, by decide +kernel, by decide +kernel, by decide +kernel, by decide +kernel, by decide +kernel, by decide +kernel, by decide +kernel, by decide +kernel, rfl, by decide, _, _, noNames.map V.str, rfl, rfl, rfl, ?_⟩
        refine iteE (inV_str s3 noNames) ?_
        by_cases hm : s3 ∈ noNames
        · rw [if_pos (decide_eq_true hm)]
          have ql := q_left s3 hm
          have qr := q_right s3 hm
          by_cases h0 : v0 = 1
          · rw [if_pos (decide_eq_true h0)]
            exact ⟨by decide +kernel, by show 1 + s3.length ≤ 1000000; omega, hN _ _ ⟨_, rfl, rfl, ql.1, fun _ => ql.2⟩⟩
          · rw [if_neg (by simp [h0])]
            exact ⟨by decide +kernel, by show s3.length + 1 ≤ 1000000; omega, hN _ _ ⟨_, rfl, rfl, qr.1, fun _ => qr.2⟩⟩
        · rw [if_neg (by simp [hm])]
          exact hN _ _ ⟨_, rfl, rfl, nm_of lo3 a3 b3 (by simp [hm]), p3⟩
      rintro ρ μ ⟨s4, rfl, rfl, n4, p4⟩
      walk_at "rs"
      refine ⟨rfl, _, rfl, rfl, by rw [List.length_map]; omega, zs ++ [s4], k3, _, _, _, _, rfl, by rw [List.map_append]; rfl, by rw [List.length_append, zl]; rfl, ?_, ?_, by omega⟩
      · intro z hz
        rcases List.mem_append.mp hz with hz | hz
        · exact zn z hz
        · rw [List.mem_singleton.mp hz]
          exact n4
      · intro z od ez
        rw [Nat.add_sub_cancel, ← zl, List.getElem?_concat_length] at ez
        cases ez
        exact p4 (by omega)
  · rintro ρ μ ⟨zs, k, a, b, c, d, rfl, rfl, zl, zn, z7, kb⟩
    refine ⟨Nat.le_refl _, _, rfl, ?_⟩
    exact q zs k (by rw [zl, List.length_map, List.length_range, Int.toNat_natCast]) zn (by omega)
end
end K

set_option maxRecDepth 100000
set_option maxHeartbeats 4000000
set_option synthInstance.maxSize 100000
set_option synthInstance.maxHeartbeats 4000000
namespace K
open PySem PySem.Spec PyProof.Rows L2 Gd
local macro_rules | `(tactic| walk_at "mulok") => `(tactic| first | exact Or.inr ⟨by decide, by decide⟩ | exact Or.inl ⟨by decide, by decide⟩ | exact Or.inr ⟨by omega, by omega⟩ | exact Or.inl ⟨by omega, by omega⟩)
local macro_rules | `(tactic| walk_at "st") => `(tactic| first
  | refine ⟨_, rfl, ?_⟩
  | refine ⟨_, _, rfl, rfl, (by walk_at "mulok"), ?_⟩
  | refine ⟨_, _, rfl, rfl, (by show (0 : Int) < _; decide), ?_⟩
  | refine ⟨_, _, rfl, rfl, ⟨by decide, by decide⟩, ?_⟩
  | refine ⟨_, _, rfl, rfl, ?_⟩)
local macro_rules | `(tactic| walk_at "st0") => `(tactic| simp only [List.map_cons, List.map_nil, List.append_nil, List.cons_append, List.nil_append, List.length_cons, List.length_nil, Nat.reduceSub, Nat.reduceAdd, Nat.sub_self, List.replicate])
local macro_rules | `(tactic| walk_at "rd") => `(tactic| dsimp only [Dl.rRet, Dl.rRetN, Dl.rIfS, Dl.rSeq, Dl.rNext, Dl.rDrop, Dl.rAsg, Dl.rName, Dl.rPar, Dl.rPar3, Dl.rAndV, Dl.rOrV, Dl.rNotV, Dl.dIsi, Dl.dDivmod, Dl.mput, Dl.rUn, Dl.rGset, Dl.rFrz, Dl.rAnd, Dl.rOr, Dl.rNot, Dl.rTest, Dl.rTru, Dl.rIf, Dl.rOp, Dl.rOpL, Dl.rCB, Dl.rCBL, Dl.rCons, Dl.rNil, Dl.rVar, Dl.rC, Dl.rStr, Dl.d1, Dl.fTyp, Dl.fLenS, Dl.fLenQ, Dl.fAll, Dl.fSum, Dl.fRepr, Dl.fTupOf, Dl.dTy, Dl.nb, Dl.dInT, Dl.dIn, Dl.dN, Dl.dEq, Dl.dEqD, Dl.dI0, Dl.dIC, Dl.dCat, Dl.dCatL, Dl.dCatS, Dl.dCatT, Dl.dIxL, Dl.dIxT, Dl.dIxS, Dl.rChain, Dl.rChain3, Dl.rTup, Dl.rLst, Dl.rFroz, Dl.rKeep, Dl.rFld, Dl.rBM, Dl.dAppend, Dl.dReverse, Dl.dClear, Dl.dExtend, Dl.rCK, Dl.fMinD, Dl.rCall, Dl.rCall0, Dl.rMeth, Dl.rMeth0, Dl.rMethN0, Dl.rMake, Dl.rMake0, Dl.rSetF, Dl.rGtup, Dl.rGcons, Dl.rGnil, Dl.rIlst, Dl.rItup, Dl.rIenum, Dl.rIenumT, Dl.rIzip, Dl.rIzip3, Dl.rSlcL, Dl.rSlcT, Dl.rSlcS, Dl.rNoPart, Dl.rPart, Dl.dSS, Dl.dII, Dl.dListOf, Dl.dSortI, Dl.rtD, Dl.rtL, List.map_cons, List.map_nil, List.length_cons, List.length_nil, List.cons_append, List.nil_append, List.append_nil, List.replicate, Nat.reduceSub, Nat.reduceAdd, Nat.sub_self, Nat.sub_zero, List.getElem?_cons_zero, List.getElem?_cons_succ, List.set_cons_zero, List.set_cons_succ, List.take_succ_cons, List.take_zero, List.take_nil, Dl.view, Dl.T.tyn, Dl.T.isN, Dl.T.sc, Dl.T.flat, Dl.flats])
local macro_rules | `(tactic| walk_at "rs") => `(tactic| dsimp only [Dl.rRet, Dl.rRetN, Dl.rIfS, Dl.rNext, Dl.rDrop, Dl.rAsg, Dl.rName, Dl.rPar, Dl.rPar3, Dl.rAndV, Dl.rOrV, Dl.rNotV, Dl.dIsi, Dl.dDivmod, Dl.mput, Dl.rUn, Dl.rGset, Dl.rFrz, Dl.rAnd, Dl.rOr, Dl.rNot, Dl.rTest, Dl.rTru, Dl.rIf, Dl.rOp, Dl.rOpL, Dl.rCB, Dl.rCBL, Dl.rCons, Dl.rNil, Dl.rVar, Dl.rC, Dl.rStr, Dl.d1, Dl.fTyp, Dl.fLenS, Dl.fLenQ, Dl.fAll, Dl.fSum, Dl.fRepr, Dl.fTupOf, Dl.dTy, Dl.nb, Dl.dInT, Dl.dIn, Dl.dN, Dl.dEq, Dl.dEqD, Dl.dI0, Dl.dIC, Dl.dCat, Dl.dCatL, Dl.dCatS, Dl.dCatT, Dl.dIxL, Dl.dIxT, Dl.dIxS, Dl.rChain, Dl.rChain3, Dl.rTup, Dl.rLst, Dl.rFroz, Dl.rKeep, Dl.rFld, Dl.rBM, Dl.dAppend, Dl.dReverse, Dl.dClear, Dl.dExtend, Dl.rCK, Dl.fMinD, Dl.rCall, Dl.rCall0, Dl.rMeth, Dl.rMeth0, Dl.rMethN0, Dl.rMake, Dl.rMake0, Dl.rSetF, Dl.rGtup, Dl.rGcons, Dl.rGnil, Dl.rIlst, Dl.rItup, Dl.rIenum, Dl.rIenumT, Dl.rIzip, Dl.rIzip3, Dl.rSlcL, Dl.rSlcT, Dl.rSlcS, Dl.rNoPart, Dl.rPart, Dl.dSS, Dl.dII, Dl.dListOf, Dl.dSortI, Dl.rtD, Dl.rtL, List.map_cons, List.map_nil, List.length_cons, List.length_nil, List.cons_append, List.nil_append, List.append_nil, List.replicate, Nat.reduceSub, Nat.reduceAdd, Nat.sub_self, Nat.sub_zero, List.getElem?_cons_zero, List.getElem?_cons_succ, List.set_cons_zero, List.set_cons_succ, List.take_succ_cons, List.take_zero, List.take_nil, Dl.view, Dl.T.tyn, Dl.T.isN, Dl.T.sc, Dl.T.flat, Dl.flats])
open Dl Rm
/-- a round as the law draws it -/
def plnT (L : Int) (l : List Cal) : Dl.T := .tup [.int L, callsT l]
def dPlain : DSpec := fun ts μ Φ _ => ∃ (n : Nat) (zs : List PySem.Str) (top : Int), ts = [.rs 0, .lst (zs.map .str), .int top] ∧ μ = [.drw nxt (n + 100)] ∧ zs.length = 6 ∧ (∀ z ∈ zs, nmS z = true) ∧ 1 ≤ top ∧ top ≤ 1000 ∧ ∀ (L : Int) (l : List Cal) (m : Nat), OkC L l → n ≤ m → Φ (plnT L l) [.drw nxt m]
section
variable {P : Program} {w : World} {K : PySem.W.Frag} {mg : PySem.Str → Option Value} {base : Heap}
theorem ok_law_plain (T : Txt mg K w.params) : FnOk P w K mg base CX0 3 T.f_law_plain T.fd_law_plain ["m", "w", "top"] (liftSp K 3 dPlain) := by
  refine FunD.ok0 T.F_law_plain sc_law_plain lift_len (fun cdv A outer s H vs Q E hr h => ⟨_, pss_cons (ps_set (i := 3) sc_law_plain.nd rfl (.inr rfl) (pe_op op_add (pe_int) (pe_callX (ok_law_draw T) (hr.mono (by decide)) (by rfl) T.g_law_draw T.F_law_draw.kp (b_law_draw_2 T) pass0 (pa_cons (pv 0) (pa_cons (pe_ix (ixlK (K := K) rfl) (pe_lst (pa_cons (pe_int) (pa_cons (pe_int) (pa_cons (pv 2) pa_nil)))) (pe_callX (ok_law_draw T) (hr.mono (by decide)) (by rfl) T.g_law_draw T.F_law_draw.kp (b_law_draw_2 T) pass0 (pa_cons (pv 0) (pa_cons (pe_int) pa_nil))) (fun _ _ => rfl)) pa_nil)))))
 (pss_cons (ps_set (i := 4) sc_law_plain.nd rfl (.inl rfl) (pe_callX (ok_law_draw T) (hr.mono (by decide)) (by rfl) T.g_law_draw T.F_law_draw.kp (b_law_draw_2 T) pass0 (pa_cons (pv 0) (pa_cons (pe_ix (ixlK (K := K) rfl) (pe_lst (pa_cons (pe_int) (pa_cons (pe_int) pa_nil))) (pe_callX (ok_law_draw T) (hr.mono (by decide)) (by rfl) T.g_law_draw T.F_law_draw.kp (b_law_draw_2 T) pass0 (pa_cons (pv 0) (pa_cons (pe_int) pa_nil))) (fun _ _ => rfl)) pa_nil))))
 (pss_cons (ps_set (i := 5) sc_law_plain.nd rfl (.inr rfl) (pe_callB (call_min2 rfl) (by rfl) T.n_min (by decide +kernel) (pa_cons (pe_int) (pa_cons (pe_ix (ixlK (K := K) rfl) (pe_lst (pa_cons (pe_int) (pa_cons (pe_op op_add (pe_int) (pe_op op_fdivN (pe_op op_mul (pe_int) (pv 3)) (pe_callB (call_max2 rfl) (by rfl) T.n_max (by decide +kernel) (pa_cons (pe_int) (pa_cons (pv 4) pa_nil))))) (pa_cons (pe_op op_add (pv 3) (pe_int)) pa_nil)))) (pe_callX (ok_law_draw T) (hr.mono (by decide)) (by rfl) T.g_law_draw T.F_law_draw.kp (b_law_draw_2 T) pass0 (pa_cons (pv 0) (pa_cons (pe_int) pa_nil))) (fun _ _ => rfl)) pa_nil))))
 (pss_cons (ps_set (i := 6) sc_law_plain.nd rfl (.inl rfl) (pe_callB (sortIK (K := K) rfl) (by rfl) T.n_sorted (by decide +kernel) (pa_cons (pe_lc (own := [("j", 9)]) (g := gName 9) (tt := tYes) (by rfl) sc_law_plain.nd (pi_range1 (by rfl) T.n_range (pa_cons (pv 4) pa_nil)) (blkOk_by (own := [("j", 9)]) (N := ["m", "w", "top", "span", "many", "high", "comes", "works", "rest", "j", "come", "work"]) (sc := defScope s_law_plain) (by decide +kernel)) (fun _ _ _ _ _ => pg_name (i := 9) sc_law_plain.nd rfl (Or.inl rfl)) (fun _ _ _ _ _ => pts_nil) (fun _ _ _ _ _ => pe_ix (ixlK (K := K) rfl) (pe_lst (pa_cons (pe_int) (pa_cons (pe_callX (ok_law_draw T) (hr.mono (by decide)) (by rfl) T.g_law_draw T.F_law_draw.kp (b_law_draw_2 T) pass0 (pa_cons (pv 0) (pa_cons (pv 3) pa_nil))) (pa_cons (pe_callX (ok_law_draw T) (hr.mono (by decide)) (by rfl) T.g_law_draw T.F_law_draw.kp (b_law_draw_2 T) pass0 (pa_cons (pv 0) (pa_cons (pe_op op_add (pe_int) (pe_op op_fdiv (pv 3) (pe_int))) pa_nil))) pa_nil)))) (pe_callX (ok_law_draw T) (hr.mono (by decide)) (by rfl) T.g_law_draw T.F_law_draw.kp (b_law_draw_2 T) pass0 (pa_cons (pv 0) (pa_cons (pe_int) pa_nil))) (fun _ _ => rfl))) pa_nil)))
 (pss_cons (Dl.ps_keepA (ps_setLc (i := 7) (own := [("j", 9)]) (g := gName 9) (tt := tYes) (by rfl) sc_law_plain.nd rfl rfl (sw_true rfl rfl rfl (by decide +kernel)) (pi_range1 (by rfl) T.n_range (pa_cons (pv 4) pa_nil)) (blkOk_by (own := [("j", 9)]) (N := ["m", "w", "top", "span", "many", "high", "comes", "works", "rest", "j", "come", "work"]) (sc := defScope s_law_plain) (by decide +kernel)) (fun _ _ _ _ _ => pg_name (i := 9) sc_law_plain.nd rfl (Or.inl rfl)) (fun _ _ _ _ _ => pts_nil) (fun _ _ _ _ _ => pe_op op_add (pe_int) (pe_callX (ok_law_draw T) (hr.mono (by decide)) (by rfl) T.g_law_draw T.F_law_draw.kp (b_law_draw_2 T) pass0 (pa_cons (pv 0) (pa_cons (pv 5) pa_nil))))))
 (pss_cons (ps_set (i := 8) sc_law_plain.nd rfl (.inl rfl) (pe_op op_sub (pe_op op_add (pe_op op_sub (pv 3) (pe_callB (sumK (K := K) rfl rfl) (by rfl) T.n_sum (by decide +kernel) (pa_cons (pe_slice (sllK (K := K) rfl) (pv 7) po_none (po_some (pe_un un_neg (pe_int)))) pa_nil))) (pe_callX (ok_law_draw T) (hr.mono (by decide)) (by rfl) T.g_law_draw T.F_law_draw.kp (b_law_draw_2 T) pass0 (pa_cons (pv 0) (pa_cons (pe_int) pa_nil)))) (pe_int)))
 (pss_cons (ps_if (PW.pt (pw_and (pt_cmpR op_gt (pv 4) (pe_int) (by first | rfl | exact nomark _)) (pw_and (pt_cmpR op_eq (pe_callX (ok_law_draw T) (hr.mono (by decide)) (by rfl) T.g_law_draw T.F_law_draw.kp (b_law_draw_2 T) pass0 (pa_cons (pv 0) (pa_cons (pe_int) pa_nil))) (pe_int) (by first | rfl | exact nomark _)) (pw_and1 (pt_chain op_le op_le (pe_int) (pv 8) (pe_int)))))) (pss_one (ps_asg (pv 8) (pg_sub (pv 7) (pe_un un_neg (pe_int)) set_list))) (pss_nil))
 (pss_one (Dl.ps_frz 7 (ps_ret (pe_tup (pa_cons (pv 3) (pa_cons (pe_callTy (tupOfK (K := K) rfl) (by rfl) T.n_tuple (by decide +kernel) (pa_cons (pe_lc (own := [("come", 10), ("work", 11)]) (g := gTup K 2 (gCons (gName 10) (gCons (gName 11) (gNil)))) (tt := tYes) (by rfl) sc_law_plain.nd (piZK (K := K) rfl (by rfl) T.n_zip (pa_cons (pv 6) (pa_cons (pv 7) pa_nil))) (blkOk_by (own := [("come", 10), ("work", 11)]) (N := ["m", "w", "top", "span", "many", "high", "comes", "works", "rest", "j", "come", "work"]) (sc := defScope s_law_plain) (by decide +kernel)) (fun _ _ _ _ _ => pgTK (K := K) rfl (by rfl) (pgs_cons (pg_name (i := 10) sc_law_plain.nd rfl (Or.inl rfl)) (pgs_cons (pg_name (i := 11) sc_law_plain.nd rfl (Or.inl rfl)) (pgs_nil)))) (fun _ _ _ _ _ => pts_nil) (fun _ _ _ _ _ => pe_tup (pa_cons (pv 10) (pa_cons (pe_ix (ixlK (K := K) rfl) (pv 1) (pe_callX (ok_law_draw T) (hr.mono (by decide)) (by rfl) T.g_law_draw T.F_law_draw.kp (b_law_draw_2 T) pass0 (pa_cons (pv 0) (pa_cons (pe_int) pa_nil))) (fun _ _ => rfl)) (pa_cons (pv 11) pa_nil))))) pa_nil)) pa_nil)))))))))))), body_sim h ?_⟩)
  rintro ts μ Φ xw hl ⟨n, zs, top, rfl, rfl, zl, zn, top1, top2, q⟩
  walk_at "st0"
  walk_at "rs"
  -- the length
  refine rSeq_cut (fun ρ μ => ∃ L : Int, 1 ≤ L ∧ L ≤ 1000 ∧ ρ = [some (.rs 0), some (.lst (zs.map .str)), some (.int top), some (.int L), none, none, none, none, none, none, none, none] ∧ μ = [.drw nxt (n + 98)]) (fun N hN => ?_) ?_
  · walk_at "rs"
    refine ⟨rfl, by decide, rfl, drawR rfl (by omega) (by decide) (by decide) fun v v0 v1 => ?_⟩
    walk_at "rs"
    obtain ⟨c, hc, e⟩ := at_intT (cs := [4, 24, top]) v0 v1
    have cb : 1 ≤ c ∧ c ≤ 1000 := by
      simp only [List.mem_cons, List.not_mem_nil, or_false] at hc
      omega
    refine ⟨_, _, rfl, e, rfl, drawR rfl (by omega) (by omega) (by omega) fun u u0 u1 => ?_⟩
    exact hN _ _ ⟨1 + u, by omega, by omega, rfl, rfl⟩
  rintro ρ μ ⟨L, L1, L2, rfl, rfl⟩
  -- how many
  refine rSeq_cut (fun ρ μ => ∃ many : Nat, many ≤ 12 ∧ ρ = [some (.rs 0), some (.lst (zs.map .str)), some (.int top), some (.int L), some (.int many), none, none, none, none, none, none, none] ∧ μ = [.drw nxt (n + 96)]) (fun N hN => ?_) ?_
  · walk_at "rs"
    refine ⟨rfl, by decide, rfl, drawR rfl (by omega) (by decide) (by decide) fun v v0 v1 => ?_⟩
    walk_at "rs"
    obtain ⟨c, hc, e⟩ := at_intT (cs := [4, 13]) v0 v1
    have cb : 1 ≤ c ∧ c ≤ 13 := by
      simp only [List.mem_cons, List.not_mem_nil, or_false] at hc
      omega
    refine ⟨_, _, rfl, e, rfl, drawR rfl (by omega) (by omega) (by omega) fun u u0 u1 => ?_⟩
    exact hN _ _ ⟨u.toNat, by omega, by rw [Int.toNat_of_nonneg u0], rfl⟩
  rintro ρ μ ⟨many, m12, rfl, rfl⟩
  -- the most hours
  refine rSeq_cut (fun ρ μ => ∃ high : Int, 1 ≤ high ∧ high ≤ 1000 ∧ ρ = [some (.rs 0), some (.lst (zs.map .str)), some (.int top), some (.int L), some (.int many), some (.int high), none, none, none, none, none, none] ∧ μ = [.drw nxt (n + 95)]) (fun N hN => ?_) ?_
  · walk_at "rs"
    have mx : (if (many : Int) > 1 then (many : Int) else 1) = max 1 (many : Int) := by split <;> omega
    rw [mx]
    refine ⟨.inl ⟨by decide, by decide⟩, ⟨by omega, by omega⟩, rfl, by decide, rfl, drawR rfl (by omega) (by decide) (by decide) fun v v0 v1 => ?_⟩
    walk_at "rs"
    have dv : 0 ≤ (2 * L).fdiv (max 1 (many : Int)) := Int.fdiv_nonneg (by omega) (by omega)
    obtain ⟨c, hc, e⟩ := at_intT (cs := [2, 1 + (2 * L).fdiv (max 1 (many : Int)), L + 3]) v0 v1
    have cb : 1 ≤ c := by
      simp only [List.mem_cons, List.not_mem_nil, or_false] at hc
      omega
    refine ⟨_, _, rfl, e, ?_⟩
    exact hN _ _ ⟨if c < 1000 then c else 1000, by split <;> omega, by split <;> omega, rfl, rfl⟩
  rintro ρ μ ⟨high, h1, h2, rfl, rfl⟩
  -- when they come
  refine rSeq_cut (fun ρ μ => ∃ cs : List Int, cs.length = many ∧ (∀ c ∈ cs, 0 ≤ c ∧ c < L) ∧ cs.Pairwise (· ≤ ·) ∧ ρ = [some (.rs 0), some (.lst (zs.map .str)), some (.int top), some (.int L), some (.int many), some (.int high), some (.lst (cs.map .int)), none, none, none, none, none] ∧ μ = [.drw nxt (n + 95 - many * 3)]) (fun N hN => ?_) ?_
  · walk_at "rs"
    refine ⟨by omega, by omega, by simp, fun i acc μ => ∃ cs : List Int, acc = cs.map .int ∧ cs.length = i ∧ (∀ c ∈ cs, 0 ≤ c ∧ c < L) ∧ i ≤ many ∧ μ = [.drw nxt (n + 95 - i * 3)], ⟨[], rfl, rfl, by simp, Nat.zero_le _, rfl⟩, ?_, ?_⟩
    · rintro i t acc μ et ⟨cs, rfl, cl, cb, im, rfl⟩
      obtain ⟨im2, rfl⟩ := range_at et
      rw [Int.toNat_natCast] at im2
      simp only [wipeR]
      walk_at "rs"
      refine ⟨rfl, drawR rfl (by omega) (by omega) (by omega) fun u u0 u1 => ?_⟩
      walk_at "rs"
      refine ⟨⟨by decide, by decide⟩, rfl, drawR rfl (by omega) (by omega) (by omega) fun u2 u20 u21 => ?_⟩
      walk_at "rs"
      refine ⟨rfl, by decide, rfl, drawR rfl (by omega) (by decide) (by decide) fun v v0 v1 => ?_⟩
      walk_at "rs"
      obtain ⟨c, hc, e⟩ := at_intT (cs := [0, u, u2]) v0 v1
      have cb2 : 0 ≤ c ∧ c < L := by
        simp only [List.mem_cons, List.not_mem_nil, or_false] at hc
        omega
      refine ⟨_, _, rfl, e, rfl, by rw [List.length_map]; omega, cs ++ [c], by rw [List.map_append]; rfl, by rw [List.length_append, cl]; rfl, ?_, by omega, ?_⟩
      · intro d hd
        rcases List.mem_append.mp hd with hd | hd
        · exact cb d hd
        · rw [List.mem_singleton.mp hd]
          exact cb2
      · congr 2
        omega
    · rintro acc μ ⟨cs, rfl, cl, cb, im, rfl⟩
      rw [List.length_map, List.length_range, Int.toNat_natCast] at cl
      refine ⟨_, cs, rfl, ints_map cs, fun cs2 pm pw => hN _ _ ⟨cs2, by rw [pm.length_eq, cl], fun c hc => cb c (pm.mem_iff.mp hc), pw, rfl, ?_⟩⟩
      rw [List.length_map, List.length_range, Int.toNat_natCast]
  rintro ρ μ ⟨cs, cl, cb, cp, rfl, rfl⟩
  -- how long they last
  refine rSeq_cut (fun ρ μ => ∃ ws : List Int, ws.length = many ∧ (∀ c ∈ ws, 1 ≤ c ∧ c ≤ 1000) ∧ ρ = [some (.rs 0), some (.lst (zs.map .str)), some (.int top), some (.int L), some (.int many), some (.int high), some (.lst (cs.map .int)), some (.rs 1), none, none, none, none] ∧ μ = [.drw nxt (n + 95 - many * 4), .lst (ws.map .int)]) (fun N hN => ?_) ?_
  · walk_at "rs"
    refine ⟨by omega, by omega, by simp, fun i acc μ => ∃ ws : List Int, acc = ws.map .int ∧ ws.length = i ∧ (∀ c ∈ ws, 1 ≤ c ∧ c ≤ 1000) ∧ i ≤ many ∧ μ = [.drw nxt (n + 95 - many * 3 - i)], ⟨[], rfl, rfl, by simp, Nat.zero_le _, rfl⟩, ?_, ?_⟩
    · rintro i t acc μ et ⟨ws, rfl, wl, wb, im, rfl⟩
      obtain ⟨im2, rfl⟩ := range_at et
      rw [Int.toNat_natCast] at im2
      simp only [wipeR]
      walk_at "rs"
      refine ⟨rfl, drawR rfl (by omega) (by omega) (by omega) fun u u0 u1 => ?_⟩
      walk_at "rs"
      refine ⟨rfl, by rw [List.length_map]; omega, ws ++ [1 + u], by rw [List.map_append]; rfl, by rw [List.length_append, wl]; rfl, ?_, by omega, ?_⟩
      · intro d hd
        rcases List.mem_append.mp hd with hd | hd
        · exact wb d hd
        · rw [List.mem_singleton.mp hd]
          omega
      · congr 2
    · rintro acc μ ⟨ws, rfl, wl, wb, im, rfl⟩
      rw [List.length_map, List.length_range, Int.toNat_natCast] at *
      refine hN _ _ ⟨ws, wl, wb, rfl, ?_⟩
      rw [show n + 95 - many * 3 - many = n + 95 - many * 4 from by omega]
      rfl
  rintro ρ μ ⟨ws, wl, wb, rfl, rfl⟩
  -- what is left
  refine rSeq_cut (fun ρ μ => ∃ rest : Int, ρ = [some (.rs 0), some (.lst (zs.map .str)), some (.int top), some (.int L), some (.int many), some (.int high), some (.lst (cs.map .int)), some (.rs 1), some (.int rest), none, none, none] ∧ μ = [.drw nxt (n + 94 - many * 4), .lst (ws.map .int)]) (fun N hN => ?_) ?_
  · walk_at "rs"
    refine ⟨_, rfl, _, cutT ws none (some (-1)), rfl, ?_, rfl, drawR rfl (by omega) (by decide) (by decide) fun v v0 v1 => ?_⟩
    · rw [cutT_map]
      exact ints_map _
    · refine hN _ _ ⟨_, rfl, ?_⟩
      rw [show n + 94 - many * 4 = n + 95 - many * 4 - 1 from by omega]
      rfl
  rintro ρ μ ⟨rest, rfl, rfl⟩
  refine rSeq_cut (fun ρ μ => ∃ (ws : List Int) (kk : Nat), ws.length = many ∧ (∀ c ∈ ws, 1 ≤ c ∧ c ≤ 1000) ∧ n + 20 ≤ kk ∧ ρ = [some (.rs 0), some (.lst (zs.map .str)), some (.int top), some (.int L), some (.int many), some (.int high), some (.lst (cs.map .int)), some (.rs 1), some (.int rest), none, none, none] ∧ μ = [.drw nxt kk, .lst (ws.map .int)]) (fun N hN => ?_) ?_
  · walk_at "rs"
    by_cases m0 : 0 < many
    · refine iteT' (by simp [m0]) ⟨rfl, drawR rfl (by omega) (by decide) (by decide) fun v v0 v1 => ?_⟩
      walk_at "rs"
      have no : N [some (.rs 0), some (.lst (zs.map .str)), some (.int top), some (.int L), some (.int many), some (.int high), some (.lst (cs.map .int)), some (.rs 1), some (.int rest), none, none, none] [.drw nxt (n + 94 - many * 4 - 1), .lst (ws.map .int)] := by
        exact hN _ _ ⟨ws, _, wl, wb, by omega, rfl, rfl⟩
      by_cases hv : v = 0
      · refine iteT' (by simp [hv]) ?_
        by_cases r1 : 1 ≤ rest
        · refine iteT' (by simp [r1]) ?_
          by_cases r2 : rest ≤ 1000
          · refine iteT' (by simp [r2]) ⟨_, many - 1, rfl, ?_, rfl, hN _ _ ⟨ws.set (many - 1) rest, n + 94 - many * 4 - 1, by rw [List.length_set, wl], ?_, by omega, rfl, by rw [List.map_set]⟩⟩
            · rw [List.length_map, wl]
              unfold ixN
              simp
              omega
            · intro c hc
              rcases List.mem_or_eq_of_mem_set hc with hc | rfl
              · exact wb c hc
              · exact ⟨r1, r2⟩
          · exact iteF' (by simp [r2]) no
        · exact iteF' (by simp [r1]) (iteF' rfl no)
      · exact iteF' (by simp [hv]) (iteF' rfl no)
    · have hz : many = 0 := by omega
      exact iteF' (by simp [hz]) (iteF' rfl (hN _ _ ⟨ws, _, wl, wb, by omega, rfl, rfl⟩))
  clear wb wl ws
  rintro ρ μ ⟨ws, kk, wl, wb, kb, rfl, rfl⟩
  walk_at "rs"
  refine ⟨_, rfl, by simp, fun i acc μ => ∃ l : List Cal, acc = l.map callT ∧ l.length = i ∧ i ≤ many ∧ μ = [.drw nxt (kk - i), .gone] ∧ ∀ (j : Nat) (c : Cal), l[j]? = some c → cs[j]? = some c.1 ∧ ws[j]? = some c.2.2 ∧ nmS c.2.1 = true, ⟨[], rfl, rfl, Nat.zero_le _, rfl, by simp⟩, ?_, ?_⟩
  · rintro i t acc μ et ⟨l, rfl, ll, im, rfl, al⟩
    have lt := (List.getElem?_eq_some_iff.mp et).1
    rw [List.length_map, List.length_zip, List.length_map, List.length_map, cl, wl] at lt
    have e1 : cs[i]? = some cs[i] := List.getElem?_eq_getElem (by omega)
    have e2 : ws[i]? = some ws[i] := List.getElem?_eq_getElem (by omega)
    have et2 : t = .tup [.int cs[i], .int ws[i]] := by
      have ez : ((cs.map Dl.T.int).zip (ws.map Dl.T.int))[i]? = some (Dl.T.int cs[i], Dl.T.int ws[i]) := List.getElem?_zip_eq_some.mpr ⟨by rw [List.getElem?_map, e1]; rfl, by rw [List.getElem?_map, e2]; rfl⟩
      rw [List.getElem?_map, ez] at et
      exact (Option.some.inj et).symm
    subst et2
    simp only [wipeR]
    walk_at "rs"
    refine ⟨rfl, rfl, drawR rfl (by omega) (by decide) (by decide) fun v v0 v1 => ?_⟩
    walk_at "rs"
    obtain ⟨z, hz, e3, ez⟩ := at_in (l := zs) (i := v) v0 (by omega)
    refine ⟨_, .str z, rfl, ?_, rfl, by decide, rfl, by rw [List.length_map]; omega, l ++ [(cs[i], z, ws[i])], by rw [List.map_append]; rfl, by rw [List.length_append, ll]; rfl, by omega, rfl, ?_⟩
    · refine atI_int v0 ?_
      rw [List.getElem?_map, e3]
      rfl
    · intro j c ec
      by_cases hj : j < l.length
      · rw [List.getElem?_append_left hj] at ec
        exact al j c ec
      · have : j = i := by
          have := (List.getElem?_eq_some_iff.mp ec).1
          rw [List.length_append, ll] at this
          simp at this
          omega
        rw [show j = l.length from by omega, List.getElem?_concat_length] at ec
        cases ec
        rw [this]
        exact ⟨e1, e2, zn z hz⟩
  · rintro acc μ ⟨l, rfl, ll, im, rfl, al⟩
    have lm : l.length = many := by
      rw [ll, List.length_map, List.length_zip, List.length_map, List.length_map, cl, wl, Nat.min_self]
    refine ⟨rfl, by decide, q L l _ ⟨L1, L2, by omega, fun c hc => ?_, fun i c d e1 e2 => ?_⟩ ?_⟩
    · obtain ⟨j, hj, e⟩ := List.getElem_of_mem hc
      obtain ⟨a, b, d⟩ := al j c (by rw [List.getElem?_eq_getElem hj, e])
      have ca := cb _ (List.mem_of_getElem? a)
      have wa := wb _ (List.mem_of_getElem? b)
      exact ⟨ca.1, ca.2, d, wa.1, wa.2⟩
    · obtain ⟨a, _, _⟩ := al i c e1
      obtain ⟨b, _, _⟩ := al (i + 1) d e2
      obtain ⟨l1, b1⟩ := List.getElem?_eq_some_iff.mp a
      obtain ⟨l2, b2⟩ := List.getElem?_eq_some_iff.mp b
      rw [← b1, ← b2]
      exact List.pairwise_iff_getElem.mp cp i (i + 1) l1 l2 (by omega)
    · rw [← ll, lm]
      omega
end
end K

set_option maxRecDepth 100000
set_option maxHeartbeats 4000000
set_option synthInstance.maxSize 100000
set_option synthInstance.maxHeartbeats 4000000
namespace K
open PySem PySem.Spec PyProof.Rows L2 Gd
local macro_rules | `(tactic| walk_at "mulok") => `(tactic| first | exact Or.inr ⟨by decide, by decide⟩ | exact Or.inl ⟨by decide, by decide⟩ | exact Or.inr ⟨by omega, by omega⟩ | exact Or.inl ⟨by omega, by omega⟩)
local macro_rules | `(tactic| walk_at "st") => `(tactic| first
  | refine ⟨_, rfl, ?_⟩
  | refine ⟨_, _, rfl, rfl, (by walk_at "mulok"), ?_⟩
  | refine ⟨_, _, rfl, rfl, (by show (0 : Int) < _; decide), ?_⟩
  | refine ⟨_, _, rfl, rfl, ⟨by decide, by decide⟩, ?_⟩
  | refine ⟨_, _, rfl, rfl, ?_⟩)
local macro_rules | `(tactic| walk_at "st0") => `(tactic| simp only [List.map_cons, List.map_nil, List.append_nil, List.cons_append, List.nil_append, List.length_cons, List.length_nil, Nat.reduceSub, Nat.reduceAdd, Nat.sub_self, List.replicate])
local macro_rules | `(tactic| walk_at "rd") => `(tactic| dsimp only [Dl.rRet, Dl.rRetN, Dl.rIfS, Dl.rSeq, Dl.rNext, Dl.rDrop, Dl.rAsg, Dl.rName, Dl.rPar, Dl.rPar3, Dl.rAndV, Dl.rOrV, Dl.rNotV, Dl.dIsi, Dl.dDivmod, Dl.mput, Dl.rUn, Dl.rGset, Dl.rFrz, Dl.rAnd, Dl.rOr, Dl.rNot, Dl.rTest, Dl.rTru, Dl.rIf, Dl.rOp, Dl.rOpL, Dl.rCB, Dl.rCBL, Dl.rCons, Dl.rNil, Dl.rVar, Dl.rC, Dl.rStr, Dl.d1, Dl.fTyp, Dl.fLenS, Dl.fLenQ, Dl.fAll, Dl.fSum, Dl.fRepr, Dl.fTupOf, Dl.dTy, Dl.nb, Dl.dInT, Dl.dIn, Dl.dN, Dl.dEq, Dl.dEqD, Dl.dI0, Dl.dIC, Dl.dCat, Dl.dCatL, Dl.dCatS, Dl.dCatT, Dl.dIxL, Dl.dIxT, Dl.dIxS, Dl.rChain, Dl.rChain3, Dl.rTup, Dl.rLst, Dl.rFroz, Dl.rKeep, Dl.rFld, Dl.rBM, Dl.dAppend, Dl.dReverse, Dl.dClear, Dl.dExtend, Dl.rCK, Dl.fMinD, Dl.rCall, Dl.rCall0, Dl.rMeth, Dl.rMeth0, Dl.rMethN0, Dl.rMake, Dl.rMake0, Dl.rSetF, Dl.rGtup, Dl.rGcons, Dl.rGnil, Dl.rIlst, Dl.rItup, Dl.rIenum, Dl.rIenumT, Dl.rIzip, Dl.rIzip3, Dl.rSlcL, Dl.rSlcT, Dl.rSlcS, Dl.rNoPart, Dl.rPart, Dl.dSS, Dl.dII, Dl.dListOf, Dl.dSortI, Dl.rtD, Dl.rtL, List.map_cons, List.map_nil, List.length_cons, List.length_nil, List.cons_append, List.nil_append, List.append_nil, List.replicate, Nat.reduceSub, Nat.reduceAdd, Nat.sub_self, Nat.sub_zero, List.getElem?_cons_zero, List.getElem?_cons_succ, List.set_cons_zero, List.set_cons_succ, List.take_succ_cons, List.take_zero, List.take_nil, Dl.view, Dl.T.tyn, Dl.T.isN, Dl.T.sc, Dl.T.flat, Dl.flats])
local macro_rules | `(tactic| walk_at "rs") => `(tactic| dsimp only [Dl.rRet, Dl.rRetN, Dl.rIfS, Dl.rNext, Dl.rDrop, Dl.rAsg, Dl.rName, Dl.rPar, Dl.rPar3, Dl.rAndV, Dl.rOrV, Dl.rNotV, Dl.dIsi, Dl.dDivmod, Dl.mput, Dl.rUn, Dl.rGset, Dl.rFrz, Dl.rAnd, Dl.rOr, Dl.rNot, Dl.rTest, Dl.rTru, Dl.rIf, Dl.rOp, Dl.rOpL, Dl.rCB, Dl.rCBL, Dl.rCons, Dl.rNil, Dl.rVar, Dl.rC, Dl.rStr, Dl.d1, Dl.fTyp, Dl.fLenS, Dl.fLenQ, Dl.fAll, Dl.fSum, Dl.fRepr, Dl.fTupOf, Dl.dTy, Dl.nb, Dl.dInT, Dl.dIn, Dl.dN, Dl.dEq, Dl.dEqD, Dl.dI0, Dl.dIC, Dl.dCat, Dl.dCatL, Dl.dCatS, Dl.dCatT, Dl.dIxL, Dl.dIxT, Dl.dIxS, Dl.rChain, Dl.rChain3, Dl.rTup, Dl.rLst, Dl.rFroz, Dl.rKeep, Dl.rFld, Dl.rBM, Dl.dAppend, Dl.dReverse, Dl.dClear, Dl.dExtend, Dl.rCK, Dl.fMinD, Dl.rCall, Dl.rCall0, Dl.rMeth, Dl.rMeth0, Dl.rMethN0, Dl.rMake, Dl.rMake0, Dl.rSetF, Dl.rGtup, Dl.rGcons, Dl.rGnil, Dl.rIlst, Dl.rItup, Dl.rIenum, Dl.rIenumT, Dl.rIzip, Dl.rIzip3, Dl.rSlcL, Dl.rSlcT, Dl.rSlcS, Dl.rNoPart, Dl.rPart, Dl.dSS, Dl.dII, Dl.dListOf, Dl.dSortI, Dl.rtD, Dl.rtL, List.map_cons, List.map_nil, List.length_cons, List.length_nil, List.cons_append, List.nil_append, List.append_nil, List.replicate, Nat.reduceSub, Nat.reduceAdd, Nat.sub_self, Nat.sub_zero, List.getElem?_cons_zero, List.getElem?_cons_succ, List.set_cons_zero, List.set_cons_succ, List.take_succ_cons, List.take_zero, List.take_nil, Dl.view, Dl.T.tyn, Dl.T.isN, Dl.T.sc, Dl.T.flat, Dl.flats])
open Dl Rm
abbrev W5 := Nat × Nat × Int × Int × Int
def rowT (x : W5) : Dl.T := .tup [.int x.1, .int x.2.1, .int x.2.2.1, .int x.2.2.2.1, .int x.2.2.2.2]
def wrow (L : Int) (l : List Cal) (k j : Nat) : W5 := (k, j, k * L + (cl l j).1, bAt L l k j, bAt L l k j + (cl l j).2.2)
def wrows (L : Int) (l : List Cal) (k : Nat) : List W5 := (List.range l.length).map (wrow L l k)
/-- all calls of so many rounds -/
def wlk (L : Int) (l : List Cal) : Nat → List W5
  | 0 => []
  | k + 1 => wlk L l k ++ wrows L l k
theorem wrows_len (L : Int) (l : List Cal) (k : Nat) : (wrows L l k).length = l.length := by
  unfold wrows
  rw [List.length_map, List.length_range]
theorem wrows_at {L : Int} {l : List Cal} {k i : Nat} (h : i < l.length) : (wrows L l k)[i]? = some (wrow L l k i) := by
  unfold wrows
  rw [List.getElem?_map, List.getElem?_range h]
  rfl
theorem wlk_len (L : Int) (l : List Cal) : ∀ k, (wlk L l k).length = k * l.length
  | 0 => by simp [wlk]
  | k + 1 => by
    show (wlk L l k ++ wrows L l k).length = _
    rw [List.length_append, wlk_len L l k, wrows_len, Nat.succ_mul]
theorem wlk_mem {L : Int} {l : List Cal} {x : W5} : ∀ {n : Nat}, x ∈ wlk L l n → ∃ k j, k < n ∧ j < l.length ∧ x = wrow L l k j
  | n + 1, h => by
    rcases List.mem_append.mp (show x ∈ wlk L l n ++ wrows L l n from h) with h | h
    · obtain ⟨k, j, a, b, c⟩ := wlk_mem h
      exact ⟨k, j, by omega, b, c⟩
    · obtain ⟨j, hj, rfl⟩ := List.mem_map.mp h
      exact ⟨n, j, by omega, List.mem_range.mp hj, rfl⟩
theorem OkC.bgsB {L : Int} {l : List Cal} (ok : OkC L l) : (∀ x ∈ bgs L l 0, 0 ≤ x ∧ x ≤ 13000) ∧ ∀ x ∈ bgs L l 1, 0 ≤ x ∧ x ≤ 25000 := by
  have t := ok.tot
  have a := beg_bd (L := L) (k := 0) (l := l) (f := 0) (b := 1000) (fun c hc => by
    have := ok.all c hc
    have := ok.l2
    omega) (by omega)
  have b := beg_bd (L := L) (k := 1) (l := l) (f := fre L l 0) (b := 13000) (fun c hc => by
    have := ok.all c hc
    have := ok.l2
    omega) (by
      have := a.2.2
      show fin L 0 0 l ≤ 13000
      omega)
  refine ⟨fun x hx => ?_, fun x hx => ?_⟩
  · have := a.1 x hx
    omega
  · have := b.1 x hx
    have f0 : (0 : Int) ≤ fre L l 0 := a.2.1
    omega
theorem OkC.bAtB {L : Int} {l : List Cal} (ok : OkC L l) {k j : Nat} (hj : j < l.length) (hk : k ≤ 1000000000000000000) : 0 ≤ bAt L l k j ∧ bAt L l k j ≤ 12000000000000000025000 := by
  have st := ok.stp
  cases k with
  | zero =>
    have := ok.bgsB.1 _ (List.mem_of_getElem? (bAt_some hj))
    omega
  | succ k =>
    rw [bAt_on (by have := ok.l1; omega) ok.pos hj]
    have := ok.bgsB.2 _ (List.mem_of_getElem? (bAt_some hj))
    have m0 : 0 ≤ (k : Int) * Rm.stp L l := Int.mul_nonneg (by omega) (by omega)
    have m1 : (k : Int) * Rm.stp L l ≤ 1000000000000000000 * 12000 := Int.mul_le_mul (by omega) (by omega) (by omega) (by omega)
    omega
theorem OkC.okr {L : Int} {l : List Cal} (ok : OkC L l) : Okr L l := ⟨ok.l1, fun j hj => by
  obtain ⟨a, b, _, c, _⟩ := ok.all _ (List.mem_of_getElem? (cl_at hj))
  exact ⟨a, b, c⟩, fun i hi => ok.up i _ _ (cl_at (by omega)) (cl_at hi)⟩
def dWalk : DSpec := fun ts μ Φ _ => ∃ (L : Int) (l : List Cal) (many : Nat), ts = [plnT L l, .int many] ∧ μ = [] ∧ OkC L l ∧ many ≤ 1000 ∧ Φ (.lst ((wlk L l many).map rowT)) []
section
variable {P : Program} {w : World} {K : PySem.W.Frag} {mg : PySem.Str → Option Value} {base : Heap}
end
end K

set_option maxRecDepth 100000
set_option maxHeartbeats 4000000
set_option synthInstance.maxSize 100000
set_option synthInstance.maxHeartbeats 4000000
namespace K
open PySem PySem.Spec PyProof.Rows L2 Gd
local macro_rules | `(tactic| walk_at "mulok") => `(tactic| first | exact Or.inr ⟨by decide, by decide⟩ | exact Or.inl ⟨by decide, by decide⟩ | exact Or.inr ⟨by omega, by omega⟩ | exact Or.inl ⟨by omega, by omega⟩)
local macro_rules | `(tactic| walk_at "st") => `(tactic| first
  | refine ⟨_, rfl, ?_⟩
  | refine ⟨_, _, rfl, rfl, (by walk_at "mulok"), ?_⟩
  | refine ⟨_, _, rfl, rfl, (by show (0 : Int) < _; decide), ?_⟩
  | refine ⟨_, _, rfl, rfl, ⟨by decide, by decide⟩, ?_⟩
  | refine ⟨_, _, rfl, rfl, ?_⟩)
local macro_rules | `(tactic| walk_at "st0") => `(tactic| simp only [List.map_cons, List.map_nil, List.append_nil, List.cons_append, List.nil_append, List.length_cons, List.length_nil, Nat.reduceSub, Nat.reduceAdd, Nat.sub_self, List.replicate])
local macro_rules | `(tactic| walk_at "rd") => `(tactic| dsimp only [Dl.rRet, Dl.rRetN, Dl.rIfS, Dl.rSeq, Dl.rNext, Dl.rDrop, Dl.rAsg, Dl.rName, Dl.rPar, Dl.rPar3, Dl.rAndV, Dl.rOrV, Dl.rNotV, Dl.dIsi, Dl.dDivmod, Dl.mput, Dl.rUn, Dl.rGset, Dl.rFrz, Dl.rAnd, Dl.rOr, Dl.rNot, Dl.rTest, Dl.rTru, Dl.rIf, Dl.rOp, Dl.rOpL, Dl.rCB, Dl.rCBL, Dl.rCons, Dl.rNil, Dl.rVar, Dl.rC, Dl.rStr, Dl.d1, Dl.fTyp, Dl.fLenS, Dl.fLenQ, Dl.fAll, Dl.fSum, Dl.fRepr, Dl.fTupOf, Dl.dTy, Dl.nb, Dl.dInT, Dl.dIn, Dl.dN, Dl.dEq, Dl.dEqD, Dl.dI0, Dl.dIC, Dl.dCat, Dl.dCatL, Dl.dCatS, Dl.dCatT, Dl.dIxL, Dl.dIxT, Dl.dIxS, Dl.rChain, Dl.rChain3, Dl.rTup, Dl.rLst, Dl.rFroz, Dl.rKeep, Dl.rFld, Dl.rBM, Dl.dAppend, Dl.dReverse, Dl.dClear, Dl.dExtend, Dl.rCK, Dl.fMinD, Dl.rCall, Dl.rCall0, Dl.rMeth, Dl.rMeth0, Dl.rMethN0, Dl.rMake, Dl.rMake0, Dl.rSetF, Dl.rGtup, Dl.rGcons, Dl.rGnil, Dl.rIlst, Dl.rItup, Dl.rIenum, Dl.rIenumT, Dl.rIzip, Dl.rIzip3, Dl.rSlcL, Dl.rSlcT, Dl.rSlcS, Dl.rNoPart, Dl.rPart, Dl.dSS, Dl.dII, Dl.dListOf, Dl.dSortI, Dl.rtD, Dl.rtL, List.map_cons, List.map_nil, List.length_cons, List.length_nil, List.cons_append, List.nil_append, List.append_nil, List.replicate, Nat.reduceSub, Nat.reduceAdd, Nat.sub_self, Nat.sub_zero, List.getElem?_cons_zero, List.getElem?_cons_succ, List.set_cons_zero, List.set_cons_succ, List.take_succ_cons, List.take_zero, List.take_nil, Dl.view, Dl.T.tyn, Dl.T.isN, Dl.T.sc, Dl.T.flat, Dl.flats])
local macro_rules | `(tactic| walk_at "rs") => `(tactic| dsimp only [Dl.rRet, Dl.rRetN, Dl.rIfS, Dl.rNext, Dl.rDrop, Dl.rAsg, Dl.rName, Dl.rPar, Dl.rPar3, Dl.rAndV, Dl.rOrV, Dl.rNotV, Dl.dIsi, Dl.dDivmod, Dl.mput, Dl.rUn, Dl.rGset, Dl.rFrz, Dl.rAnd, Dl.rOr, Dl.rNot, Dl.rTest, Dl.rTru, Dl.rIf, Dl.rOp, Dl.rOpL, Dl.rCB, Dl.rCBL, Dl.rCons, Dl.rNil, Dl.rVar, Dl.rC, Dl.rStr, Dl.d1, Dl.fTyp, Dl.fLenS, Dl.fLenQ, Dl.fAll, Dl.fSum, Dl.fRepr, Dl.fTupOf, Dl.dTy, Dl.nb, Dl.dInT, Dl.dIn, Dl.dN, Dl.dEq, Dl.dEqD, Dl.dI0, Dl.dIC, Dl.dCat, Dl.dCatL, Dl.dCatS, Dl.dCatT, Dl.dIxL, Dl.dIxT, Dl.dIxS, Dl.rChain, Dl.rChain3, Dl.rTup, Dl.rLst, Dl.rFroz, Dl.rKeep, Dl.rFld, Dl.rBM, Dl.dAppend, Dl.dReverse, Dl.dClear, Dl.dExtend, Dl.rCK, Dl.fMinD, Dl.rCall, Dl.rCall0, Dl.rMeth, Dl.rMeth0, Dl.rMethN0, Dl.rMake, Dl.rMake0, Dl.rSetF, Dl.rGtup, Dl.rGcons, Dl.rGnil, Dl.rIlst, Dl.rItup, Dl.rIenum, Dl.rIenumT, Dl.rIzip, Dl.rIzip3, Dl.rSlcL, Dl.rSlcT, Dl.rSlcS, Dl.rNoPart, Dl.rPart, Dl.dSS, Dl.dII, Dl.dListOf, Dl.dSortI, Dl.rtD, Dl.rtL, List.map_cons, List.map_nil, List.length_cons, List.length_nil, List.cons_append, List.nil_append, List.append_nil, List.replicate, Nat.reduceSub, Nat.reduceAdd, Nat.sub_self, Nat.sub_zero, List.getElem?_cons_zero, List.getElem?_cons_succ, List.set_cons_zero, List.set_cons_succ, List.take_succ_cons, List.take_zero, List.take_nil, Dl.view, Dl.T.tyn, Dl.T.isN, Dl.T.sc, Dl.T.flat, Dl.flats])
open Dl Rm
def dHour : DSpec := fun ts μ Φ _ => ∃ h : Int, ts = [.int h] ∧ μ = [] ∧ 0 ≤ h ∧ h ≤ 1000000000000000000 ∧ Φ .non []
def dBgn (C : Addr) : DSpec := fun ts μ Φ _ => ∃ (L : Int) (l : List Cal) (j : Nat) (h : Int), ts = [rndT C L l, .int j, .int h] ∧ μ = [] ∧ OkC L l ∧ j < l.length ∧ Φ (.int (bgn L l j h)) []
def dEnded (C : Addr) : DSpec := fun ts μ Φ _ => ∃ (L : Int) (l : List Cal) (j : Nat) (h : Int), ts = [rndT C L l, .int j, .int h] ∧ μ = [] ∧ OkC L l ∧ j < l.length ∧ Φ (.int (bgn L l j (h - (cl l j).2.2))) []
def onT (L : Int) (l : List Cal) (h : Int) : Dl.T := match atF L l h with
  | some (k, j) => .tup [.int k, .int j, .str (cl l j).2.1, .int (bAt L l k j + (cl l j).2.2 - h)]
  | none => .non
def dAt (C : Addr) : DSpec := fun ts μ Φ _ => ∃ (L : Int) (l : List Cal) (h : Int), ts = [rndT C L l, .int h] ∧ μ = [] ∧ OkC L l ∧ 0 ≤ h ∧ h ≤ 1000000000000000000 ∧ Φ (onT L l h) []
section
variable {P : Program} {w : World} {K : PySem.W.Frag} {mg : PySem.Str → Option Value} {base : Heap}
theorem ok_refuse_no_hour (T : Txt mg K w.params) : FnOk P w K mg base CX0 2 T.f_refuse_no_hour T.fd_refuse_no_hour ["hour"] (liftSp K 1 dHour) := by
  refine FunD.ok0 T.F_refuse_no_hour sc_refuse_no_hour lift_len (fun cdv A outer s H vs Q E hr h => ⟨_, pss_one (ps_if (pt_not (pt_val (pe_callX (ok_is_whole T) (hr.mono (by decide)) (by rfl) T.g_is_whole T.F_is_whole.kp (b_is_whole_3 T) pass0 (pa_cons (pv 0) (pa_cons (pe_int) (pa_cons (pe_glob (v := .int 1000000000000000000) (by rfl) T.c_FARTHEST (by first | exact rfl | exact ⟨_, rfl⟩)) pa_nil)))))) (pss_one (ps_never)) (pss_nil)), body_sim h ?_⟩)
  rintro ts μ Φ xw hl ⟨t, rfl, rfl, h0, h1, q⟩
  walk_at "st0"
  walk_at "rd"
  refine ⟨rfl, callF rfl ⟨_, _, _, rfl, rfl, knd_int _, ?_⟩⟩
  exact iteF' (by simp [whT]; omega) q
theorem ok_Round__begun (T : Txt mg K w.params) : FnOk P w K mg base CX0 2 T.f_Round__begun T.fd_Round__begun ["self", "call", "hour"] (liftSp K 3 (dBgn T.C_Round)) := by
  refine FunD.ok0 T.F_Round__begun sc_Round__begun lift_len (fun cdv A outer s H vs Q E hr h => ⟨_, pss_cons (ps_if (pt_cmpR op_lt (pv 2) (pe_methX (pv 0) T.cl_Round T.m_Round__begin (ok_Round__begin T) (hr.mono (by decide)) (b_Round__begin_3 T) pass0 (pa_cons (pe_int) (pa_cons (pv 1) pa_nil))) (by first | rfl | exact nomark _)) (pss_one (ps_ret (pe_int))) (pss_nil))
 (pss_cons (ps_if (pt_cmpR op_lt (pv 2) (pe_methX (pv 0) T.cl_Round T.m_Round__begin (ok_Round__begin T) (hr.mono (by decide)) (b_Round__begin_3 T) pass0 (pa_cons (pe_int) (pa_cons (pv 1) pa_nil))) (by first | rfl | exact nomark _)) (pss_one (ps_ret (pe_int))) (pss_nil))
 (pss_one (ps_ret (pe_op op_add (pe_int) (pe_op op_fdivN (pe_op op_sub (pv 2) (pe_methX (pv 0) T.cl_Round T.m_Round__begin (ok_Round__begin T) (hr.mono (by decide)) (b_Round__begin_3 T) pass0 (pa_cons (pe_int) (pa_cons (pv 1) pa_nil)))) (fldK (K := K) rfl (pv 0) rfl)))))), body_sim h ?_⟩)
  rintro ts μ Φ xw hl ⟨L, l, j, h, rfl, rfl, ok, jl, q⟩
  walk_at "st0"
  unfold rndT
  walk_at "rd"
  have st := ok.okr.stp1
  have st2 := ok.stp
  have go : ∀ {r : Int}, r = bgn L l j h → Φ (.int r) [] := fun e => e ▸ q
  refine ⟨⟨_, rfl, rfl⟩, rfl, callF rfl ⟨L, l, 0, j, rfl, rfl, ok, jl, ?_⟩⟩
  by_cases a : h < bAt L l 0 j
  · exact iteT' (decide_eq_true a) (go (by unfold bgn; rw [if_pos a]))
  refine iteF' (decide_eq_false a) ⟨⟨_, rfl, rfl⟩, rfl, callF rfl ⟨L, l, 1, j, rfl, rfl, ok, jl, ?_⟩⟩
  by_cases b : h < bAt L l 1 j
  · exact iteT' (decide_eq_true b) (go (by unfold bgn; rw [if_neg a, if_pos b]))
  refine iteF' (decide_eq_false b) ⟨⟨_, rfl, rfl⟩, rfl, callF rfl ⟨L, l, 1, j, rfl, rfl, ok, jl, ?_⟩⟩
  refine ⟨⟨by omega, by omega⟩, go ?_⟩
  unfold bgn
  rw [if_neg a, if_neg b, Int.fdiv_eq_ediv_of_nonneg _ (by omega)]
theorem ok_Round__ended (T : Txt mg K w.params) : FnOk P w K mg base CX0 3 T.f_Round__ended T.fd_Round__ended ["self", "call", "hour"] (liftSp K 3 (dEnded T.C_Round)) := by
  refine FunD.ok0 T.F_Round__ended sc_Round__ended lift_len (fun cdv A outer s H vs Q E hr h => ⟨_, pss_one (ps_ret (pe_methX (pv 0) T.cl_Round T.m_Round__begun (ok_Round__begun T) (hr.mono (by decide)) (b_Round__begun_3 T) pass0 (pa_cons (pv 1) (pa_cons (pe_op op_sub (pv 2) (pe_ix (ixtK (K := K) rfl) (pe_ix (ixtK (K := K) rfl) (fldK (K := K) rfl (pv 0) rfl) (pv 1) (fun _ _ => rfl)) (pe_int) (fun _ _ => rfl))) pa_nil)))), body_sim h ?_⟩)
  rintro ts μ Φ xw hl ⟨L, l, j, h, rfl, rfl, ok, jl, q⟩
  walk_at "st0"
  unfold rndT
  walk_at "rd"
  simp only [lk_calls]
  exact ⟨⟨_, rfl, rfl⟩, _, _, rfl, atI_map (cl_at jl), _, _, rfl, rfl, trivial, callF rfl ⟨L, l, j, _, rfl, rfl, ok, jl, q⟩⟩
theorem ok_Round_at (T : Txt mg K w.params) : FnOk P w K mg base CX0 4 T.f_Round_at T.fd_Round_at ["self", "hour"] (liftSp K 2 (dAt T.C_Round)) := by
  refine FunD.ok0 T.F_Round_at sc_Round_at lift_len (fun cdv A outer s H vs Q E hr h => ⟨_, pss_cons (ps_expr (pe_callX (ok_refuse_no_hour T) (hr.mono (by decide)) (by rfl) T.g_refuse_no_hour T.F_refuse_no_hour.kp (b_refuse_no_hour_1 T) pass0 (pa_cons (pv 1) pa_nil)))
 (pss_cons (ps_for PassesOwn.never rfl (piETK (K := K) rfl (by rfl) T.n_enumerate (pa_cons (fldK (K := K) rfl (pv 0) rfl) pa_nil)) (pgTK (K := K) rfl (n := 2) (by rfl) (pgs_cons (pg_name (i := 2) sc_Round_at.nd rfl (.inl rfl)) (pgs_cons (pgTK (K := K) rfl (n := 3) (by rfl) (pgs_cons (pg_name (i := 3) sc_Round_at.nd rfl (.inl rfl)) (pgs_cons (pg_name (i := 4) sc_Round_at.nd rfl (.inl rfl)) (pgs_cons (pg_name (i := 5) sc_Round_at.nd rfl (.inl rfl)) (pgs_nil))))) (pgs_nil)))) (pss_cons (ps_set (i := 6) sc_Round_at.nd rfl (.inl rfl) (pe_methX (pv 0) T.cl_Round T.m_Round__ended (ok_Round__ended T) (hr.mono (by decide)) (b_Round__ended_3 T) pass0 (pa_cons (pv 2) (pa_cons (pv 1) pa_nil))))
 (pss_one (ps_if (pt_cmpR op_gt (pe_methX (pv 0) T.cl_Round T.m_Round__begun (ok_Round__begun T) (hr.mono (by decide)) (b_Round__begun_3 T) pass0 (pa_cons (pv 2) (pa_cons (pv 1) pa_nil))) (pv 6) (by first | rfl | exact nomark _)) (pss_one (ps_ret (pe_tup (pa_cons (pv 6) (pa_cons (pv 2) (pa_cons (pv 4) (pa_cons (pe_op op_sub (pe_op op_add (pe_methX (pv 0) T.cl_Round T.m_Round__begin (ok_Round__begin T) (hr.mono (by decide)) (b_Round__begin_3 T) pass0 (pa_cons (pv 6) (pa_cons (pv 2) pa_nil))) (pv 5)) (pv 1)) pa_nil))))))) (pss_nil)))))
 (pss_one (ps_ret (pe_non)))), body_sim h ?_⟩)
  rintro ts μ Φ xw hl ⟨L, l, h, rfl, rfl, ok, h0, h1, q⟩
  walk_at "st0"
  unfold rndT
  walk_at "rd"
  refine ⟨rfl, callF rfl ⟨h, rfl, rfl, h0, h1, ?_⟩⟩
  refine ⟨fun i ρ μ => ∃ (a b c d e : Option Dl.T), ρ = [some (.obj T.C_Round (rfs L l)), some (.int h), a, b, c, d, e] ∧ μ = [] ∧ ∀ j, j < i → ¬ bgn L l j (h - (cl l j).2.2) < bgn L l j h, ⟨_, _, _, _, _, rfl, rfl, fun j hj => absurd hj (Nat.not_lt_zero j)⟩, ?_, ?_⟩
  · rintro i t ρ μ et ⟨a, b, c, d, e, rfl, rfl, no⟩
    obtain ⟨x, ex, rfl⟩ := enum_at et
    rw [List.getElem?_map, Option.map_eq_some_iff] at ex
    obtain ⟨cal, ec, rfl⟩ := ex
    have il := (List.getElem?_eq_some_iff.mp ec).1
    have ec2 := cl_eq ec
    unfold callT
    walk_at "rd"
    refine ⟨rfl, rfl, ⟨_, rfl, rfl⟩, rfl, callF rfl ⟨L, l, i, h, rfl, rfl, ok, il, ?_⟩⟩
    refine ⟨⟨_, rfl, rfl⟩, rfl, callF rfl ⟨L, l, i, h, rfl, rfl, ok, il, ?_⟩⟩
    by_cases lt : bgn L l i (h - (cl l i).2.2) < bgn L l i h
    · refine iteT' (decide_eq_true lt) ?_
      obtain ⟨on, ek⟩ := bgn_onp ok.okr il lt
      have at_ := atF_is ok.okr il on
      have co := ok.okr.come (k := (bgn L l i (h - (cl l i).2.2)).toNat) il
      have c0 := (ok.okr.all i il).1
      have kL : ((bgn L l i (h - (cl l i).2.2)).toNat : Int) * 1 ≤ ((bgn L l i (h - (cl l i).2.2)).toNat : Int) * L := Int.mul_le_mul_of_nonneg_left ok.l1 (by omega)
      have on1 := on.1
      refine ⟨⟨_, rfl, rfl⟩, rfl, callF rfl ⟨L, l, (bgn L l i (h - (cl l i).2.2)).toNat, i, by rw [← ek]; rfl, rfl, ok, il, ?_⟩⟩
      refine ⟨rfl, by decide, ?_⟩
      unfold onT at q
      rw [at_] at q
      rw [← ec2]
      dsimp only at q
      rw [← ek] at q
      exact q
    · refine iteF' (decide_eq_false lt) ⟨_, _, _, _, _, rfl, rfl, fun j hj => ?_⟩
      by_cases z : j = i
      · rw [z]; exact lt
      · exact no j (by omega)
  · rintro ρ μ ⟨a, b, c, d, e, rfl, rfl, no⟩
    rw [enum_len, List.length_map] at no
    have nn : atF L l h = none := by
      unfold atF
      rw [Option.map_eq_none_iff, List.find?_eq_none]
      intro j hj
      simpa using no j (List.mem_range.mp hj)
    unfold onT at q
    rw [nn] at q
    exact q
end
end K

set_option maxRecDepth 100000
set_option maxHeartbeats 4000000
set_option synthInstance.maxSize 100000
set_option synthInstance.maxHeartbeats 4000000
namespace K
open PySem PySem.Spec PyProof.Rows L2 Gd
local macro_rules | `(tactic| walk_at "mulok") => `(tactic| first | exact Or.inr ⟨by decide, by decide⟩ | exact Or.inl ⟨by decide, by decide⟩ | exact Or.inr ⟨by omega, by omega⟩ | exact Or.inl ⟨by omega, by omega⟩)
local macro_rules | `(tactic| walk_at "st") => `(tactic| first
  | refine ⟨_, rfl, ?_⟩
  | refine ⟨_, _, rfl, rfl, (by walk_at "mulok"), ?_⟩
  | refine ⟨_, _, rfl, rfl, (by show (0 : Int) < _; decide), ?_⟩
  | refine ⟨_, _, rfl, rfl, ⟨by decide, by decide⟩, ?_⟩
  | refine ⟨_, _, rfl, rfl, ?_⟩)
local macro_rules | `(tactic| walk_at "st0") => `(tactic| simp only [List.map_cons, List.map_nil, List.append_nil, List.cons_append, List.nil_append, List.length_cons, List.length_nil, Nat.reduceSub, Nat.reduceAdd, Nat.sub_self, List.replicate])
local macro_rules | `(tactic| walk_at "rd") => `(tactic| dsimp only [Dl.rRet, Dl.rRetN, Dl.rIfS, Dl.rSeq, Dl.rNext, Dl.rDrop, Dl.rAsg, Dl.rName, Dl.rPar, Dl.rPar3, Dl.rAndV, Dl.rOrV, Dl.rNotV, Dl.dIsi, Dl.dDivmod, Dl.mput, Dl.rUn, Dl.rGset, Dl.rFrz, Dl.rAnd, Dl.rOr, Dl.rNot, Dl.rTest, Dl.rTru, Dl.rIf, Dl.rOp, Dl.rOpL, Dl.rCB, Dl.rCBL, Dl.rCons, Dl.rNil, Dl.rVar, Dl.rC, Dl.rStr, Dl.d1, Dl.fTyp, Dl.fLenS, Dl.fLenQ, Dl.fAll, Dl.fSum, Dl.fRepr, Dl.fTupOf, Dl.dTy, Dl.nb, Dl.dInT, Dl.dIn, Dl.dN, Dl.dEq, Dl.dEqD, Dl.dI0, Dl.dIC, Dl.dCat, Dl.dCatL, Dl.dCatS, Dl.dCatT, Dl.dIxL, Dl.dIxT, Dl.dIxS, Dl.rChain, Dl.rChain3, Dl.rTup, Dl.rLst, Dl.rFroz, Dl.rKeep, Dl.rFld, Dl.rBM, Dl.dAppend, Dl.dReverse, Dl.dClear, Dl.dExtend, Dl.rCK, Dl.fMinD, Dl.rCall, Dl.rCall0, Dl.rMeth, Dl.rMeth0, Dl.rMethN0, Dl.rMake, Dl.rMake0, Dl.rSetF, Dl.rGtup, Dl.rGcons, Dl.rGnil, Dl.rIlst, Dl.rItup, Dl.rIenum, Dl.rIenumT, Dl.rIzip, Dl.rIzip3, Dl.rSlcL, Dl.rSlcT, Dl.rSlcS, Dl.rNoPart, Dl.rPart, Dl.dSS, Dl.dII, Dl.dListOf, Dl.dSortI, Dl.rtD, Dl.rtL, List.map_cons, List.map_nil, List.length_cons, List.length_nil, List.cons_append, List.nil_append, List.append_nil, List.replicate, Nat.reduceSub, Nat.reduceAdd, Nat.sub_self, Nat.sub_zero, List.getElem?_cons_zero, List.getElem?_cons_succ, List.set_cons_zero, List.set_cons_succ, List.take_succ_cons, List.take_zero, List.take_nil, Dl.view, Dl.T.tyn, Dl.T.isN, Dl.T.sc, Dl.T.flat, Dl.flats])
local macro_rules | `(tactic| walk_at "rs") => `(tactic| dsimp only [Dl.rRet, Dl.rRetN, Dl.rIfS, Dl.rNext, Dl.rDrop, Dl.rAsg, Dl.rName, Dl.rPar, Dl.rPar3, Dl.rAndV, Dl.rOrV, Dl.rNotV, Dl.dIsi, Dl.dDivmod, Dl.mput, Dl.rUn, Dl.rGset, Dl.rFrz, Dl.rAnd, Dl.rOr, Dl.rNot, Dl.rTest, Dl.rTru, Dl.rIf, Dl.rOp, Dl.rOpL, Dl.rCB, Dl.rCBL, Dl.rCons, Dl.rNil, Dl.rVar, Dl.rC, Dl.rStr, Dl.d1, Dl.fTyp, Dl.fLenS, Dl.fLenQ, Dl.fAll, Dl.fSum, Dl.fRepr, Dl.fTupOf, Dl.dTy, Dl.nb, Dl.dInT, Dl.dIn, Dl.dN, Dl.dEq, Dl.dEqD, Dl.dI0, Dl.dIC, Dl.dCat, Dl.dCatL, Dl.dCatS, Dl.dCatT, Dl.dIxL, Dl.dIxT, Dl.dIxS, Dl.rChain, Dl.rChain3, Dl.rTup, Dl.rLst, Dl.rFroz, Dl.rKeep, Dl.rFld, Dl.rBM, Dl.dAppend, Dl.dReverse, Dl.dClear, Dl.dExtend, Dl.rCK, Dl.fMinD, Dl.rCall, Dl.rCall0, Dl.rMeth, Dl.rMeth0, Dl.rMethN0, Dl.rMake, Dl.rMake0, Dl.rSetF, Dl.rGtup, Dl.rGcons, Dl.rGnil, Dl.rIlst, Dl.rItup, Dl.rIenum, Dl.rIenumT, Dl.rIzip, Dl.rIzip3, Dl.rSlcL, Dl.rSlcT, Dl.rSlcS, Dl.rNoPart, Dl.rPart, Dl.dSS, Dl.dII, Dl.dListOf, Dl.dSortI, Dl.rtD, Dl.rtL, List.map_cons, List.map_nil, List.length_cons, List.length_nil, List.cons_append, List.nil_append, List.append_nil, List.replicate, Nat.reduceSub, Nat.reduceAdd, Nat.sub_self, Nat.sub_zero, List.getElem?_cons_zero, List.getElem?_cons_succ, List.set_cons_zero, List.set_cons_succ, List.take_succ_cons, List.take_zero, List.take_nil, Dl.view, Dl.T.tyn, Dl.T.isN, Dl.T.sc, Dl.T.flat, Dl.flats])
open Dl Rm
theorem sum_range (f : Nat → Int) : ∀ n : Nat, ((List.range n).map f).sum = sm f n
  | 0 => rfl
  | n + 1 => by
    rw [List.range_succ, List.map_append, List.sum_append, sum_range f n]
    show sm f n + (f n + 0) = sm f n + f n
    rw [Int.add_zero]
theorem range_snoc {α : Type} (f : Nat → α) (n : Nat) : (List.range (n + 1)).map f = (List.range n).map f ++ [f n] := by
  rw [List.range_succ, List.map_append]
  rfl
theorem OkC.cmeB {L : Int} {l : List Cal} (ok : OkC L l) {j : Nat} (hj : j < l.length) {h : Int} (h0 : 0 ≤ h) (h1 : h ≤ 1000000000000000000) : 0 ≤ cme L l j h ∧ cme L l j h ≤ 1000000000000000001 := by
  obtain ⟨n, e, hn⟩ := cme_is ok.okr hj h0
  have c0 := (ok.okr.all j hj).1
  have l1 := ok.l1
  by_cases z : n = 0
  · omega
  · have := (hn (n - 1)).mpr (by omega)
    have : ((n - 1 : Nat) : Int) * 1 ≤ ((n - 1 : Nat) : Int) * L := Int.mul_le_mul_of_nonneg_left l1 (by omega)
    omega
theorem OkC.ndeB {L : Int} {l : List Cal} (ok : OkC L l) {j : Nat} (hj : j < l.length) {h : Int} (h0 : 0 ≤ h) (h1 : h ≤ 1000000000000000000) : ∃ n : Nat, nde L l j h = n ∧ n ≤ 1000000000000000001 := by
  obtain ⟨n, e, a, b⟩ := bgn_is ok.okr hj (h - (cl l j).2.2)
  have l1 := ok.l1
  have w := (ok.okr.all j hj).2.2
  have c0 := (ok.okr.all j hj).1
  refine ⟨n, e, ?_⟩
  by_cases z : n = 0
  · omega
  · have := a (n - 1) (by omega)
    have := ok.okr.come (k := n - 1) hj
    have : ((n - 1 : Nat) : Int) * 1 ≤ ((n - 1 : Nat) : Int) * L := Int.mul_le_mul_of_nonneg_left l1 (by omega)
    omega
def dCame (C : Addr) : DSpec := fun ts μ Φ _ => ∃ (L : Int) (l : List Cal) (j : Nat) (h : Int), ts = [rndT C L l, .int j, .int h] ∧ μ = [] ∧ OkC L l ∧ j < l.length ∧ Φ (.int (cme L l j h)) []
def dHd (C : Addr) : DSpec := fun ts μ Φ _ => ∃ (L : Int) (l : List Cal) (j : Nat) (h : Int), ts = [rndT C L l, .int j, .int h] ∧ μ = [] ∧ OkC L l ∧ j < l.length ∧ 0 ≤ h ∧ Φ (.int (dn1 L l j h)) []
def dHr (f : Int → List Cal → Int → Int) (C : Addr) : DSpec := fun ts μ Φ _ => ∃ (L : Int) (l : List Cal) (h : Int), ts = [rndT C L l, .int h] ∧ μ = [] ∧ OkC L l ∧ 0 ≤ h ∧ Φ (.int (f L l h)) []
def dHrP (f : Int → List Cal → Int → Int) (C : Addr) : DSpec := fun ts μ Φ _ => ∃ (L : Int) (l : List Cal) (h : Int), ts = [rndT C L l, .int h] ∧ μ = [] ∧ OkC L l ∧ 0 ≤ h ∧ h ≤ 1000000000000000000 ∧ Φ (.int (f L l h)) []
section
variable {P : Program} {w : World} {K : PySem.W.Frag} {mg : PySem.Str → Option Value} {base : Heap}
theorem ok_Round__came (T : Txt mg K w.params) : FnOk P w K mg base CX0 1 T.f_Round__came T.fd_Round__came ["self", "call", "hour"] (liftSp K 3 (dCame T.C_Round)) := by
  refine FunD.ok0 T.F_Round__came sc_Round__came lift_len (fun cdv A outer s H vs Q E hr h => ⟨_, pss_one (ps_ret (pe_op op_add (pe_op op_fdivN (pe_op op_sub (pv 2) (pe_ix (ixtK (K := K) rfl) (pe_ix (ixtK (K := K) rfl) (fldK (K := K) rfl (pv 0) rfl) (pv 1) (fun _ _ => rfl)) (pe_int) (fun _ _ => rfl))) (fldK (K := K) rfl (pv 0) rfl)) (pe_int))), body_sim h ?_⟩)
  rintro ts μ Φ xw hl ⟨L, l, j, h, rfl, rfl, ok, jl, q⟩
  walk_at "st0"
  unfold rndT
  walk_at "rd"
  have l1 := ok.l1
  have l2 := ok.l2
  simp only [lk_calls, lk_len]
  refine ⟨_, _, rfl, atI_map (cl_at jl), _, _, rfl, rfl, ⟨by omega, by omega⟩, ?_⟩
  rw [Int.fdiv_eq_ediv_of_nonneg _ (by omega)]
  exact q
theorem ok_Round__hours_done (T : Txt mg K w.params) : FnOk P w K mg base CX0 4 T.f_Round__hours_done T.fd_Round__hours_done ["self", "call", "hour"] (liftSp K 3 (dHd T.C_Round)) := by
  refine FunD.ok0 T.F_Round__hours_done sc_Round__hours_done lift_len (fun cdv A outer s H vs Q E hr h => ⟨_, pss_cons (ps_set (i := 3) sc_Round__hours_done.nd rfl (.inl rfl) (pe_ix (ixtK (K := K) rfl) (pe_ix (ixtK (K := K) rfl) (fldK (K := K) rfl (pv 0) rfl) (pv 1) (fun _ _ => rfl)) (pe_int) (fun _ _ => rfl)))
 (pss_cons (ps_set (i := 4) sc_Round__hours_done.nd rfl (.inl rfl) (pe_methX (pv 0) T.cl_Round T.m_Round__ended (ok_Round__ended T) (hr.mono (by decide)) (b_Round__ended_3 T) pass0 (pa_cons (pv 1) (pa_cons (pv 2) pa_nil))))
 (pss_cons (ps_if (pt_cmpR op_eq (pe_methX (pv 0) T.cl_Round T.m_Round__begun (ok_Round__begun T) (hr.mono (by decide)) (b_Round__begun_3 T) pass0 (pa_cons (pv 1) (pa_cons (pv 2) pa_nil))) (pv 4) (by first | rfl | exact nomark _)) (pss_one (ps_ret (pe_op op_mul (pv 4) (pv 3)))) (pss_nil))
 (pss_one (ps_ret (pe_op op_sub (pe_op op_add (pe_op op_mul (pv 4) (pv 3)) (pv 2)) (pe_methX (pv 0) T.cl_Round T.m_Round__begin (ok_Round__begin T) (hr.mono (by decide)) (b_Round__begin_3 T) pass0 (pa_cons (pv 4) (pa_cons (pv 1) pa_nil)))))))), body_sim h ?_⟩)
  rintro ts μ Φ xw hl ⟨L, l, j, h, rfl, rfl, ok, jl, h0, q⟩
  walk_at "st0"
  unfold rndT
  walk_at "rd"
  simp only [lk_calls]
  obtain ⟨n, en, _⟩ := bgn_is ok.okr jl (h - (cl l j).2.2)
  have cb := ok.all _ (List.mem_of_getElem? (cl_at jl))
  have en2 : nde L l j h = n := en
  refine ⟨_, _, rfl, atI_map (cl_at jl), _, _, rfl, rfl, ⟨_, rfl, rfl⟩, trivial, callF rfl ⟨L, l, j, h, rfl, rfl, ok, jl, ?_⟩⟩
  refine ⟨⟨_, rfl, rfl⟩, trivial, callF rfl ⟨L, l, j, h, rfl, rfl, ok, jl, ?_⟩⟩
  rw [en]
  unfold dn1 at q
  rw [en2] at q
  by_cases a : bgn L l j h = n
  · rw [if_pos a] at q
    exact iteT' (decide_eq_true a) ⟨.inr ⟨by omega, by omega⟩, q⟩
  · rw [if_neg a] at q
    refine iteF' (decide_eq_false a) ⟨.inr ⟨by omega, by omega⟩, ⟨_, rfl, rfl⟩, trivial, callF rfl ⟨L, l, n, j, rfl, rfl, ok, jl, q⟩⟩
theorem ok_Round__all_done (T : Txt mg K w.params) : FnOk P w K mg base CX0 5 T.f_Round__all_done T.fd_Round__all_done ["self", "hour"] (liftSp K 2 (dHr dnA T.C_Round)) := by
  refine FunD.ok0 T.F_Round__all_done sc_Round__all_done lift_len (fun cdv A outer s H vs Q E hr h => ⟨_, pss_one (ps_ret (pe_callB (sumK (K := K) rfl rfl) (by rfl) T.n_sum (by decide +kernel) (pa_cons (pe_lc (own := [("call", 2)]) (g := gName 2) (tt := tYes) (by rfl) sc_Round__all_done.nd (pi_range1 (by rfl) T.n_range (pa_cons (pe_callB (lenK (K := K) rfl) (by rfl) T.n_len (by decide +kernel) (pa_cons (fldK (K := K) rfl (pv 0) rfl) pa_nil)) pa_nil)) (blkOk_by (own := [("call", 2)]) (N := ["self", "hour", "call"]) (sc := defScope s_Round__all_done) (by decide +kernel)) (fun _ _ _ _ _ => pg_name (i := 2) sc_Round__all_done.nd rfl (Or.inl rfl)) (fun _ _ _ _ _ => pts_nil) (fun _ _ _ _ _ => pe_methX (pv 0) T.cl_Round T.m_Round__hours_done (ok_Round__hours_done T) (hr.mono (by decide)) (b_Round__hours_done_3 T) pass0 (pa_cons (pv 2) (pa_cons (pv 1) pa_nil)))) pa_nil))), body_sim h ?_⟩)
  rintro ts μ Φ xw hl ⟨L, l, h, rfl, rfl, ok, h0, q⟩
  have l12 := ok.len
  walk_at "st0"
  unfold rndT
  walk_at "rd"
  refine ⟨by simp <;> omega, by simp <;> omega, by simp, fun i acc μ => acc = (List.range i).map (fun j => Dl.T.int (dn1 L l j h)) ∧ μ = [], ⟨rfl, rfl⟩, ?_, ?_⟩
  · rintro i t acc μ et ⟨rfl, rfl⟩
    obtain ⟨il, rfl⟩ := range_at et
    simp only [wipeR]
    walk_at "rd"
    have il2 : i < l.length := by simpa using il
    refine ⟨⟨_, rfl, rfl⟩, rfl, callF rfl ⟨L, l, i, h, rfl, rfl, ok, il2, h0, ?_⟩⟩
    exact ⟨rfl, by rw [List.length_map, List.length_range]; omega, (range_snoc _ _).symm, rfl⟩
  · rintro acc μ ⟨rfl, rfl⟩
    have e : ((List.range ((List.map callT l).length : Int).toNat).map fun i : Nat => Dl.T.int (i : Int)).length = l.length := by simp
    rw [e]
    refine ⟨_, (List.range l.length).map fun j => dn1 L l j h, rfl, ints_mapf (α := Nat) (fun j => dn1 L l j h) _, ?_⟩
    rw [sum_range]
    exact q
theorem ok_Round__waiting (T : Txt mg K w.params) : FnOk P w K mg base CX0 6 T.f_Round__waiting T.fd_Round__waiting ["self", "hour"] (liftSp K 2 (dHr wtn T.C_Round)) := by
  refine FunD.ok0 T.F_Round__waiting sc_Round__waiting lift_len (fun cdv A outer s H vs Q E hr h => ⟨_, pss_cons (ps_set (i := 2) sc_Round__waiting.nd rfl (.inl rfl) (pe_callB (sumK (K := K) rfl rfl) (by rfl) T.n_sum (by decide +kernel) (pa_cons (pe_lc (own := [("call", 3), ("_", 4), ("hours", 5)]) (g := gTup K 2 (gCons (gName 3) (gCons (gTup K 3 (gCons (gName 4) (gCons (gName 4) (gCons (gName 5) (gNil))))) (gNil)))) (tt := tYes) (by rfl) sc_Round__waiting.nd (piETK (K := K) rfl (by rfl) T.n_enumerate (pa_cons (fldK (K := K) rfl (pv 0) rfl) pa_nil)) (blkOk_by (own := [("call", 3), ("_", 4), ("hours", 5)]) (N := ["self", "hour", "came", "call", "_", "hours"]) (sc := defScope s_Round__waiting) (by decide +kernel)) (fun _ _ _ _ _ => pgTK (K := K) rfl (by rfl) (pgs_cons (pg_name (i := 3) sc_Round__waiting.nd rfl (Or.inl rfl)) (pgs_cons (pgTK (K := K) rfl (by rfl) (pgs_cons (pg_name (i := 4) sc_Round__waiting.nd rfl (Or.inl rfl)) (pgs_cons (pg_name (i := 4) sc_Round__waiting.nd rfl (Or.inl rfl)) (pgs_cons (pg_name (i := 5) sc_Round__waiting.nd rfl (Or.inl rfl)) (pgs_nil))))) (pgs_nil)))) (fun _ _ _ _ _ => pts_nil) (fun _ _ _ _ _ => pe_op op_mul (pe_methX (pv 0) T.cl_Round T.m_Round__came (ok_Round__came T) (hr.mono (by decide)) (b_Round__came_3 T) pass0 (pa_cons (pv 3) (pa_cons (pv 1) pa_nil))) (pv 5))) pa_nil)))
 (pss_one (ps_ret (pe_op op_sub (pv 2) (pe_methX (pv 0) T.cl_Round T.m_Round__all_done (ok_Round__all_done T) (hr.mono (by decide)) (b_Round__all_done_2 T) pass0 (pa_cons (pv 1) pa_nil))))), body_sim h ?_⟩)
  rintro ts μ Φ xw hl ⟨L, l, h, rfl, rfl, ok, h0, q⟩
  have l12 := ok.len
  walk_at "st0"
  unfold rndT
  walk_at "rd"
  refine ⟨by simp, fun i acc μ => acc = (List.range i).map (fun j => Dl.T.int (cme L l j h * (cl l j).2.2)) ∧ μ = [], ⟨rfl, rfl⟩, ?_, ?_⟩
  · rintro i t acc μ et ⟨rfl, rfl⟩
    obtain ⟨x, ex, rfl⟩ := enum_at et
    rw [List.getElem?_map, Option.map_eq_some_iff] at ex
    obtain ⟨cal, ec, rfl⟩ := ex
    have il := (List.getElem?_eq_some_iff.mp ec).1
    have ec2 := cl_eq ec
    simp only [wipeR]
    unfold callT
    walk_at "rd"
    have cb := ok.all _ (List.mem_of_getElem? (cl_at il))
    refine ⟨rfl, rfl, ⟨_, rfl, rfl⟩, rfl, callF rfl ⟨L, l, i, h, rfl, rfl, ok, il, ?_⟩⟩
    rw [← ec2]
    exact ⟨.inr ⟨by omega, by omega⟩, rfl, by rw [List.length_map, List.length_range]; omega, (range_snoc _ _).symm, rfl⟩
  · rintro acc μ ⟨rfl, rfl⟩
    rw [enum_len, List.length_map]
    refine ⟨_, (List.range l.length).map fun j => cme L l j h * (cl l j).2.2, rfl, ints_mapf (α := Nat) (fun j => cme L l j h * (cl l j).2.2) _, ⟨_, rfl, rfl⟩, rfl, callF rfl ⟨L, l, h, rfl, rfl, ok, h0, ?_⟩⟩
    rw [sum_range]
    exact q
theorem ok_Round_waiting (T : Txt mg K w.params) : FnOk P w K mg base CX0 7 T.f_Round_waiting T.fd_Round_waiting ["self", "hour"] (liftSp K 2 (dHrP wtn T.C_Round)) := by
  refine FunD.ok0 T.F_Round_waiting sc_Round_waiting lift_len (fun cdv A outer s H vs Q E hr h => ⟨_, pss_cons (ps_expr (pe_callX (ok_refuse_no_hour T) (hr.mono (by decide)) (by rfl) T.g_refuse_no_hour T.F_refuse_no_hour.kp (b_refuse_no_hour_1 T) pass0 (pa_cons (pv 1) pa_nil)))
 (pss_one (ps_ret (pe_methX (pv 0) T.cl_Round T.m_Round__waiting (ok_Round__waiting T) (hr.mono (by decide)) (b_Round__waiting_2 T) pass0 (pa_cons (pv 1) pa_nil)))), body_sim h ?_⟩)
  rintro ts μ Φ xw hl ⟨L, l, h, rfl, rfl, ok, h0, h1, q⟩
  walk_at "st0"
  unfold rndT
  walk_at "rd"
  refine ⟨rfl, callF rfl ⟨h, rfl, rfl, h0, h1, ?_⟩⟩
  exact ⟨⟨_, rfl, rfl⟩, rfl, callF rfl ⟨L, l, h, rfl, rfl, ok, h0, q⟩⟩
theorem ok_Round_how_many (T : Txt mg K w.params) : FnOk P w K mg base CX0 7 T.f_Round_how_many T.fd_Round_how_many ["self", "hour"] (liftSp K 2 (dHrP hmn T.C_Round)) := by
  refine FunD.ok0 T.F_Round_how_many sc_Round_how_many lift_len (fun cdv A outer s H vs Q E hr h => ⟨_, pss_cons (ps_expr (pe_callX (ok_refuse_no_hour T) (hr.mono (by decide)) (by rfl) T.g_refuse_no_hour T.F_refuse_no_hour.kp (b_refuse_no_hour_1 T) pass0 (pa_cons (pv 1) pa_nil)))
 (pss_one (ps_ret (pe_callB (sumK (K := K) rfl rfl) (by rfl) T.n_sum (by decide +kernel) (pa_cons (pe_lc (own := [("call", 2)]) (g := gName 2) (tt := tYes) (by rfl) sc_Round_how_many.nd (pi_range1 (by rfl) T.n_range (pa_cons (pe_callB (lenK (K := K) rfl) (by rfl) T.n_len (by decide +kernel) (pa_cons (fldK (K := K) rfl (pv 0) rfl) pa_nil)) pa_nil)) (blkOk_by (own := [("call", 2)]) (N := ["self", "hour", "call"]) (sc := defScope s_Round_how_many) (by decide +kernel)) (fun _ _ _ _ _ => pg_name (i := 2) sc_Round_how_many.nd rfl (Or.inl rfl)) (fun _ _ _ _ _ => pts_nil) (fun _ _ _ _ _ => pe_op op_sub (pe_methX (pv 0) T.cl_Round T.m_Round__came (ok_Round__came T) (hr.mono (by decide)) (b_Round__came_3 T) pass0 (pa_cons (pv 2) (pa_cons (pv 1) pa_nil))) (pe_methX (pv 0) T.cl_Round T.m_Round__ended (ok_Round__ended T) (hr.mono (by decide)) (b_Round__ended_3 T) pass0 (pa_cons (pv 2) (pa_cons (pv 1) pa_nil))))) pa_nil)))), body_sim h ?_⟩)
  rintro ts μ Φ xw hl ⟨L, l, h, rfl, rfl, ok, h0, h1, q⟩
  have l12 := ok.len
  walk_at "st0"
  unfold rndT
  walk_at "rd"
  refine ⟨rfl, callF rfl ⟨h, rfl, rfl, h0, h1, ?_⟩⟩
  simp only [lk_calls]
  refine ⟨by simp <;> omega, by simp <;> omega, by simp, fun i acc μ => acc = (List.range i).map (fun j => Dl.T.int (cme L l j h - nde L l j h)) ∧ μ = [], ⟨rfl, rfl⟩, ?_, ?_⟩
  · rintro i t acc μ et ⟨rfl, rfl⟩
    obtain ⟨il, rfl⟩ := range_at et
    simp only [wipeR]
    walk_at "rd"
    have il2 : i < l.length := by simpa using il
    refine ⟨⟨_, rfl, rfl⟩, rfl, callF rfl ⟨L, l, i, h, rfl, rfl, ok, il2, ?_⟩⟩
    refine ⟨⟨_, rfl, rfl⟩, rfl, callF rfl ⟨L, l, i, h, rfl, rfl, ok, il2, ?_⟩⟩
    exact ⟨rfl, by rw [List.length_map, List.length_range]; omega, (range_snoc _ _).symm, rfl⟩
  · rintro acc μ ⟨rfl, rfl⟩
    have e : ((List.range ((List.map callT l).length : Int).toNat).map fun i : Nat => Dl.T.int (i : Int)).length = l.length := by simp
    rw [e]
    refine ⟨_, (List.range l.length).map fun j => cme L l j h - nde L l j h, rfl, ints_mapf (α := Nat) (fun j => cme L l j h - nde L l j h) _, ?_⟩
    rw [sum_range]
    exact q
theorem ok_Round_idle (T : Txt mg K w.params) : FnOk P w K mg base CX0 7 T.f_Round_idle T.fd_Round_idle ["self", "hour"] (liftSp K 2 (dHrP idl T.C_Round)) := by
  refine FunD.ok0 T.F_Round_idle sc_Round_idle lift_len (fun cdv A outer s H vs Q E hr h => ⟨_, pss_cons (ps_expr (pe_callX (ok_refuse_no_hour T) (hr.mono (by decide)) (by rfl) T.g_refuse_no_hour T.F_refuse_no_hour.kp (b_refuse_no_hour_1 T) pass0 (pa_cons (pv 1) pa_nil)))
 (pss_one (ps_ret (pe_op op_sub (pv 1) (pe_methX (pv 0) T.cl_Round T.m_Round__all_done (ok_Round__all_done T) (hr.mono (by decide)) (b_Round__all_done_2 T) pass0 (pa_cons (pv 1) pa_nil))))), body_sim h ?_⟩)
  rintro ts μ Φ xw hl ⟨L, l, h, rfl, rfl, ok, h0, h1, q⟩
  walk_at "st0"
  unfold rndT
  walk_at "rd"
  refine ⟨rfl, callF rfl ⟨h, rfl, rfl, h0, h1, ?_⟩⟩
  exact ⟨⟨_, rfl, rfl⟩, rfl, callF rfl ⟨L, l, h, rfl, rfl, ok, h0, q⟩⟩
end
end K

set_option maxRecDepth 100000
set_option maxHeartbeats 4000000
set_option synthInstance.maxSize 100000
set_option synthInstance.maxHeartbeats 4000000
namespace K
open PySem PySem.Spec PyProof.Rows L2 Gd
local macro_rules | `(tactic| walk_at "mulok") => `(tactic| first | exact Or.inr ⟨by decide, by decide⟩ | exact Or.inl ⟨by decide, by decide⟩ | exact Or.inr ⟨by omega, by omega⟩ | exact Or.inl ⟨by omega, by omega⟩)
local macro_rules | `(tactic| walk_at "st") => `(tactic| first
  | refine ⟨_, rfl, ?_⟩
  | refine ⟨_, _, rfl, rfl, (by walk_at "mulok"), ?_⟩
  | refine ⟨_, _, rfl, rfl, (by show (0 : Int) < _; decide), ?_⟩
  | refine ⟨_, _, rfl, rfl, ⟨by decide, by decide⟩, ?_⟩
  | refine ⟨_, _, rfl, rfl, ?_⟩)
local macro_rules | `(tactic| walk_at "st0") => `(tactic| simp only [List.map_cons, List.map_nil, List.append_nil, List.cons_append, List.nil_append, List.length_cons, List.length_nil, Nat.reduceSub, Nat.reduceAdd, Nat.sub_self, List.replicate])
local macro_rules | `(tactic| walk_at "rd") => `(tactic| dsimp only [Dl.rRet, Dl.rRetN, Dl.rIfS, Dl.rSeq, Dl.rNext, Dl.rDrop, Dl.rAsg, Dl.rName, Dl.rPar, Dl.rPar3, Dl.rAndV, Dl.rOrV, Dl.rNotV, Dl.dIsi, Dl.dDivmod, Dl.mput, Dl.rUn, Dl.rGset, Dl.rFrz, Dl.rAnd, Dl.rOr, Dl.rNot, Dl.rTest, Dl.rTru, Dl.rIf, Dl.rOp, Dl.rOpL, Dl.rCB, Dl.rCBL, Dl.rCons, Dl.rNil, Dl.rVar, Dl.rC, Dl.rStr, Dl.d1, Dl.fTyp, Dl.fLenS, Dl.fLenQ, Dl.fAll, Dl.fSum, Dl.fRepr, Dl.fTupOf, Dl.dTy, Dl.nb, Dl.dInT, Dl.dIn, Dl.dN, Dl.dEq, Dl.dEqD, Dl.dI0, Dl.dIC, Dl.dCat, Dl.dCatL, Dl.dCatS, Dl.dCatT, Dl.dIxL, Dl.dIxT, Dl.dIxS, Dl.rChain, Dl.rChain3, Dl.rTup, Dl.rLst, Dl.rFroz, Dl.rKeep, Dl.rFld, Dl.rBM, Dl.dAppend, Dl.dReverse, Dl.dClear, Dl.dExtend, Dl.rCK, Dl.fMinD, Dl.rCall, Dl.rCall0, Dl.rMeth, Dl.rMeth0, Dl.rMethN0, Dl.rMake, Dl.rMake0, Dl.rSetF, Dl.rGtup, Dl.rGcons, Dl.rGnil, Dl.rIlst, Dl.rItup, Dl.rIenum, Dl.rIenumT, Dl.rIzip, Dl.rIzip3, Dl.rSlcL, Dl.rSlcT, Dl.rSlcS, Dl.rNoPart, Dl.rPart, Dl.dSS, Dl.dII, Dl.dListOf, Dl.dSortI, Dl.rtD, Dl.rtL, List.map_cons, List.map_nil, List.length_cons, List.length_nil, List.cons_append, List.nil_append, List.append_nil, List.replicate, Nat.reduceSub, Nat.reduceAdd, Nat.sub_self, Nat.sub_zero, List.getElem?_cons_zero, List.getElem?_cons_succ, List.set_cons_zero, List.set_cons_succ, List.take_succ_cons, List.take_zero, List.take_nil, Dl.view, Dl.T.tyn, Dl.T.isN, Dl.T.sc, Dl.T.flat, Dl.flats])
local macro_rules | `(tactic| walk_at "rs") => `(tactic| dsimp only [Dl.rRet, Dl.rRetN, Dl.rIfS, Dl.rNext, Dl.rDrop, Dl.rAsg, Dl.rName, Dl.rPar, Dl.rPar3, Dl.rAndV, Dl.rOrV, Dl.rNotV, Dl.dIsi, Dl.dDivmod, Dl.mput, Dl.rUn, Dl.rGset, Dl.rFrz, Dl.rAnd, Dl.rOr, Dl.rNot, Dl.rTest, Dl.rTru, Dl.rIf, Dl.rOp, Dl.rOpL, Dl.rCB, Dl.rCBL, Dl.rCons, Dl.rNil, Dl.rVar, Dl.rC, Dl.rStr, Dl.d1, Dl.fTyp, Dl.fLenS, Dl.fLenQ, Dl.fAll, Dl.fSum, Dl.fRepr, Dl.fTupOf, Dl.dTy, Dl.nb, Dl.dInT, Dl.dIn, Dl.dN, Dl.dEq, Dl.dEqD, Dl.dI0, Dl.dIC, Dl.dCat, Dl.dCatL, Dl.dCatS, Dl.dCatT, Dl.dIxL, Dl.dIxT, Dl.dIxS, Dl.rChain, Dl.rChain3, Dl.rTup, Dl.rLst, Dl.rFroz, Dl.rKeep, Dl.rFld, Dl.rBM, Dl.dAppend, Dl.dReverse, Dl.dClear, Dl.dExtend, Dl.rCK, Dl.fMinD, Dl.rCall, Dl.rCall0, Dl.rMeth, Dl.rMeth0, Dl.rMethN0, Dl.rMake, Dl.rMake0, Dl.rSetF, Dl.rGtup, Dl.rGcons, Dl.rGnil, Dl.rIlst, Dl.rItup, Dl.rIenum, Dl.rIenumT, Dl.rIzip, Dl.rIzip3, Dl.rSlcL, Dl.rSlcT, Dl.rSlcS, Dl.rNoPart, Dl.rPart, Dl.dSS, Dl.dII, Dl.dListOf, Dl.dSortI, Dl.rtD, Dl.rtL, List.map_cons, List.map_nil, List.length_cons, List.length_nil, List.cons_append, List.nil_append, List.append_nil, List.replicate, Nat.reduceSub, Nat.reduceAdd, Nat.sub_self, Nat.sub_zero, List.getElem?_cons_zero, List.getElem?_cons_succ, List.set_cons_zero, List.set_cons_succ, List.take_succ_cons, List.take_zero, List.take_nil, Dl.view, Dl.T.tyn, Dl.T.isN, Dl.T.sc, Dl.T.flat, Dl.flats])
open Dl Rm
def dOne (f : Int → List Cal → Dl.T) (C : Addr) : DSpec := fun ts μ Φ _ => ∃ (L : Int) (l : List Cal), ts = [rndT C L l] ∧ μ = [] ∧ OkC L l ∧ Φ (f L l) []
/-- the least hour from the second round on at which a call comes in its turn, and more waits -/
def hov (L : Int) (l : List Cal) (j : Nat) (top : Int) : Int := L + (cl l j).1 + (max 0 (top + 1 - wtn L l (L + (cl l j).1)) + (tot l - L) - 1) / (tot l - L) * L
def dHov (C : Addr) : DSpec := fun ts μ Φ _ => ∃ (L : Int) (l : List Cal) (j : Nat) (top : Int), ts = [rndT C L l, .int (cl l j).1, .int top] ∧ μ = [] ∧ OkC L l ∧ j < l.length ∧ L < tot l ∧ Φ (.int (hov L l j top)) []
/-- the hours that are asked -/
def hrs (L : Int) (l : List Cal) (top : Int) : List Int := (l.map fun c => 0 * L + c.1) ++ (l.map fun c => 1 * L + c.1) ++ if tot l ≤ L then [] else (List.range l.length).map fun j => hov L l j top
def fov (L : Int) (l : List Cal) (top : Int) : Option Int := minI ((hrs L l top).filter fun h => decide (top < wtn L l h))
def optT : Option Int → Dl.T
  | some h => .int h
  | none => .non
def dFov (C : Addr) : DSpec := fun ts μ Φ _ => ∃ (L : Int) (l : List Cal) (top : Int), ts = [rndT C L l, .int top] ∧ μ = [] ∧ OkC L l ∧ 0 ≤ top ∧ top ≤ 1000000000000000000 ∧ Φ (optT (fov L l top)) []
theorem filt_snoc {α : Type} {l : List α} {p : α → Bool} {i : Nat} {x : α} (e : l[i]? = some x) : (l.take (i + 1)).filter p = (l.take i).filter p ++ if p x then [x] else [] := by
  rw [take_snoc e, List.filter_append]
  congr 1
  by_cases h : p x = true
  · rw [List.filter_cons_of_pos h, if_pos h]
    rfl
  · rw [List.filter_cons_of_neg h, if_neg h]
    rfl
/-- [v x for x in l if p x] -/
theorem fl_snoc {α : Type} {l : List α} {p : α → Bool} {v : α → Dl.T} {i : Nat} {x : α} (e : l[i]? = some x) : (p x = true → ((l.take i).filter p).map v ++ [v x] = ((l.take (i + 1)).filter p).map v) ∧ (p x = false → ((l.take i).filter p).map v = ((l.take (i + 1)).filter p).map v) := by
  rw [filt_snoc e]
  constructor
  · intro h
    rw [if_pos h, List.map_append]
    rfl
  · intro h
    rw [if_neg (by simp [h]), List.append_nil]
theorem fl_len {α : Type} {l : List α} {p : α → Bool} {v : α → Dl.T} {i : Nat} : (((l.take i).filter p).map v).length ≤ l.length := by
  rw [List.length_map]
  refine Nat.le_trans (List.length_filter_le _ _) ?_
  rw [List.length_take]
  omega
theorem mn_eq (i j : Int) : (if j < i then j else i) = min i j := by
  split <;> omega
theorem map_snoc {α β : Type} {l : List α} (f : α → β) {i : Nat} {x : α} (e : l[i]? = some x) : (l.take (i + 1)).map f = (l.take i).map f ++ [f x] := by
  rw [take_snoc e, List.map_append]
  rfl
theorem hrs_nonneg {L : Int} {l : List Cal} (ok : OkC L l) (top : Int) : ∀ h ∈ hrs L l top, 0 ≤ h := by
  have l1 := ok.l1
  intro h hh
  unfold hrs at hh
  rcases List.mem_append.mp hh with hh | hh
  · rcases List.mem_append.mp hh with hh | hh
    · obtain ⟨c, hc, rfl⟩ := List.mem_map.mp hh
      have := ok.all c hc
      omega
    · obtain ⟨c, hc, rfl⟩ := List.mem_map.mp hh
      have := ok.all c hc
      omega
  · split at hh
    · cases hh
    · obtain ⟨j, hj, rfl⟩ := List.mem_map.mp hh
      have := ok.all _ (List.mem_of_getElem? (cl_at (List.mem_range.mp hj)))
      unfold hov
      have d := Int.ediv_nonneg (a := max 0 (top + 1 - wtn L l (L + (cl l j).1)) + (tot l - L) - 1) (b := tot l - L) (by omega) (by omega)
      have m := Int.mul_nonneg d (show 0 ≤ L by omega)
      omega
section
variable {P : Program} {w : World} {K : PySem.W.Frag} {mg : PySem.Str → Option Value} {base : Heap}
theorem ok_Round_keeps_up (T : Txt mg K w.params) : FnOk P w K mg base CX0 1 T.f_Round_keeps_up T.fd_Round_keeps_up ["self"] (liftSp K 1 (dOne (fun L l => .bl (decide (tot l ≤ L))) T.C_Round)) := by
  refine FunD.ok0 T.F_Round_keeps_up sc_Round_keeps_up lift_len (fun cdv A outer s H vs Q E hr h => ⟨_, pss_one (ps_ret (pe_cmpR op_le (fldK (K := K) rfl (pv 0) rfl) (fldK (K := K) rfl (pv 0) rfl) (by first | rfl | exact nomark _))), body_sim h ?_⟩)
  rintro ts μ Φ xw hl ⟨L, l, rfl, rfl, ok, q⟩
  walk_at "st0"
  unfold rndT
  walk_at "rd"
  exact q
theorem ok_Round__hour_over (T : Txt mg K w.params) : FnOk P w K mg base CX0 7 T.f_Round__hour_over T.fd_Round__hour_over ["self", "at", "most"] (liftSp K 3 (dHov T.C_Round)) := by
  refine FunD.ok0 T.F_Round__hour_over sc_Round__hour_over lift_len (fun cdv A outer s H vs Q E hr h => ⟨_, pss_cons (ps_set (i := 3) sc_Round__hour_over.nd rfl (.inl rfl) (pe_op op_add (fldK (K := K) rfl (pv 0) rfl) (pv 1)))
 (pss_cons (ps_set (i := 4) sc_Round__hour_over.nd rfl (.inl rfl) (pe_op op_sub (fldK (K := K) rfl (pv 0) rfl) (fldK (K := K) rfl (pv 0) rfl)))
 (pss_cons (ps_set (i := 5) sc_Round__hour_over.nd rfl (.inl rfl) (pe_callB (call_max2 rfl) (by rfl) T.n_max (by decide +kernel) (pa_cons (pe_int) (pa_cons (pe_op op_sub (pe_op op_add (pv 2) (pe_int)) (pe_methX (pv 0) T.cl_Round T.m_Round__waiting (ok_Round__waiting T) (hr.mono (by decide)) (b_Round__waiting_2 T) pass0 (pa_cons (pv 3) pa_nil))) pa_nil))))
 (pss_one (ps_ret (pe_op op_add (pv 3) (pe_op op_mul (pe_op op_fdivN (pe_op op_sub (pe_op op_add (pv 5) (pv 4)) (pe_int)) (pv 4)) (fldK (K := K) rfl (pv 0) rfl))))))), body_sim h ?_⟩)
  rintro ts μ Φ xw hl ⟨L, l, j, top, rfl, rfl, ok, jl, lt, q⟩
  have l1 := ok.l1
  have l2 := ok.l2
  have t1 := ok.tot
  have c := ok.all _ (List.mem_of_getElem? (cl_at jl))
  walk_at "st0"
  unfold rndT
  walk_at "rd"
  simp only [lk_len, lk_tot]
  refine ⟨⟨_, rfl, rfl⟩, trivial, callF rfl ⟨L, l, L + (cl l j).1, rfl, rfl, ok, by omega, ?_⟩⟩
  refine ⟨⟨by omega, by omega⟩, .inr ⟨by omega, by omega⟩, ?_⟩
  rw [mx_eq, Int.fdiv_eq_ediv_of_nonneg _ (by omega)]
  exact q
theorem ok_Round_first_over (T : Txt mg K w.params) : FnOk P w K mg base CX0 8 T.f_Round_first_over T.fd_Round_first_over ["self", "most"] (liftSp K 2 (dFov T.C_Round)) := by
  refine FunD.ok0 T.F_Round_first_over sc_Round_first_over lift_len (fun cdv A outer s H vs Q E hr h => ⟨_, pss_cons (ps_if (pt_not (pt_val (pe_callX (ok_is_whole T) (hr.mono (by decide)) (by rfl) T.g_is_whole T.F_is_whole.kp (b_is_whole_3 T) pass0 (pa_cons (pv 1) (pa_cons (pe_int) (pa_cons (pe_glob (v := .int 1000000000000000000) (by rfl) T.c_FARTHEST (by first | exact rfl | exact ⟨_, rfl⟩)) pa_nil)))))) (pss_one (ps_never)) (pss_nil))
 (pss_cons (Dl.ps_keepA (ps_setLc2 (i := 2) (own := [("turn", 3), ("call", 4)]) (vs1 := [4]) (g := gName 3) (g1 := gName 4) (tt := tYes) (tt1 := tYes) (by rfl) sc_Round_first_over.nd rfl rfl (sw_true rfl rfl rfl (by decide +kernel)) (pi_range1 (by rfl) T.n_range (pa_cons (pe_int) pa_nil)) (blkOk_by (own := [("turn", 3), ("call", 4)]) (N := ["self", "most", "hours", "turn", "call", "hour"]) (sc := defScope s_Round_first_over) (by decide +kernel)) (by decide) (fun _ _ _ _ _ => pg_name (i := 3) sc_Round_first_over.nd rfl (Or.inl rfl)) (fun _ _ _ _ _ => pts_nil) (fun _ _ _ _ _ => piTK (K := K) rfl (fldK (K := K) rfl (pv 0) rfl)) (fun _ _ _ _ _ => pg_name (i := 4) sc_Round_first_over.nd rfl (Or.inl rfl)) (fun _ _ _ _ _ => pts_nil) (fun _ _ _ _ _ => pe_op op_add (pe_op op_mul (pv 3) (fldK (K := K) rfl (pv 0) rfl)) (pe_ix (ixtK (K := K) rfl) (pv 4) (pe_int) (fun _ _ => rfl)))))
 (pss_cons (ps_if (pt_not (pt_val (pe_methX0 (pv 0) T.cl_Round T.m_Round_keeps_up (ok_Round_keeps_up T) (hr.mono (by decide)) (b_Round_keeps_up_1 T) pass0))) (pss_one (ps_expr (bmK (K := K) rfl PySem.F.plainAttrs_list PySem.F.slot_list_extend PySem.F.type_list_extend mt_extend (pv 2) (pa_cons (pe_lc (own := [("call", 4)]) (g := gName 4) (tt := tYes) (by rfl) sc_Round_first_over.nd (piTK (K := K) rfl (fldK (K := K) rfl (pv 0) rfl)) (blkOk_by (own := [("call", 4)]) (N := ["self", "most", "hours", "turn", "call", "hour"]) (sc := defScope s_Round_first_over) (by decide +kernel)) (fun _ _ _ _ _ => pg_name (i := 4) sc_Round_first_over.nd rfl (Or.inl rfl)) (fun _ _ _ _ _ => pts_nil) (fun _ _ _ _ _ => pe_methX (pv 0) T.cl_Round T.m_Round__hour_over (ok_Round__hour_over T) (hr.mono (by decide)) (b_Round__hour_over_3 T) pass0 (pa_cons (pe_ix (ixtK (K := K) rfl) (pv 4) (pe_int) (fun _ _ => rfl)) (pa_cons (pv 1) pa_nil)))) pa_nil)))) (pss_nil))
 (pss_one (Dl.ps_frz 2 (ps_ret (pe_callBK (minDK (K := K) rfl rfl) (by rfl) T.n_min (by decide +kernel) (pa_cons (pe_lc (own := [("hour", 5)]) (g := gName 5) (by rfl) sc_Round_first_over.nd (piLK (K := K) rfl (pv 2)) (blkOk_by (own := [("hour", 5)]) (N := ["self", "most", "hours", "turn", "call", "hour"]) (sc := defScope s_Round_first_over) (by decide +kernel)) (fun _ _ _ _ _ => pg_name (i := 5) sc_Round_first_over.nd rfl (Or.inl rfl)) (fun _ _ _ _ _ => pts_one (pt_cmpR op_gt (pe_methX (pv 0) T.cl_Round T.m_Round__waiting (ok_Round__waiting T) (hr.mono (by decide)) (b_Round__waiting_2 T) pass0 (pa_cons (pv 5) pa_nil)) (pv 1) (by first | rfl | exact nomark _))) (fun _ _ _ _ _ => pv 5)) pa_nil) (pk_cons (pe_non) pk_nil))))))), body_sim h ?_⟩)
  rintro ts μ Φ xw hl ⟨L, l, top, rfl, rfl, ok, t0, t1, q⟩
  have l1 := ok.l1
  have l2 := ok.l2
  have l12 := ok.len
  walk_at "st0"
  unfold rndT
  refine rSeq_go ?_
  walk_at "rs"
  refine ⟨rfl, callF rfl ⟨_, _, _, rfl, rfl, knd_int _, ?_⟩⟩
  refine iteF' (by simp [whT]; omega) ?_
  refine rSeq_go ?_
  refine ⟨by decide, by decide, by decide, by decide, fun i acc μ => acc = ((if i = 0 then [] else l.map fun c => 0 * L + c.1) ++ if i ≤ 1 then [] else l.map fun c => 1 * L + c.1).map .int ∧ μ = [] ∧ i ≤ 2, ⟨rfl, rfl, by decide⟩, ?_, ?_⟩
  · rintro i t acc μ et ⟨rfl, rfl, i2⟩
    have key : i < 2 ∧ t = .int (i : Int) := by
      match i, et with
      | 0, et => exact ⟨by decide, (Option.some.inj et).symm⟩
      | 1, et => exact ⟨by decide, (Option.some.inj et).symm⟩
      | k + 2, et => simp at et
    obtain ⟨ik, rfl⟩ := key
    have pre : (if i = 0 then ([] : List Int) else l.map fun c => 0 * L + c.1).length ≤ 12 := by
      split
      · exact Nat.zero_le _
      · rw [List.length_map]; exact l12
    have pre2 : (if i ≤ 1 then ([] : List Int) else l.map fun c => 1 * L + c.1) = [] := if_pos (by omega)
    rw [pre2, List.append_nil]
    simp only [wipeR]
    walk_at "rs"
    rw [if_pos trivial]
    refine ⟨fun j acc μ => acc = ((if i = 0 then [] else l.map fun c => 0 * L + c.1) ++ (l.take j).map fun c => i * L + c.1).map .int ∧ μ = [], ⟨by simp, rfl⟩, ?_, ?_⟩
    · rintro j t acc μ et ⟨rfl, rfl⟩
      rw [List.getElem?_map, Option.map_eq_some_iff] at et
      obtain ⟨c, ec, rfl⟩ := et
      unfold callT
      walk_at "rs"
      rw [if_pos trivial]
      refine ⟨.inr ⟨by omega, by omega⟩, _, _, rfl, rfl, rfl, ?_, ?_, rfl⟩
      · rw [List.length_map, List.length_append, List.length_map, List.length_take]
        omega
      · rw [map_snoc _ ec, ← List.append_assoc, List.map_append (l₂ := [_])]
        rfl
    · rintro acc μ ⟨rfl, rfl⟩
      refine ⟨?_, rfl, by omega⟩
      rw [List.length_map, List.take_length]
      match i, ik with
      | 0, _ => simp
      | 1, _ => simp
  rintro acc μ ⟨rfl, rfl, _⟩
  walk_at "rs"
  refine rSeq_cut (fun ρ μ => ρ = [some (.obj T.C_Round (rfs L l)), some (.int top), some (.rs 0), none, none, none] ∧ μ = [.lst ((hrs L l top).map .int)]) (fun N hN => ?_) ?_
  · walk_at "rs"
    refine ⟨⟨_, rfl, rfl⟩, rfl, callF rfl ⟨L, l, rfl, rfl, ok, ?_⟩⟩
    by_cases kt : tot l ≤ L
    · refine iteF' (by simp [kt]) (hN _ _ ⟨rfl, ?_⟩)
      unfold hrs
      rw [if_pos kt, List.append_nil]
      rfl
    · refine iteT' (by simp [kt]) ?_
      refine ⟨rfl, by decide, fun j acc μ => acc = (List.range j).map (fun j => Dl.T.int (hov L l j top)) ∧ μ = [.lst (((l.map fun c => 0 * L + c.1) ++ (l.map fun c => 1 * L + c.1)).map .int)], ⟨rfl, rfl⟩, ?_, ?_⟩
      · rintro j t acc μ et ⟨rfl, rfl⟩
        rw [List.getElem?_map, Option.map_eq_some_iff] at et
        obtain ⟨c, ec, rfl⟩ := et
        have jl := (List.getElem?_eq_some_iff.mp ec).1
        have ec2 := cl_eq ec
        simp only [wipeR]
        unfold callT
        walk_at "rs"
        refine ⟨⟨_, rfl, rfl⟩, _, _, rfl, rfl, rfl, callF rfl ⟨L, l, j, top, by rw [ec2]; rfl, rfl, ok, jl, by omega, ?_⟩⟩
        exact ⟨rfl, by rw [List.length_map, List.length_range]; omega, (range_snoc _ _).symm, rfl⟩
      · rintro acc μ ⟨rfl, rfl⟩
        refine ⟨_, _, rfl, rfl, ?_, hN _ _ ⟨rfl, ?_⟩⟩
        · simp
          omega
        · rw [List.length_map]
          unfold hrs
          rw [if_neg kt]
          simp [List.map_append, List.map_map, Function.comp_def]
  rintro ρ μ ⟨rfl, rfl⟩
  have hl24 : (hrs L l top).length ≤ 36 := by
    unfold hrs
    split <;> simp <;> omega
  walk_at "rs"
  refine ⟨_, rfl, by decide, fun i acc μ => acc = (((hrs L l top).take i).filter fun h => decide (top < wtn L l h)).map .int ∧ μ = [.gone], ⟨rfl, rfl⟩, ?_, ?_⟩
  · rintro i t acc μ et ⟨rfl, rfl⟩
    rw [List.getElem?_map, Option.map_eq_some_iff] at et
    obtain ⟨x, ex, rfl⟩ := et
    obtain ⟨s1, s2⟩ := fl_snoc (p := fun h => decide (top < wtn L l h)) (v := Dl.T.int) ex
    simp only [wipeR]
    walk_at "rs"
    refine ⟨⟨_, rfl, rfl⟩, rfl, callF rfl ⟨L, l, x, rfl, rfl, ok, hrs_nonneg ok top x (List.mem_of_getElem? ex), ?_⟩⟩
    by_cases a : top < wtn L l x
    · exact iteT' (decide_eq_true a) ⟨rfl, Nat.lt_of_le_of_lt fl_len (by omega), s1 (decide_eq_true a), rfl⟩
    · exact iteF' (decide_eq_false a) ⟨s2 (decide_eq_false a), rfl⟩
  rintro acc μ ⟨rfl, rfl⟩
  rw [List.length_map, List.take_length]
  refine ⟨_, _, rfl, ints_map _, ?_⟩
  unfold fov at q
  generalize minI ((hrs L l top).filter fun h => decide (top < wtn L l h)) = o at q ⊢
  cases o <;> exact q
end
end K

set_option maxRecDepth 100000
set_option maxHeartbeats 4000000
set_option synthInstance.maxSize 100000
set_option synthInstance.maxHeartbeats 4000000
namespace K
open PySem PySem.Spec PyProof.Rows L2 Gd
local macro_rules | `(tactic| walk_at "mulok") => `(tactic| first | exact Or.inr ⟨by decide, by decide⟩ | exact Or.inl ⟨by decide, by decide⟩ | exact Or.inr ⟨by omega, by omega⟩ | exact Or.inl ⟨by omega, by omega⟩)
local macro_rules | `(tactic| walk_at "st") => `(tactic| first
  | refine ⟨_, rfl, ?_⟩
  | refine ⟨_, _, rfl, rfl, (by walk_at "mulok"), ?_⟩
  | refine ⟨_, _, rfl, rfl, (by show (0 : Int) < _; decide), ?_⟩
  | refine ⟨_, _, rfl, rfl, ⟨by decide, by decide⟩, ?_⟩
  | refine ⟨_, _, rfl, rfl, ?_⟩)
local macro_rules | `(tactic| walk_at "st0") => `(tactic| simp only [List.map_cons, List.map_nil, List.append_nil, List.cons_append, List.nil_append, List.length_cons, List.length_nil, Nat.reduceSub, Nat.reduceAdd, Nat.sub_self, List.replicate])
local macro_rules | `(tactic| walk_at "rd") => `(tactic| dsimp only [Dl.rRet, Dl.rRetN, Dl.rIfS, Dl.rSeq, Dl.rNext, Dl.rDrop, Dl.rAsg, Dl.rName, Dl.rPar, Dl.rPar3, Dl.rAndV, Dl.rOrV, Dl.rNotV, Dl.dIsi, Dl.dDivmod, Dl.mput, Dl.rUn, Dl.rGset, Dl.rFrz, Dl.rAnd, Dl.rOr, Dl.rNot, Dl.rTest, Dl.rTru, Dl.rIf, Dl.rOp, Dl.rOpL, Dl.rCB, Dl.rCBL, Dl.rCons, Dl.rNil, Dl.rVar, Dl.rC, Dl.rStr, Dl.d1, Dl.fTyp, Dl.fLenS, Dl.fLenQ, Dl.fAll, Dl.fSum, Dl.fRepr, Dl.fTupOf, Dl.dTy, Dl.nb, Dl.dInT, Dl.dIn, Dl.dN, Dl.dEq, Dl.dEqD, Dl.dI0, Dl.dIC, Dl.dCat, Dl.dCatL, Dl.dCatS, Dl.dCatT, Dl.dIxL, Dl.dIxT, Dl.dIxS, Dl.rChain, Dl.rChain3, Dl.rTup, Dl.rLst, Dl.rFroz, Dl.rKeep, Dl.rFld, Dl.rBM, Dl.dAppend, Dl.dReverse, Dl.dClear, Dl.dExtend, Dl.rCK, Dl.fMinD, Dl.rCall, Dl.rCall0, Dl.rMeth, Dl.rMeth0, Dl.rMethN0, Dl.rMake, Dl.rMake0, Dl.rSetF, Dl.rGtup, Dl.rGcons, Dl.rGnil, Dl.rIlst, Dl.rItup, Dl.rIenum, Dl.rIenumT, Dl.rIzip, Dl.rIzip3, Dl.rSlcL, Dl.rSlcT, Dl.rSlcS, Dl.rNoPart, Dl.rPart, Dl.dSS, Dl.dII, Dl.dListOf, Dl.dSortI, Dl.rtD, Dl.rtL, List.map_cons, List.map_nil, List.length_cons, List.length_nil, List.cons_append, List.nil_append, List.append_nil, List.replicate, Nat.reduceSub, Nat.reduceAdd, Nat.sub_self, Nat.sub_zero, List.getElem?_cons_zero, List.getElem?_cons_succ, List.set_cons_zero, List.set_cons_succ, List.take_succ_cons, List.take_zero, List.take_nil, Dl.view, Dl.T.tyn, Dl.T.isN, Dl.T.sc, Dl.T.flat, Dl.flats])
local macro_rules | `(tactic| walk_at "rs") => `(tactic| dsimp only [Dl.rRet, Dl.rRetN, Dl.rIfS, Dl.rNext, Dl.rDrop, Dl.rAsg, Dl.rName, Dl.rPar, Dl.rPar3, Dl.rAndV, Dl.rOrV, Dl.rNotV, Dl.dIsi, Dl.dDivmod, Dl.mput, Dl.rUn, Dl.rGset, Dl.rFrz, Dl.rAnd, Dl.rOr, Dl.rNot, Dl.rTest, Dl.rTru, Dl.rIf, Dl.rOp, Dl.rOpL, Dl.rCB, Dl.rCBL, Dl.rCons, Dl.rNil, Dl.rVar, Dl.rC, Dl.rStr, Dl.d1, Dl.fTyp, Dl.fLenS, Dl.fLenQ, Dl.fAll, Dl.fSum, Dl.fRepr, Dl.fTupOf, Dl.dTy, Dl.nb, Dl.dInT, Dl.dIn, Dl.dN, Dl.dEq, Dl.dEqD, Dl.dI0, Dl.dIC, Dl.dCat, Dl.dCatL, Dl.dCatS, Dl.dCatT, Dl.dIxL, Dl.dIxT, Dl.dIxS, Dl.rChain, Dl.rChain3, Dl.rTup, Dl.rLst, Dl.rFroz, Dl.rKeep, Dl.rFld, Dl.rBM, Dl.dAppend, Dl.dReverse, Dl.dClear, Dl.dExtend, Dl.rCK, Dl.fMinD, Dl.rCall, Dl.rCall0, Dl.rMeth, Dl.rMeth0, Dl.rMethN0, Dl.rMake, Dl.rMake0, Dl.rSetF, Dl.rGtup, Dl.rGcons, Dl.rGnil, Dl.rIlst, Dl.rItup, Dl.rIenum, Dl.rIenumT, Dl.rIzip, Dl.rIzip3, Dl.rSlcL, Dl.rSlcT, Dl.rSlcS, Dl.rNoPart, Dl.rPart, Dl.dSS, Dl.dII, Dl.dListOf, Dl.dSortI, Dl.rtD, Dl.rtL, List.map_cons, List.map_nil, List.length_cons, List.length_nil, List.cons_append, List.nil_append, List.append_nil, List.replicate, Nat.reduceSub, Nat.reduceAdd, Nat.sub_self, Nat.sub_zero, List.getElem?_cons_zero, List.getElem?_cons_succ, List.set_cons_zero, List.set_cons_succ, List.take_succ_cons, List.take_zero, List.take_nil, Dl.view, Dl.T.tyn, Dl.T.isN, Dl.T.sc, Dl.T.flat, Dl.flats])
open Dl Rm
theorem dnA_ge {L : Int} {l : List Cal} (ok : OkC L l) {h : Int} (h0 : 0 ≤ h) : 0 ≤ dnA L l h := by
  have L1 := ok.l1
  refine sm_nonneg fun j hj => ?_
  have hn : h ≤ (h.toNat : Nat) * L := by
    have : (h.toNat : Int) * 1 ≤ (h.toNat : Int) * L := Int.mul_le_mul_of_nonneg_left L1 (by omega)
    omega
  rw [dn1_sm ok.okr hj hn]
  refine sm_nonneg fun k _ => ?_
  show 0 ≤ clp _ _
  unfold clp
  omega
theorem cmA_le {L : Int} {l : List Cal} (ok : OkC L l) {h : Int} (h0 : 0 ≤ h) : cmA L l h ≤ 12000 * (h + 1) := by
  have L1 := ok.l1
  have l12 := ok.len
  have a : cmA L l h ≤ sm (fun _ => (h + 1) * 1000) l.length := sm_le fun j hj => by
    obtain ⟨n, e, hn⟩ := cme_is ok.okr hj h0
    obtain ⟨c1, c2, c3, c4, c5⟩ := ok.all _ (List.mem_of_getElem? (cl_at hj))
    have nb : (n : Int) ≤ h + 1 := by
      by_cases z : n = 0
      · omega
      · have := (hn (n - 1)).mpr (by omega)
        have : ((n - 1 : Nat) : Int) * 1 ≤ ((n - 1 : Nat) : Int) * L := Int.mul_le_mul_of_nonneg_left L1 (by omega)
        omega
    show cme L l j h * _ ≤ _
    rw [e]
    exact Int.mul_le_mul nb c5 (by omega) (by omega)
  rw [sm_const] at a
  have : (l.length : Int) * ((h + 1) * 1000) ≤ 12 * ((h + 1) * 1000) := Int.mul_le_mul_of_nonneg_right (by omega) (by omega)
  omega
theorem wtn_ge {L : Int} {l : List Cal} (ok : OkC L l) {h : Int} (h0 : 0 ≤ h) : 0 ≤ wtn L l h ∧ wtn L l h ≤ 12000 * (h + 1) := by
  have a := cmA_le ok h0
  have b := dnA_ge ok h0
  constructor
  · have L1 := ok.l1
    have hn : h < (h.toNat + 1 : Nat) * L := by
      have : ((h.toNat + 1 : Nat) : Int) * 1 ≤ ((h.toNat + 1 : Nat) : Int) * L := Int.mul_le_mul_of_nonneg_left L1 (by omega)
      omega
    rw [wtn_rows ok.okr h0 hn]
    refine sm_nonneg fun k _ => sm_nonneg fun j hj => ?_
    have w := (ok.okr.all j hj).2.2
    split <;> omega
  · unfold wtn
    omega
theorem works_map {l : List Cal} (f : Dl.T → Dl.T) (hf : ∀ c : Cal, f (callT c) = .int c.2.2) : (l.map callT).map f = (l.map fun c => c.2.2).map .int := by
  rw [List.map_map, List.map_map]
  exact List.map_congr_left fun c _ => hf c
theorem nm_ok {z : PySem.Str} (h : nmS z = true) : okS z := fun x hx => by
  have := List.all_eq_true.mp (nm_low h).1 x hx
  unfold lowS at this
  simp only [Bool.and_eq_true, decide_eq_true_eq] at this
  omega
theorem call_sw {L : Int} {l : List Cal} (ok : OkC L l) : ∀ t ∈ l.map callT, ∃ d, Sw t d 1 20 := by
  intro t ht
  obtain ⟨c, hc, rfl⟩ := List.mem_map.mp ht
  obtain ⟨o1, o2, o3, o4, o5⟩ := ok.all c hc
  have l2 := ok.l2
  have := nm_len o3
  exact ⟨_, (Sws.cons (.int (by omega)) (.cons (.str (nm_ok o3)) (.cons (.int (by omega)) .nil))).t.up (by omega)⟩
theorem calls_pd {L : Int} {l : List Cal} (ok : OkC L l) : ∃ ds, (Dl.T.tup (l.map callT)).pd = some (.tuple ds) ∧ ds.length = l.length ∧ (PyData.tuple ds).depth ≤ 64 := by
  obtain ⟨ds, h⟩ := Sws.all (call_sw ok)
  refine ⟨ds, h.t.is.pd, ?_, Nat.le_trans h.t.is.s3 (by decide)⟩
  rw [pds_len h.pd, List.length_map]
theorem eqv_nilL {ds : List PyData} : PyData.eqv (.list ds) (.list []) = decide (ds.length = 0) := by
  cases ds <;> simp [PyData.eqv, PyData.eqvAll]
theorem eqv_nilT {ds : List PyData} : PyData.eqv (.tuple ds) (.tuple []) = decide (ds.length = 0) := by
  cases ds <;> simp [PyData.eqv, PyData.eqvAll]
section
variable {L : Int} {l : List Cal}
theorem hov_is (ok : OkC L l) {j : Nat} (hj : j < l.length) (lt : L < tot l) (top : Int) : ∃ r : Nat, hov L l j top = L + (cl l j).1 + r * L ∧ top < wtn L l (hov L l j top) ∧ ∀ r2 : Nat, top < wtn L l (L + (cl l j).1 + r2 * L) → r ≤ r2 := by
  have L1 := ok.l1
  have c := ok.all _ (List.mem_of_getElem? (cl_at hj))
  have far := fun r : Nat => wtn_far ok.okr (h := L + (cl l j).1) (by omega) r
  unfold hov
  obtain ⟨x, ex⟩ : ∃ x, max 0 (top + 1 - wtn L l (L + (cl l j).1)) = x := ⟨_, rfl⟩
  obtain ⟨g, eg⟩ : ∃ g, tot l - L = g := ⟨_, rfl⟩
  have mg : max 0 (tot l - L) = g := by omega
  rw [mg] at far
  rw [ex, eg]
  have dm := Int.emod_add_mul_ediv (x + g - 1) g
  have m0 := Int.emod_nonneg (x + g - 1) (show g ≠ 0 by omega)
  have m1 := Int.emod_lt_of_pos (x + g - 1) (show 0 < g by omega)
  have dv := Int.ediv_nonneg (show 0 ≤ x + g - 1 by omega) (show 0 ≤ g by omega)
  obtain ⟨r, er⟩ : ∃ r : Nat, (x + g - 1) / g = r := ⟨_, (Int.toNat_of_nonneg dv).symm⟩
  rw [er] at dm ⊢
  rw [Int.mul_comm] at dm
  refine ⟨r, rfl, ?_, fun r2 h2 => ?_⟩
  · rw [far r]
    omega
  · rw [far r2] at h2
    by_cases z : r ≤ r2
    · exact z
    · have : ((r2 : Int) + 1) * g ≤ (r : Int) * g := Int.mul_le_mul_of_nonneg_right (by omega) (by omega)
      rw [Int.add_mul, Int.one_mul] at this
      have r0 : (0 : Int) ≤ (r2 : Int) * g := Int.mul_nonneg (by omega) (by omega)
      omega
theorem cm_hrs (ok : OkC L l) {j : Nat} (hj : j < l.length) {k : Nat} (hk : k < 2) (top : Int) : (k : Int) * L + (cl l j).1 ∈ hrs L l top := by
  unfold hrs
  refine List.mem_append_left _ ?_
  have m := List.mem_of_getElem? (cl_at hj)
  match k, hk with
  | 0, _ => exact List.mem_append_left _ (List.mem_map.mpr ⟨_, m, rfl⟩)
  | 1, _ => exact List.mem_append_right _ (List.mem_map.mpr ⟨_, m, rfl⟩)
theorem hov_hrs {j : Nat} (hj : j < l.length) (lt : L < tot l) (top : Int) : hov L l j top ∈ hrs L l top := by
  unfold hrs
  rw [if_neg (by omega)]
  exact List.mem_append_right _ (List.mem_map.mpr ⟨j, List.mem_range.mpr hj, rfl⟩)
theorem hrs_is (ok : OkC L l) {top h : Int} (m : h ∈ hrs L l top) : ∃ (k j : Nat), j < l.length ∧ h = k * L + (cl l j).1 := by
  unfold hrs at m
  rcases List.mem_append.mp m with m | m
  · rcases List.mem_append.mp m with m | m
    · obtain ⟨c, hc, rfl⟩ := List.mem_map.mp m
      obtain ⟨j, hj, e⟩ := List.getElem_of_mem hc
      exact ⟨0, j, hj, by rw [cl_eq (by rw [List.getElem?_eq_getElem hj, e])]; rfl⟩
    · obtain ⟨c, hc, rfl⟩ := List.mem_map.mp m
      obtain ⟨j, hj, e⟩ := List.getElem_of_mem hc
      exact ⟨1, j, hj, by rw [cl_eq (by rw [List.getElem?_eq_getElem hj, e])]; rfl⟩
  · split at m
    · cases m
    · obtain ⟨j, hj, rfl⟩ := List.mem_map.mp m
      have hj := List.mem_range.mp hj
      obtain ⟨r, e, _⟩ := hov_is ok hj (by omega) top
      refine ⟨r + 1, j, hj, ?_⟩
      rw [e, show ((r + 1 : Nat) : Int) = (r : Int) + 1 from rfl, Int.add_mul]
      omega
theorem minI_none {ns : List Int} (h : minI ns = none) : ns = [] := by
  cases ns with
  | nil => rfl
  | cons x r => cases h
theorem fov_none (ok : OkC L l) {top : Int} (e : fov L l top = none) : tot l ≤ L ∧ ∀ (k j : Nat), k < 2 → j < l.length → wtn L l (k * L + (cl l j).1) ≤ top := by
  have n := minI_none e
  rw [List.filter_eq_nil_iff] at n
  have no : ∀ h ∈ hrs L l top, wtn L l h ≤ top := fun h hh => by
    have := n h hh
    simp only [decide_eq_true_eq] at this
    omega
  refine ⟨?_, fun k j hk hj => no _ (cm_hrs ok hj hk top)⟩
  by_cases z : tot l ≤ L
  · exact z
  · have ne : 0 < l.length := by
      rcases tot_nil_or ok.okr with ⟨_, a⟩ | a
      · have := ok.l1
        omega
      · exact a
    obtain ⟨r, _, a, _⟩ := hov_is ok ne (by omega) top
    have := no _ (hov_hrs ne (by omega) top)
    omega
theorem fov_some (ok : OkC L l) {top h : Int} (e : fov L l top = some h) : (∃ (k j : Nat), j < l.length ∧ h = k * L + (cl l j).1) ∧ top < wtn L l h ∧ h ∈ hrs L l top ∧ ∀ (k j : Nat), j < l.length → top < wtn L l (k * L + (cl l j).1) → h ≤ k * L + (cl l j).1 := by
  have L1 := ok.l1
  obtain ⟨a, b⟩ := minI_some e
  obtain ⟨a1, a2⟩ := List.mem_filter.mp a
  have le : ∀ x ∈ hrs L l top, top < wtn L l x → h ≤ x := fun x hx hw => b x (List.mem_filter.mpr ⟨hx, decide_eq_true hw⟩)
  refine ⟨hrs_is ok a1, by simpa using a2, a1, fun k j hj hw => ?_⟩
  have c := ok.all _ (List.mem_of_getElem? (cl_at hj))
  by_cases hk : k < 2
  · exact le _ (cm_hrs ok hj hk top) hw
  · obtain ⟨q, rfl⟩ : ∃ q, k = q + 1 := ⟨k - 1, by omega⟩
    have eq : ((q + 1 : Nat) : Int) * L + (cl l j).1 = L + (cl l j).1 + q * L := by
      rw [show ((q + 1 : Nat) : Int) = (q : Int) + 1 from rfl, Int.add_mul]
      omega
    have q0 : (0 : Int) ≤ (q : Int) * L := Int.mul_nonneg (by omega) (by omega)
    rw [eq] at hw ⊢
    by_cases z : tot l ≤ L
    · rw [wtn_far ok.okr (by omega), show max 0 (tot l - L) = 0 from by omega, Int.mul_zero, Int.add_zero] at hw
      have m := cm_hrs ok hj (k := 1) (by decide) top
      have e1 : ((1 : Nat) : Int) * L + (cl l j).1 = L + (cl l j).1 := by omega
      rw [e1] at m
      have := le _ m hw
      omega
    · obtain ⟨r, er, rw1, rmin⟩ := hov_is ok hj (by omega) top
      have := le _ (hov_hrs hj (by omega) top) rw1
      have r2 := rmin q hw
      have : (r : Int) * L ≤ (q : Int) * L := Int.mul_le_mul_of_nonneg_right (by omega) (by omega)
      omega
theorem fov_bd (ok : OkC L l) {top h : Int} (t0 : 0 ≤ top) (t1 : top ≤ 1000000000000000000) (e : fov L l top = some h) : 0 ≤ h ∧ h ≤ 1000000000000000100000000 := by
  have L1 := ok.l1
  have L2 := ok.l2
  obtain ⟨_, _, m, _⟩ := fov_some ok e
  refine ⟨hrs_nonneg ok top h m, ?_⟩
  unfold hrs at m
  rcases List.mem_append.mp m with m | m
  · rcases List.mem_append.mp m with m | m
    · obtain ⟨c, hc, rfl⟩ := List.mem_map.mp m
      have := ok.all c hc
      omega
    · obtain ⟨c, hc, rfl⟩ := List.mem_map.mp m
      have := ok.all c hc
      omega
  · split at m
    · cases m
    · obtain ⟨j, hj, rfl⟩ := List.mem_map.mp m
      have hj := List.mem_range.mp hj
      have c := ok.all _ (List.mem_of_getElem? (cl_at hj))
      have wg := (wtn_ge ok (h := L + (cl l j).1) (by omega)).1
      unfold hov
      obtain ⟨x, ex⟩ : ∃ x, max 0 (top + 1 - wtn L l (L + (cl l j).1)) = x := ⟨_, rfl⟩
      obtain ⟨g, eg⟩ : ∃ g, tot l - L = g := ⟨_, rfl⟩
      have t := ok.tot
      rw [ex, eg]
      have d := Int.ediv_le_self g (show 0 ≤ x + g - 1 by omega)
      have dv := Int.ediv_nonneg (show 0 ≤ x + g - 1 by omega) (show 0 ≤ g by omega)
      have : (x + g - 1) / g * L ≤ (x + g - 1) * 1000 := Int.mul_le_mul d L2 (by omega) (by omega)
      omega
end
theorem inV_int (x : Int) (xs : List Int) : inV (V.int x) (xs.map V.int) = decide (x ∈ xs) := by
  induction xs with
  | nil => rfl
  | cons y r ih =>
    simp only [List.map_cons, inV, List.any_cons] at *
    rw [ih]
    by_cases h : x = y
    · subst h
      simp [eqV]
    · simp [h, Ne.symm h, eqV]
theorem scs_ints (xs : List Int) : T.scs (xs.map T.int) = some (xs.map V.int) := by
  induction xs with
  | nil => rfl
  | cons x r ih =>
    simp only [List.map_cons, T.scs, ih, T.sc]
    rfl
theorem pdv {μ : Mu} {t : Dl.T} {d : PyData} (e : t.pd = some d) : (view μ t).pd = some d := by
  cases t with
  | rs k => simp [Dl.T.pd] at e
  | _ => exact e
theorem sm_bd {f : Nat → Int} {c : Int} {n : Nat} (h : ∀ k, k < n → 0 ≤ f k ∧ f k ≤ c) : 0 ≤ sm f n ∧ sm f n ≤ n * c := by
  refine ⟨sm_nonneg fun k hk => (h k hk).1, ?_⟩
  rw [← sm_const]
  exact sm_le fun k hk => (h k hk).2
theorem OkC.dnB {L : Int} {l : List Cal} (ok : OkC L l) {h : Int} (h0 : 0 ≤ h) (h1 : h ≤ 1000000000000000000) : 0 ≤ dnA L l h ∧ dnA L l h ≤ 12000000000000000000000 := by
  have l12 := ok.len
  have L1 := ok.l1
  have a := sm_bd (f := fun j => dn1 L l j h) (n := l.length) (c := 1000000000000000000000) fun j hj => by
    show 0 ≤ dn1 L l j h ∧ dn1 L l j h ≤ _
    have hn : h ≤ (h.toNat : Nat) * L := by
      have : (h.toNat : Int) * 1 ≤ (h.toNat : Int) * L := Int.mul_le_mul_of_nonneg_left L1 (by omega)
      omega
    obtain ⟨c1, c2, c3, c4, c5⟩ := ok.all _ (List.mem_of_getElem? (cl_at hj))
    rw [dn1_sm ok.okr hj hn]
    have b := sm_bd (f := fun k => clp (cl l j).2.2 (h - bAt L l k j)) (n := h.toNat) (c := 1000) fun k hk => by
      show 0 ≤ clp _ _ ∧ clp _ _ ≤ _
      unfold clp
      omega
    omega
  unfold dnA
  have : (l.length : Int) * 1000000000000000000000 ≤ 12 * 1000000000000000000000 := Int.mul_le_mul_of_nonneg_right (by omega) (by omega)
  omega
theorem OkC.cmB {L : Int} {l : List Cal} (ok : OkC L l) {h : Int} (h0 : 0 ≤ h) (h1 : h ≤ 1000000000000000000) : 0 ≤ cmA L l h ∧ cmA L l h ≤ 12000000000000000012000 := by
  have l12 := ok.len
  have a := sm_bd (f := fun j => cme L l j h * (cl l j).2.2) (n := l.length) (c := 1000000000000000001000) fun j hj => by
    obtain ⟨c1, c2, c3, c4, c5⟩ := ok.all _ (List.mem_of_getElem? (cl_at hj))
    obtain ⟨b0, b1⟩ := ok.cmeB hj h0 h1
    exact ⟨Int.mul_nonneg b0 (by omega), by have := Int.mul_le_mul b1 c5 (by omega) (by omega); omega⟩
  unfold cmA
  have : (l.length : Int) * 1000000000000000001000 ≤ 12 * 1000000000000000001000 := Int.mul_le_mul_of_nonneg_right (by omega) (by omega)
  omega
theorem OkC.hmB {L : Int} {l : List Cal} (ok : OkC L l) {h : Int} (h0 : 0 ≤ h) (h1 : h ≤ 1000000000000000000) : -12000000000000000012000 ≤ hmn L l h ∧ hmn L l h ≤ 12000000000000000012000 := by
  have l12 := ok.len
  have a := sm_bd (f := fun j => cme L l j h) (n := l.length) (c := 1000000000000000001) fun j hj => ok.cmeB hj h0 h1
  have b := sm_bd (f := fun j => nde L l j h) (n := l.length) (c := 1000000000000000001) fun j hj => by
    obtain ⟨n, e, hn⟩ := ok.ndeB hj h0 h1
    show 0 ≤ nde L l j h ∧ nde L l j h ≤ _
    omega
  unfold hmn
  rw [sm_sub]
  have : (l.length : Int) * 1000000000000000001 ≤ 12 * 1000000000000000001 := Int.mul_le_mul_of_nonneg_right (by omega) (by omega)
  omega
theorem onT_flat (L : Int) (l : List Cal) (h : Int) : (onT L l h).flat = true := by
  unfold onT
  split <;> rfl
end K

set_option maxRecDepth 100000
set_option maxHeartbeats 4000000
set_option synthInstance.maxSize 100000
set_option synthInstance.maxHeartbeats 4000000
namespace K
open PySem PySem.Spec PyProof.Rows L2 Gd
local macro_rules | `(tactic| walk_at "mulok") => `(tactic| first | exact Or.inr ⟨by decide, by decide⟩ | exact Or.inl ⟨by decide, by decide⟩ | exact Or.inr ⟨by omega, by omega⟩ | exact Or.inl ⟨by omega, by omega⟩)
local macro_rules | `(tactic| walk_at "st") => `(tactic| first
  | refine ⟨_, rfl, ?_⟩
  | refine ⟨_, _, rfl, rfl, (by walk_at "mulok"), ?_⟩
  | refine ⟨_, _, rfl, rfl, (by show (0 : Int) < _; decide), ?_⟩
  | refine ⟨_, _, rfl, rfl, ⟨by decide, by decide⟩, ?_⟩
  | refine ⟨_, _, rfl, rfl, ?_⟩)
local macro_rules | `(tactic| walk_at "st0") => `(tactic| simp only [List.map_cons, List.map_nil, List.append_nil, List.cons_append, List.nil_append, List.length_cons, List.length_nil, Nat.reduceSub, Nat.reduceAdd, Nat.sub_self, List.replicate])
local macro_rules | `(tactic| walk_at "rd") => `(tactic| dsimp only [Dl.rRet, Dl.rRetN, Dl.rIfS, Dl.rSeq, Dl.rNext, Dl.rDrop, Dl.rAsg, Dl.rName, Dl.rPar, Dl.rPar3, Dl.rAndV, Dl.rOrV, Dl.rNotV, Dl.dIsi, Dl.dDivmod, Dl.mput, Dl.rUn, Dl.rGset, Dl.rFrz, Dl.rAnd, Dl.rOr, Dl.rNot, Dl.rTest, Dl.rTru, Dl.rIf, Dl.rOp, Dl.rOpL, Dl.rCB, Dl.rCBL, Dl.rCons, Dl.rNil, Dl.rVar, Dl.rC, Dl.rStr, Dl.d1, Dl.fTyp, Dl.fLenS, Dl.fLenQ, Dl.fAll, Dl.fSum, Dl.fRepr, Dl.fTupOf, Dl.dTy, Dl.nb, Dl.dInT, Dl.dIn, Dl.dN, Dl.dEq, Dl.dEqD, Dl.dI0, Dl.dIC, Dl.dCat, Dl.dCatL, Dl.dCatS, Dl.dCatT, Dl.dIxL, Dl.dIxT, Dl.dIxS, Dl.rChain, Dl.rChain3, Dl.rTup, Dl.rLst, Dl.rFroz, Dl.rKeep, Dl.rFld, Dl.rBM, Dl.dAppend, Dl.dReverse, Dl.dClear, Dl.dExtend, Dl.rCK, Dl.fMinD, Dl.rCall, Dl.rCall0, Dl.rMeth, Dl.rMeth0, Dl.rMethN0, Dl.rMake, Dl.rMake0, Dl.rSetF, Dl.rGtup, Dl.rGcons, Dl.rGnil, Dl.rIlst, Dl.rItup, Dl.rIenum, Dl.rIenumT, Dl.rIzip, Dl.rIzip3, Dl.rSlcL, Dl.rSlcT, Dl.rSlcS, Dl.rNoPart, Dl.rPart, Dl.dSS, Dl.dII, Dl.dListOf, Dl.dSortI, Dl.rtD, Dl.rtL, List.map_cons, List.map_nil, List.length_cons, List.length_nil, List.cons_append, List.nil_append, List.append_nil, List.replicate, Nat.reduceSub, Nat.reduceAdd, Nat.sub_self, Nat.sub_zero, List.getElem?_cons_zero, List.getElem?_cons_succ, List.set_cons_zero, List.set_cons_succ, List.take_succ_cons, List.take_zero, List.take_nil, Dl.view, Dl.T.tyn, Dl.T.isN, Dl.T.sc, Dl.T.flat, Dl.flats])
local macro_rules | `(tactic| walk_at "rs") => `(tactic| dsimp only [Dl.rRet, Dl.rRetN, Dl.rIfS, Dl.rNext, Dl.rDrop, Dl.rAsg, Dl.rName, Dl.rPar, Dl.rPar3, Dl.rAndV, Dl.rOrV, Dl.rNotV, Dl.dIsi, Dl.dDivmod, Dl.mput, Dl.rUn, Dl.rGset, Dl.rFrz, Dl.rAnd, Dl.rOr, Dl.rNot, Dl.rTest, Dl.rTru, Dl.rIf, Dl.rOp, Dl.rOpL, Dl.rCB, Dl.rCBL, Dl.rCons, Dl.rNil, Dl.rVar, Dl.rC, Dl.rStr, Dl.d1, Dl.fTyp, Dl.fLenS, Dl.fLenQ, Dl.fAll, Dl.fSum, Dl.fRepr, Dl.fTupOf, Dl.dTy, Dl.nb, Dl.dInT, Dl.dIn, Dl.dN, Dl.dEq, Dl.dEqD, Dl.dI0, Dl.dIC, Dl.dCat, Dl.dCatL, Dl.dCatS, Dl.dCatT, Dl.dIxL, Dl.dIxT, Dl.dIxS, Dl.rChain, Dl.rChain3, Dl.rTup, Dl.rLst, Dl.rFroz, Dl.rKeep, Dl.rFld, Dl.rBM, Dl.dAppend, Dl.dReverse, Dl.dClear, Dl.dExtend, Dl.rCK, Dl.fMinD, Dl.rCall, Dl.rCall0, Dl.rMeth, Dl.rMeth0, Dl.rMethN0, Dl.rMake, Dl.rMake0, Dl.rSetF, Dl.rGtup, Dl.rGcons, Dl.rGnil, Dl.rIlst, Dl.rItup, Dl.rIenum, Dl.rIenumT, Dl.rIzip, Dl.rIzip3, Dl.rSlcL, Dl.rSlcT, Dl.rSlcS, Dl.rNoPart, Dl.rPart, Dl.dSS, Dl.dII, Dl.dListOf, Dl.dSortI, Dl.rtD, Dl.rtL, List.map_cons, List.map_nil, List.length_cons, List.length_nil, List.cons_append, List.nil_append, List.append_nil, List.replicate, Nat.reduceSub, Nat.reduceAdd, Nat.sub_self, Nat.sub_zero, List.getElem?_cons_zero, List.getElem?_cons_succ, List.set_cons_zero, List.set_cons_succ, List.take_succ_cons, List.take_zero, List.take_nil, Dl.view, Dl.T.tyn, Dl.T.isN, Dl.T.sc, Dl.T.flat, Dl.flats])
open Dl Rm
theorem p18 : (10 : Int) ^ Int.toNat 18 = 1000000000000000000 := by decide
theorem p9 : (10 : Int) ^ Int.toNat 9 = 1000000000 := by decide
theorem p6 : (10 : Int) ^ Int.toNat 6 = 1000000 := by decide
def dOn : DSpec := fun ts μ Φ _ => ∃ (mo : Int) (n : Nat), ts = [.rs 0, .int mo] ∧ μ = [.drw nxt (n + 4)] ∧ 1 ≤ mo ∧ mo ≤ 1000000000000000000 ∧ ∀ (v : Nat) (m : Nat), 1 ≤ v → v ≤ mo → n ≤ m → Φ (.int v) [.drw nxt m]
def dCallsR (C : Addr) : DSpec := fun ts μ Φ _ => ∃ (L : Int) (l : List Cal) (n : Nat), ts = [.rs 0, rndT C L l, plnT L l, .int (tot l)] ∧ μ = [.drw nxt (n + 10)] ∧ OkC L l ∧ 0 < l.length ∧ ∀ m : Nat, n ≤ m → Φ (.bl true) [.drw nxt m]
def dDateR (C : Addr) : DSpec := fun ts μ Φ _ => ∃ (L : Int) (l : List Cal) (date : Int) (n : Nat), ts = [.rs 0, rndT C L l, plnT L l, .int (tot l), .int date] ∧ μ = [.drw nxt (n + 10)] ∧ OkC L l ∧ L ≤ date ∧ date ≤ 5000 ∧ ∀ m : Nat, n ≤ m → Φ (.bl true) [.drw nxt m]
def dOverR (C : Addr) : DSpec := fun ts μ Φ _ => ∃ (L : Int) (l : List Cal) (n : Nat), ts = [.rs 0, rndT C L l, plnT L l, .int (tot l)] ∧ μ = [.drw nxt (n + 10)] ∧ OkC L l ∧ ∀ m : Nat, n ≤ m → Φ (.bl true) [.drw nxt m]
section
variable {P : Program} {w : World} {K : PySem.W.Frag} {mg : PySem.Str → Option Value} {base : Heap}
theorem ok_law_rounds_on (T : Txt mg K w.params) : FnOk P w K mg base CX0 3 T.f_law_rounds_on T.fd_law_rounds_on ["m", "most_on"] (liftSp K 2 dOn) := by
  refine FunD.ok0 T.F_law_rounds_on sc_law_rounds_on lift_len (fun cdv A outer s H vs Q E hr h => ⟨_, pss_one (ps_ret (pe_callB (call_min2 rfl) (by rfl) T.n_min (by decide +kernel) (pa_cons (pv 1) (pa_cons (pe_ix (ixlK (K := K) rfl) (pe_lst (pa_cons (pe_int) (pa_cons (pe_op op_add (pe_int) (pe_callX (ok_law_draw T) (hr.mono (by decide)) (by rfl) T.g_law_draw T.F_law_draw.kp (b_law_draw_2 T) pass0 (pa_cons (pv 0) (pa_cons (pe_int) pa_nil)))) (pa_cons (pe_op op_add (pe_int) (pe_callX (ok_law_draw T) (hr.mono (by decide)) (by rfl) T.g_law_draw T.F_law_draw.kp (b_law_draw_2 T) pass0 (pa_cons (pv 0) (pa_cons (pe_op op_pow (pe_int) (pe_int)) pa_nil)))) (pa_cons (pv 1) pa_nil))))) (pe_callX (ok_law_draw T) (hr.mono (by decide)) (by rfl) T.g_law_draw T.F_law_draw.kp (b_law_draw_2 T) pass0 (pa_cons (pv 0) (pa_cons (pe_int) pa_nil))) (fun _ _ => rfl)) pa_nil)))), body_sim h ?_⟩)
  rintro ts μ Φ xw hl ⟨mo, n, rfl, rfl, m0, m1, q⟩
  walk_at "st0"
  walk_at "rd"
  refine ⟨rfl, drawR rfl (by omega) (by decide) (by decide) fun v0 v00 v01 => ?_⟩
  walk_at "rd"
  rw [p9]
  refine ⟨⟨by decide, by decide, by decide⟩, rfl, drawR rfl (by omega) (by decide) (by decide) fun v1 v10 v11 => ?_⟩
  walk_at "rd"
  refine ⟨rfl, by decide, rfl, drawR rfl (by omega) (by decide) (by decide) fun v2 v20 v21 => ?_⟩
  walk_at "rd"
  obtain ⟨c, hc, e⟩ := at_intT (cs := [1, 1 + v0, 1 + v1, mo]) v20 v21
  simp only [List.mem_cons, List.not_mem_nil, or_false] at hc
  refine ⟨_, .int c, rfl, e, ?_⟩
  walk_at "rd"
  rw [mn_eq]
  have := q (min mo c).toNat (n + 4 - 1 - 1 - 1) (by omega) (by omega) (by omega)
  rw [Int.toNat_of_nonneg (by omega)] at this
  exact this
theorem ok_law_calls_right (T : Txt mg K w.params) : FnG P w K mg base 5 T.f_law_calls_right T.fd_law_calls_right ["m", "circle", "plain", "work"] (liftSp K 4 (dCallsR T.C_Round)) := by
  refine FunD.okG T.F_law_calls_right sc_law_calls_right lift_len (fun cdv A outer s H vs Q E hA hr h => ⟨_, pss_cons (ps_par (i := 4) (j := 5) (by rfl) sc_law_calls_right.nd rfl rfl (by decide) rfl rfl (pa_cons (pe_op op_add (pe_int) (pe_ix (ixlK (K := K) rfl) (pe_lst (pa_cons (pe_int) (pa_cons (pe_callX (ok_law_draw T) (hr.mono (by decide)) (by rfl) T.g_law_draw T.F_law_draw.kp (b_law_draw_2 T) pass0 (pa_cons (pv 0) (pa_cons (pe_int) pa_nil))) (pa_cons (pe_callX (ok_law_draw T) (hr.mono (by decide)) (by rfl) T.g_law_draw T.F_law_draw.kp (b_law_draw_2 T) pass0 (pa_cons (pv 0) (pa_cons (pe_op op_pow (pe_int) (pe_int)) pa_nil))) pa_nil)))) (pe_callX (ok_law_draw T) (hr.mono (by decide)) (by rfl) T.g_law_draw T.F_law_draw.kp (b_law_draw_2 T) pass0 (pa_cons (pv 0) (pa_cons (pe_int) pa_nil))) (fun _ _ => rfl))) (pa_cons (pe_callX (ok_law_draw T) (hr.mono (by decide)) (by rfl) T.g_law_draw T.F_law_draw.kp (b_law_draw_2 T) pass0 (pa_cons (pv 0) (pa_cons (pe_callB (lenK (K := K) rfl) (by rfl) T.n_len (by decide +kernel) (pa_cons (pe_ix (ixtK (K := K) rfl) (pv 2) (pe_int) (fun _ _ => rfl)) pa_nil)) pa_nil))) pa_nil)) (by rfl))
 (pss_cons (ps_set (i := 6) sc_law_calls_right.nd rfl (.inl rfl) (pe_callX (ok_law_rounds_on T) (hr.mono (by decide)) (by rfl) T.g_law_rounds_on T.F_law_rounds_on.kp (b_law_rounds_on_2 T) pass0 (pa_cons (pv 0) (pa_cons (pe_op op_sub (pe_op op_pow (pe_int) (pe_int)) (pv 4)) pa_nil))))
 (pss_cons (ps_set (i := 7) sc_law_calls_right.nd rfl (.inl rfl) (pe_op op_mul (pv 6) (pe_callB (call_max2 rfl) (by rfl) T.n_max (by decide +kernel) (pa_cons (pe_ix (ixtK (K := K) rfl) (pv 2) (pe_int) (fun _ _ => rfl)) (pa_cons (pv 3) pa_nil)))))
 (pss_cons (ps_set (i := 8) sc_law_calls_right.nd rfl (.inl rfl) (pe_lst (pa_cons (pe_methX (pv 1) T.cl_Round T.m_Round_begins (ok_Round_begins T) (hr.mono (by decide)) (b_Round_begins_3 T) pass0 (pa_cons (pe_op op_add (pv 4) (pv 6)) (pa_cons (pv 5) pa_nil))) (pa_cons (pe_methX (pv 1) T.cl_Round T.m_Round_ends (ok_Round_ends T) (hr.mono (by decide)) (b_Round_ends_3 T) pass0 (pa_cons (pe_op op_add (pv 4) (pv 6)) (pa_cons (pv 5) pa_nil))) pa_nil))))
 (pss_one (ps_ret (pe_cmpR op_eq (pe_callB (reprK (K := K) rfl hA hr.units) (by rfl) T.n_repr (by decide +kernel) (pa_cons (pv 8) pa_nil)) (pe_callB (reprK (K := K) rfl hA hr.units) (by rfl) T.n_repr (by decide +kernel) (pa_cons (pe_lst (pa_cons (pe_op op_add (pe_methX (pv 1) T.cl_Round T.m_Round_begins (ok_Round_begins T) (hr.mono (by decide)) (b_Round_begins_3 T) pass0 (pa_cons (pv 4) (pa_cons (pv 5) pa_nil))) (pv 7)) (pa_cons (pe_op op_add (pe_methX (pv 1) T.cl_Round T.m_Round_ends (ok_Round_ends T) (hr.mono (by decide)) (b_Round_ends_3 T) pass0 (pa_cons (pv 4) (pa_cons (pv 5) pa_nil))) (pv 7)) pa_nil))) pa_nil)) (by first | rfl | exact nomark _))))))), body_sim h ?_⟩)
  rintro ts μ Φ xw hl ⟨L, l, n, rfl, rfl, ok, ne, q⟩
  have l12 := ok.len
  have L1 := ok.l1
  have L2 := ok.l2
  walk_at "st0"
  unfold rndT plnT callsT
  refine rSeq_go ?_
  walk_at "rs"
  refine ⟨rfl, drawR rfl (by omega) (by decide) (by decide) fun v0 v00 v01 => ?_⟩
  walk_at "rs"
  refine ⟨⟨by decide, by decide, by decide⟩, rfl, drawR rfl (by omega) (by decide) (by decide) fun v1 v10 v11 => ?_⟩
  walk_at "rs"
  rw [p6] at v11
  refine ⟨rfl, by decide, rfl, drawR rfl (by omega) (by decide) (by decide) fun v2 v20 v21 => ?_⟩
  walk_at "rs"
  obtain ⟨c, hc, e⟩ := at_intT (cs := [0, v0, v1]) v20 v21
  simp only [List.mem_cons, List.not_mem_nil, or_false] at hc
  refine ⟨_, .int c, rfl, e, _, _, rfl, rfl, rfl, ?_⟩
  rw [List.length_map]
  refine drawR rfl (by omega) (by omega) (by omega) fun u u0 u1 => ?_
  walk_at "rs"
  obtain ⟨j, rfl⟩ : ∃ j : Nat, u = j := ⟨u.toNat, by omega⟩
  have jl : j < l.length := by omega
  obtain ⟨k, ek⟩ : ∃ k : Nat, 1 + c = ((k + 1 : Nat) : Int) := ⟨c.toNat, by omega⟩
  rw [ek]
  refine rSeq_go ?_
  walk_at "rs"
  rw [p18]
  refine ⟨⟨by decide, by decide, by decide⟩, rfl, callR rfl rfl ⟨1000000000000000000 - ((k + 1 : Nat) : Int), n + 2, rfl, rfl, by omega, by omega, fun on m on1 on2 hm => ?_⟩⟩
  walk_at "rs"
  refine rSeq_go ?_
  walk_at "rs"
  have s1 := ok.stp
  have s0 := stp_ge L l
  refine ⟨_, _, rfl, rfl, ?_⟩
  dsimp only
  rw [stp_eq]
  refine ⟨.inr ⟨by omega, by omega⟩, rSeq_go ?_⟩
  walk_at "rs"
  obtain ⟨b0, b1⟩ := ok.bAtB jl (k := k + 1) (by omega)
  obtain ⟨d0, d1⟩ := ok.bAtB jl (k := k + 1 + on) (by omega)
  have cb := ok.all _ (List.mem_of_getElem? (cl_at jl))
  have far := b_far ok.okr jl k on
  have kon : ((k + 1 : Nat) : Int) + (on : Int) = ((k + 1 + on : Nat) : Int) := by omega
  refine ⟨⟨_, rfl, rfl⟩, rfl, callF rfl ⟨L, l, k + 1 + on, j, by rw [kon]; rfl, rfl, ok, by omega, jl, ?_⟩⟩
  refine ⟨⟨_, rfl, rfl⟩, rfl, callF rfl ⟨L, l, k + 1 + on, j, _, by rw [kon]; rfl, rfl, ok, by omega, cl_at jl, ?_⟩⟩
  refine ⟨rfl, by decide, ?_⟩
  obtain ⟨d, ed, sd⟩ := sw_ii (i := bAt L l (k + 1 + on) j) (j := bAt L l (k + 1 + on) j + (cl l j).2.2) (by omega) (by omega)
  refine ⟨d, ed, sd, ⟨_, rfl, rfl⟩, rfl, callF rfl ⟨L, l, k + 1, j, rfl, rfl, ok, by omega, jl, ?_⟩⟩
  refine ⟨⟨_, rfl, rfl⟩, rfl, callF rfl ⟨L, l, k + 1, j, _, rfl, rfl, ok, by omega, cl_at jl, ?_⟩⟩
  refine ⟨rfl, by decide, d, ?_, sd, rfl, ?_⟩
  · rw [show bAt L l (k + 1) j + on * stp L l = bAt L l (k + 1 + on) j from far.symm, show bAt L l (k + 1) j + (cl l j).2.2 + on * stp L l = bAt L l (k + 1 + on) j + (cl l j).2.2 from by omega]
    exact ed
  · simp
    exact q m (by omega)
theorem ok_law_press_right (T : Txt mg K w.params) : FnG P w K mg base 5 T.f_law_press_right T.fd_law_press_right ["m", "circle", "plain", "work", "date"] (liftSp K 5 (dDateR T.C_Round)) := by
  refine FunD.okG T.F_law_press_right sc_law_press_right lift_len (fun cdv A outer s H vs Q E hA hr h => ⟨_, pss_cons (ps_set (i := 5) sc_law_press_right.nd rfl (.inl rfl) (pe_callX (ok_law_rounds_on T) (hr.mono (by decide)) (by rfl) T.g_law_rounds_on T.F_law_rounds_on.kp (b_law_rounds_on_2 T) pass0 (pa_cons (pv 0) (pa_cons (pe_op op_fdivN (pe_op op_sub (pe_op op_pow (pe_int) (pe_int)) (pv 4)) (pe_callB (call_max2 rfl) (by rfl) T.n_max (by decide +kernel) (pa_cons (pe_ix (ixtK (K := K) rfl) (pv 2) (pe_int) (fun _ _ => rfl)) (pa_cons (pv 3) pa_nil)))) pa_nil))))
 (pss_cons (ps_par (i := 6) (j := 7) (by rfl) sc_law_press_right.nd rfl rfl (by decide) rfl rfl (pa_cons (pe_methX (pv 1) T.cl_Round T.m_Round_at (ok_Round_at T) (hr.mono (by decide)) (b_Round_at_2 T) pass0 (pa_cons (pv 4) pa_nil)) (pa_cons (pe_methX (pv 1) T.cl_Round T.m_Round_at (ok_Round_at T) (hr.mono (by decide)) (b_Round_at_2 T) pass0 (pa_cons (pe_op op_add (pv 4) (pe_op op_mul (pv 5) (pe_callB (call_max2 rfl) (by rfl) T.n_max (by decide +kernel) (pa_cons (pe_ix (ixtK (K := K) rfl) (pv 2) (pe_int) (fun _ _ => rfl)) (pa_cons (pv 3) pa_nil))))) pa_nil)) pa_nil)) (by rfl))
 (pss_cons (ps_if (pt_cmpR op_isN (pv 6) (pe_non) (by first | rfl | exact nomark _)) (pss_one (ps_ret (pe_cmpR op_isN (pv 7) (pe_non) (by first | rfl | exact nomark _)))) (pss_nil))
 (pss_one (ps_ret (pe_cmpR op_eq (pe_callB (reprK (K := K) rfl hA hr.units) (by rfl) T.n_repr (by decide +kernel) (pa_cons (pv 7) pa_nil)) (pe_callB (reprK (K := K) rfl hA hr.units) (by rfl) T.n_repr (by decide +kernel) (pa_cons (pe_op (catAK (K := K) rfl) (pe_tup (pa_cons (pe_op op_add (pe_ix (ixtK (K := K) rfl) (pv 6) (pe_int) (fun _ _ => rfl)) (pv 5)) pa_nil)) (pe_slice (slAK (K := K) rfl) (pv 6) (po_some (pe_int)) po_none)) pa_nil)) (by first | rfl | exact nomark _)))))), body_sim h ?_⟩)
  rintro ts μ Φ xw hl ⟨L, l, date, n, rfl, rfl, ok, dl, d5, q⟩
  have l12 := ok.len
  have L1 := ok.l1
  have L2 := ok.l2
  have s1 := ok.stp
  have s0 := stp_ge L l
  walk_at "st0"
  unfold rndT plnT callsT
  refine rSeq_go ?_
  walk_at "rs"
  rw [p18]
  refine ⟨⟨by decide, by decide, by decide⟩, _, _, rfl, rfl, ?_⟩
  dsimp only
  rw [stp_eq]
  refine ⟨⟨by omega, by omega⟩, rfl, ?_⟩
  rw [Int.fdiv_eq_ediv_of_nonneg _ (by omega)]
  have dm := Int.emod_add_mul_ediv (1000000000000000000 - date) (stp L l)
  have m0 := Int.emod_nonneg (1000000000000000000 - date) (show stp L l ≠ 0 by omega)
  have m1 := Int.emod_lt_of_pos (1000000000000000000 - date) (show 0 < stp L l by omega)
  have dle := Int.ediv_le_self (stp L l) (show 0 ≤ 1000000000000000000 - date by omega)
  have d1 : 1 ≤ (1000000000000000000 - date) / stp L l := by
    rw [Int.le_ediv_iff_mul_le (by omega)]
    omega
  generalize (1000000000000000000 - date) / stp L l = mo at dm dle d1 ⊢
  refine callR rfl rfl ⟨mo, n + 6, rfl, rfl, d1, by omega, fun on m on1 on2 hm => ?_⟩
  have mul : (on : Int) * stp L l ≤ mo * stp L l := Int.mul_le_mul_of_nonneg_right (by omega) (by omega)
  have mul0 : (0 : Int) ≤ (on : Int) * stp L l := Int.mul_nonneg (by omega) (by omega)
  rw [Int.mul_comm] at dm
  walk_at "rs"
  refine rSeq_go ?_
  walk_at "rs"
  refine ⟨⟨_, rfl, rfl⟩, rfl, callF rfl ⟨L, l, date, rfl, rfl, ok, by omega, by omega, ?_⟩⟩
  refine ⟨⟨_, rfl, rfl⟩, _, _, rfl, rfl, ?_⟩
  dsimp only
  rw [stp_eq]
  refine ⟨.inr ⟨by omega, by omega⟩, rfl, callF rfl ⟨L, l, date + on * stp L l, rfl, rfl, ok, by omega, by omega, ?_⟩⟩
  have far := atF_far ok.okr dl on
  cases ea : atF L l date with
  | none =>
    rw [ea] at far
    have h1 : onT L l date = .non := by
      unfold onT
      rw [ea]
    have h2 : onT L l (date + on * stp L l) = .non := by
      unfold onT
      rw [far]
      rfl
    rw [h1, h2]
    refine rSeq_go ?_
    walk_at "rs"
    refine ⟨rfl, iteT' rfl ⟨rfl, ?_⟩⟩
    exact q m (by omega)
  | some p =>
    obtain ⟨t, j⟩ := p
    rw [ea] at far
    obtain ⟨hj, onp1⟩ := atF_some ok.okr ea
    have h1 : onT L l date = .tup [.int t, .int j, .str (cl l j).2.1, .int (bAt L l t j + (cl l j).2.2 - date)] := by
      unfold onT
      rw [ea]
    have bf := bAt_far ok.okr hj dl onp1 on
    have h2 : onT L l (date + on * stp L l) = .tup [.int (t + on), .int j, .str (cl l j).2.1, .int (bAt L l t j + (cl l j).2.2 - date)] := by
      unfold onT
      rw [far]
      show Dl.T.tup [.int ((t + on : Nat) : Int), .int j, .str (cl l j).2.1, .int (bAt L l (t + on) j + (cl l j).2.2 - (date + on * stp L l))] = _
      rw [bf, show bAt L l t j + on * stp L l + (cl l j).2.2 - (date + on * stp L l) = bAt L l t j + (cl l j).2.2 - date from by omega]
      rfl
    rw [h1, h2]
    obtain ⟨o1, o2⟩ := onp1
    obtain ⟨c1, c2, c3, c4, c5⟩ := ok.all _ (List.mem_of_getElem? (cl_at hj))
    have co := ok.okr.come (k := t) hj
    have tL : (t : Int) * 1 ≤ (t : Int) * L := Int.mul_le_mul_of_nonneg_left L1 (by omega)
    have sw := (Sws.cons (.int (show ((t : Int) + on).natAbs < 10 ^ 28 by omega)) (.cons (.int (show (j : Int).natAbs < 10 ^ 28 by omega)) (.cons (.str (nm_ok c3)) (.cons (.int (show (bAt L l t j + (cl l j).2.2 - date).natAbs < 10 ^ 28 by omega)) .nil)))).t
    have ed := sw.is.pd
    have sd := sw.shw (by decide) (by have := nm_len c3; omega)
    refine rSeq_go ?_
    walk_at "rs"
    refine ⟨rfl, iteF' rfl ?_⟩
    refine ⟨_, ed, sd, _, _, rfl, rfl, rfl, by decide, _, rfl, ?_⟩
    refine ⟨_, _, rfl, rfl, by show 1 + 3 ≤ 1000000; decide, _, ed, sd, rfl, ?_⟩
    simp
    exact q m (by omega)
end
end K

set_option maxRecDepth 100000
set_option maxHeartbeats 4000000
set_option synthInstance.maxSize 100000
set_option synthInstance.maxHeartbeats 4000000
namespace K
open PySem PySem.Spec PyProof.Rows L2 Gd
local macro_rules | `(tactic| walk_at "mulok") => `(tactic| first | exact Or.inr ⟨by decide, by decide⟩ | exact Or.inl ⟨by decide, by decide⟩ | exact Or.inr ⟨by omega, by omega⟩ | exact Or.inl ⟨by omega, by omega⟩)
local macro_rules | `(tactic| walk_at "st") => `(tactic| first
  | refine ⟨_, rfl, ?_⟩
  | refine ⟨_, _, rfl, rfl, (by walk_at "mulok"), ?_⟩
  | refine ⟨_, _, rfl, rfl, (by show (0 : Int) < _; decide), ?_⟩
  | refine ⟨_, _, rfl, rfl, ⟨by decide, by decide⟩, ?_⟩
  | refine ⟨_, _, rfl, rfl, ?_⟩)
local macro_rules | `(tactic| walk_at "st0") => `(tactic| simp only [List.map_cons, List.map_nil, List.append_nil, List.cons_append, List.nil_append, List.length_cons, List.length_nil, Nat.reduceSub, Nat.reduceAdd, Nat.sub_self, List.replicate])
local macro_rules | `(tactic| walk_at "rd") => `(tactic| dsimp only [Dl.rRet, Dl.rRetN, Dl.rIfS, Dl.rSeq, Dl.rNext, Dl.rDrop, Dl.rAsg, Dl.rName, Dl.rPar, Dl.rPar3, Dl.rAndV, Dl.rOrV, Dl.rNotV, Dl.dIsi, Dl.dDivmod, Dl.mput, Dl.rUn, Dl.rGset, Dl.rFrz, Dl.rAnd, Dl.rOr, Dl.rNot, Dl.rTest, Dl.rTru, Dl.rIf, Dl.rOp, Dl.rOpL, Dl.rCB, Dl.rCBL, Dl.rCons, Dl.rNil, Dl.rVar, Dl.rC, Dl.rStr, Dl.d1, Dl.fTyp, Dl.fLenS, Dl.fLenQ, Dl.fAll, Dl.fSum, Dl.fRepr, Dl.fTupOf, Dl.dTy, Dl.nb, Dl.dInT, Dl.dIn, Dl.dN, Dl.dEq, Dl.dEqD, Dl.dI0, Dl.dIC, Dl.dCat, Dl.dCatL, Dl.dCatS, Dl.dCatT, Dl.dIxL, Dl.dIxT, Dl.dIxS, Dl.rChain, Dl.rChain3, Dl.rTup, Dl.rLst, Dl.rFroz, Dl.rKeep, Dl.rFld, Dl.rBM, Dl.dAppend, Dl.dReverse, Dl.dClear, Dl.dExtend, Dl.rCK, Dl.fMinD, Dl.rCall, Dl.rCall0, Dl.rMeth, Dl.rMeth0, Dl.rMethN0, Dl.rMake, Dl.rMake0, Dl.rSetF, Dl.rGtup, Dl.rGcons, Dl.rGnil, Dl.rIlst, Dl.rItup, Dl.rIenum, Dl.rIenumT, Dl.rIzip, Dl.rIzip3, Dl.rSlcL, Dl.rSlcT, Dl.rSlcS, Dl.rNoPart, Dl.rPart, Dl.dSS, Dl.dII, Dl.dListOf, Dl.dSortI, Dl.rtD, Dl.rtL, List.map_cons, List.map_nil, List.length_cons, List.length_nil, List.cons_append, List.nil_append, List.append_nil, List.replicate, Nat.reduceSub, Nat.reduceAdd, Nat.sub_self, Nat.sub_zero, List.getElem?_cons_zero, List.getElem?_cons_succ, List.set_cons_zero, List.set_cons_succ, List.take_succ_cons, List.take_zero, List.take_nil, Dl.view, Dl.T.tyn, Dl.T.isN, Dl.T.sc, Dl.T.flat, Dl.flats])
local macro_rules | `(tactic| walk_at "rs") => `(tactic| dsimp only [Dl.rRet, Dl.rRetN, Dl.rIfS, Dl.rNext, Dl.rDrop, Dl.rAsg, Dl.rName, Dl.rPar, Dl.rPar3, Dl.rAndV, Dl.rOrV, Dl.rNotV, Dl.dIsi, Dl.dDivmod, Dl.mput, Dl.rUn, Dl.rGset, Dl.rFrz, Dl.rAnd, Dl.rOr, Dl.rNot, Dl.rTest, Dl.rTru, Dl.rIf, Dl.rOp, Dl.rOpL, Dl.rCB, Dl.rCBL, Dl.rCons, Dl.rNil, Dl.rVar, Dl.rC, Dl.rStr, Dl.d1, Dl.fTyp, Dl.fLenS, Dl.fLenQ, Dl.fAll, Dl.fSum, Dl.fRepr, Dl.fTupOf, Dl.dTy, Dl.nb, Dl.dInT, Dl.dIn, Dl.dN, Dl.dEq, Dl.dEqD, Dl.dI0, Dl.dIC, Dl.dCat, Dl.dCatL, Dl.dCatS, Dl.dCatT, Dl.dIxL, Dl.dIxT, Dl.dIxS, Dl.rChain, Dl.rChain3, Dl.rTup, Dl.rLst, Dl.rFroz, Dl.rKeep, Dl.rFld, Dl.rBM, Dl.dAppend, Dl.dReverse, Dl.dClear, Dl.dExtend, Dl.rCK, Dl.fMinD, Dl.rCall, Dl.rCall0, Dl.rMeth, Dl.rMeth0, Dl.rMethN0, Dl.rMake, Dl.rMake0, Dl.rSetF, Dl.rGtup, Dl.rGcons, Dl.rGnil, Dl.rIlst, Dl.rItup, Dl.rIenum, Dl.rIenumT, Dl.rIzip, Dl.rIzip3, Dl.rSlcL, Dl.rSlcT, Dl.rSlcS, Dl.rNoPart, Dl.rPart, Dl.dSS, Dl.dII, Dl.dListOf, Dl.dSortI, Dl.rtD, Dl.rtL, List.map_cons, List.map_nil, List.length_cons, List.length_nil, List.cons_append, List.nil_append, List.append_nil, List.replicate, Nat.reduceSub, Nat.reduceAdd, Nat.sub_self, Nat.sub_zero, List.getElem?_cons_zero, List.getElem?_cons_succ, List.set_cons_zero, List.set_cons_succ, List.take_succ_cons, List.take_zero, List.take_nil, Dl.view, Dl.T.tyn, Dl.T.isN, Dl.T.sc, Dl.T.flat, Dl.flats])
open Dl Rm
theorem fov_unique {L : Int} {l : List Cal} (ok : OkC L l) {top : Int} {k j : Nat} (hj : j < l.length) (lt : L < tot l) (hw : top < wtn L l (k * L + (cl l j).1)) (least : ∀ (k2 j2 : Nat), j2 < l.length → top < wtn L l (k2 * L + (cl l j2).1) → (k : Int) * L + (cl l j).1 ≤ k2 * L + (cl l j2).1) : fov L l top = some (k * L + (cl l j).1) := by
  cases e : fov L l top with
  | none =>
    have := (fov_none ok e).1
    omega
  | some h =>
    obtain ⟨⟨k2, j2, hj2, eh⟩, hw2, _, least2⟩ := fov_some ok e
    have a := least2 k j hj hw
    have b := least k2 j2 hj2 (by rw [← eh]; exact hw2)
    congr 1
    omega
/-- so much more asked: so many rounds later -/
theorem fov_far {L : Int} {l : List Cal} (ok : OkC L l) {top h : Int} (lt : L < tot l) (e : fov L l top = some h) (h2 : 2 * L ≤ h) (r : Nat) : fov L l (top + r * (tot l - L)) = some (h + r * L) := by
  have L1 := ok.l1
  obtain ⟨⟨k, j, hj, eh⟩, hw, _, least⟩ := fov_some ok e
  have mx : max 0 (tot l - L) = tot l - L := by omega
  have eq : h + r * L = ((k + r : Nat) : Int) * L + (cl l j).1 := by
    rw [eh, Int.natCast_add, Int.add_mul]
    omega
  have far := wtn_far ok.okr (h := h) (by omega) r
  rw [mx] at far
  rw [eq]
  refine fov_unique ok hj lt (by rw [← eq, far]; omega) fun k2 j2 hj2 hw2 => ?_
  rw [← eq]
  have cb := ok.all _ (List.mem_of_getElem? (cl_at hj2))
  have r0 : (0 : Int) ≤ (r : Int) * (tot l - L) := Int.mul_nonneg (by omega) (by omega)
  -- a call of the first two rounds does not wait so much
  have low : ∀ k3 : Nat, k3 < 2 → wtn L l (k3 * L + (cl l j2).1) ≤ top := fun k3 hk3 => by
    by_cases z : wtn L l (k3 * L + (cl l j2).1) ≤ top
    · exact z
    · have := least k3 j2 hj2 (by omega)
      have : (k3 : Int) * L ≤ 1 * L := Int.mul_le_mul_of_nonneg_right (by omega) (by omega)
      omega
  by_cases hk : k2 < 2
  · have := low k2 hk
    omega
  obtain ⟨q, rfl⟩ : ∃ q, k2 = q + 1 := ⟨k2 - 1, by omega⟩
  have e2 : ((q + 1 : Nat) : Int) * L + (cl l j2).1 = L + (cl l j2).1 + q * L := by
    rw [mul1]
    omega
  have far2 := wtn_far ok.okr (h := L + (cl l j2).1) (by omega) q
  rw [mx] at far2
  have l1 := low 1 (by decide)
  rw [show ((1 : Nat) : Int) * L + (cl l j2).1 = L + (cl l j2).1 from by omega] at l1
  by_cases z : q ≤ r
  · have : (q : Int) * (tot l - L) ≤ (r : Int) * (tot l - L) := Int.mul_le_mul_of_nonneg_right (by omega) (by omega)
    rw [e2, far2] at hw2
    omega
  · obtain ⟨d, rfl⟩ : ∃ d, q = r + d := ⟨q - r, by omega⟩
    have e3 : ((r + d + 1 : Nat) : Int) * L + (cl l j2).1 = ((d + 1 : Nat) : Int) * L + (cl l j2).1 + r * L := by
      rw [mul1, mul1, Int.natCast_add, Int.add_mul]
      omega
    have d0 : (0 : Int) ≤ (d : Int) * L := Int.mul_nonneg (by omega) (by omega)
    have far3 := wtn_far ok.okr (h := ((d + 1 : Nat) : Int) * L + (cl l j2).1) (by rw [mul1]; omega) r
    rw [mx] at far3
    rw [e3, far3] at hw2
    have := least (d + 1) j2 hj2 (by omega)
    omega
section
variable {P : Program} {w : World} {K : PySem.W.Frag} {mg : PySem.Str → Option Value} {base : Heap}
theorem ok_law_waits_right (T : Txt mg K w.params) : FnG P w K mg base 8 T.f_law_waits_right T.fd_law_waits_right ["m", "circle", "plain", "work", "date"] (liftSp K 5 (dDateR T.C_Round)) := by
  refine FunD.okG T.F_law_waits_right sc_law_waits_right lift_len (fun cdv A outer s H vs Q E hA hr h => ⟨_, pss_cons (ps_set (i := 5) sc_law_waits_right.nd rfl (.inl rfl) (pe_ix (ixtK (K := K) rfl) (pv 2) (pe_int) (fun _ _ => rfl)))
 (pss_cons (ps_set (i := 6) sc_law_waits_right.nd rfl (.inl rfl) (pe_callX (ok_law_rounds_on T) (hr.mono (by decide)) (by rfl) T.g_law_rounds_on T.F_law_rounds_on.kp (b_law_rounds_on_2 T) pass0 (pa_cons (pv 0) (pa_cons (pe_op op_fdivN (pe_op op_sub (pe_op op_pow (pe_int) (pe_int)) (pv 4)) (pv 5)) pa_nil))))
 (pss_cons (ps_set (i := 7) sc_law_waits_right.nd rfl (.inl rfl) (pe_lst (pa_cons (pe_methX (pv 1) T.cl_Round T.m_Round_waiting (ok_Round_waiting T) (hr.mono (by decide)) (b_Round_waiting_2 T) pass0 (pa_cons (pe_op op_add (pv 4) (pe_op op_mul (pv 6) (pv 5))) pa_nil)) (pa_cons (pe_methX (pv 1) T.cl_Round T.m_Round_idle (ok_Round_idle T) (hr.mono (by decide)) (b_Round_idle_2 T) pass0 (pa_cons (pe_op op_add (pv 4) (pe_op op_mul (pv 6) (pv 5))) pa_nil)) pa_nil))))
 (pss_cons (ps_set (i := 8) sc_law_waits_right.nd rfl (.inl rfl) (Dl.pe_keep (pe_lst (pa_cons (pe_op op_add (pe_methX (pv 1) T.cl_Round T.m_Round_waiting (ok_Round_waiting T) (hr.mono (by decide)) (b_Round_waiting_2 T) pass0 (pa_cons (pv 4) pa_nil)) (pe_op op_mul (pv 6) (pe_callB (call_max2 rfl) (by rfl) T.n_max (by decide +kernel) (pa_cons (pe_int) (pa_cons (pe_op op_sub (pv 3) (pv 5)) pa_nil))))) pa_nil))))
 (pss_cons (ps_expr (bmK (K := K) rfl PySem.F.plainAttrs_list PySem.F.slot_list_append PySem.F.type_list_append mt_append (pv 8) (pa_cons (pe_op op_add (pe_methX (pv 1) T.cl_Round T.m_Round_idle (ok_Round_idle T) (hr.mono (by decide)) (b_Round_idle_2 T) pass0 (pa_cons (pv 4) pa_nil)) (pe_op op_mul (pv 6) (pe_callB (call_max2 rfl) (by rfl) T.n_max (by decide +kernel) (pa_cons (pe_int) (pa_cons (pe_op op_sub (pv 5) (pv 3)) pa_nil))))) pa_nil)))
 (pss_one (ps_ret (pe_cmpR op_eq (pe_callB (reprK (K := K) rfl hA hr.units) (by rfl) T.n_repr (by decide +kernel) (pa_cons (pv 7) pa_nil)) (pe_callB (reprK (K := K) rfl hA hr.units) (by rfl) T.n_repr (by decide +kernel) (pa_cons (pv 8) pa_nil)) (by first | rfl | exact nomark _)))))))), body_sim h ?_⟩)
  rintro ts μ Φ xw hl ⟨L, l, date, n, rfl, rfl, ok, dl, d5, q⟩
  have l12 := ok.len
  have L1 := ok.l1
  have L2 := ok.l2
  have t1 := ok.tot
  have t0 := tot_pos (l := l) fun c hc => by have := (ok.all c hc).2.2.2.1; omega
  walk_at "st0"
  unfold rndT plnT callsT
  refine rSeq_go ?_
  walk_at "rs"
  refine ⟨_, _, rfl, rfl, rSeq_go ?_⟩
  walk_at "rs"
  rw [p18]
  refine ⟨⟨by decide, by decide, by decide⟩, ⟨by omega, by omega⟩, rfl, ?_⟩
  rw [Int.fdiv_eq_ediv_of_nonneg _ (by omega)]
  have dm := Int.emod_add_mul_ediv (1000000000000000000 - date) L
  have m0 := Int.emod_nonneg (1000000000000000000 - date) (show L ≠ 0 by omega)
  have m1 := Int.emod_lt_of_pos (1000000000000000000 - date) (show 0 < L by omega)
  have dle := Int.ediv_le_self L (show 0 ≤ 1000000000000000000 - date by omega)
  have d1 : 1 ≤ (1000000000000000000 - date) / L := by
    rw [Int.le_ediv_iff_mul_le (by omega)]
    omega
  generalize (1000000000000000000 - date) / L = mo at dm dle d1 ⊢
  refine callR rfl rfl ⟨mo, n + 6, rfl, rfl, d1, by omega, fun on m on1 on2 hm => ?_⟩
  have mul : (on : Int) * L ≤ mo * L := Int.mul_le_mul_of_nonneg_right (by omega) (by omega)
  have mul0 : (0 : Int) ≤ (on : Int) * L := Int.mul_nonneg (by omega) (by omega)
  rw [Int.mul_comm] at dm
  walk_at "rs"
  refine rSeq_go ?_
  walk_at "rs"
  refine ⟨⟨_, rfl, rfl⟩, .inr ⟨by omega, by omega⟩, rfl, callF rfl ⟨L, l, date + on * L, rfl, rfl, ok, by omega, by omega, ?_⟩⟩
  refine ⟨⟨_, rfl, rfl⟩, .inr ⟨by omega, by omega⟩, rfl, callF rfl ⟨L, l, date + on * L, rfl, rfl, ok, by omega, by omega, ?_⟩⟩
  refine ⟨rfl, by decide, rSeq_go ?_⟩
  walk_at "rs"
  refine ⟨⟨_, rfl, rfl⟩, rfl, callF rfl ⟨L, l, date, rfl, rfl, ok, by omega, by omega, ?_⟩⟩
  dsimp only
  rw [mx_eq]
  refine ⟨.inr ⟨by omega, by omega⟩, rfl, by decide, rSeq_go ?_⟩
  walk_at "rs"
  refine ⟨rfl, ⟨_, rfl, rfl⟩, rfl, callF rfl ⟨L, l, date, rfl, rfl, ok, by omega, by omega, ?_⟩⟩
  dsimp only
  rw [mx_eq]
  refine ⟨.inr ⟨by omega, by omega⟩, _, rfl, rfl, by show 1 < 1000000; decide, ?_⟩
  walk_at "rs"
  have wf := wtn_far ok.okr dl on
  have idf := idl_far ok.okr dl on
  have a := ok.dnB (h := date + on * L) (by omega) (by omega)
  have b := ok.cmB (h := date + on * L) (by omega) (by omega)
  obtain ⟨d, ed, sd⟩ := sw_ii (i := wtn L l (date + on * L)) (j := idl L l (date + on * L)) (by unfold wtn; omega) (by unfold idl; omega)
  refine ⟨d, ed, sd, d, ?_, sd, rfl, ?_⟩
  · show (Dl.T.lst [.int (wtn L l date + on * max 0 (tot l - L)), .int (idl L l date + on * max 0 (L - tot l))]).pd = some d
    rw [← wf, ← idf]
    exact ed
  · simp
    exact q m (by omega)
theorem ok_law_many_right (T : Txt mg K w.params) : FnG P w K mg base 8 T.f_law_many_right T.fd_law_many_right ["m", "circle", "plain", "work", "date"] (liftSp K 5 (dDateR T.C_Round)) := by
  refine FunD.okG T.F_law_many_right sc_law_many_right lift_len (fun cdv A outer s H vs Q E hA hr h => ⟨_, pss_cons (ps_par (i := 5) (j := 6) (by rfl) sc_law_many_right.nd rfl rfl (by decide) rfl rfl (pa_cons (pe_callB (call_max2 rfl) (by rfl) T.n_max (by decide +kernel) (pa_cons (pe_int) (pa_cons (pe_op op_sub (pv 3) (pe_ix (ixtK (K := K) rfl) (pv 2) (pe_int) (fun _ _ => rfl))) pa_nil))) (pa_cons (pe_op op_mul (pe_ix (ixtK (K := K) rfl) (pv 2) (pe_int) (fun _ _ => rfl)) (pe_ifExp (pt_cmpR op_gt (pv 3) (pe_ix (ixtK (K := K) rfl) (pv 2) (pe_int) (fun _ _ => rfl)) (by first | rfl | exact nomark _)) (pv 3) (pe_int))) pa_nil)) (by rfl))
 (pss_cons (ps_set (i := 7) sc_law_many_right.nd rfl (.inl rfl) (pe_callX (ok_law_rounds_on T) (hr.mono (by decide)) (by rfl) T.g_law_rounds_on T.F_law_rounds_on.kp (b_law_rounds_on_2 T) pass0 (pa_cons (pv 0) (pa_cons (pe_op op_fdivN (pe_op op_sub (pe_op op_pow (pe_int) (pe_int)) (pv 4)) (pv 6)) pa_nil))))
 (pss_cons (ps_set (i := 8) sc_law_many_right.nd rfl (.inl rfl) (pe_op op_add (pe_methX (pv 1) T.cl_Round T.m_Round_how_many (ok_Round_how_many T) (hr.mono (by decide)) (b_Round_how_many_2 T) pass0 (pa_cons (pv 4) pa_nil)) (pe_op op_mul (pe_op op_mul (pv 7) (pe_callB (lenK (K := K) rfl) (by rfl) T.n_len (by decide +kernel) (pa_cons (pe_ix (ixtK (K := K) rfl) (pv 2) (pe_int) (fun _ _ => rfl)) pa_nil))) (pv 5))))
 (pss_one (ps_ret (pe_cmpR op_eq (pe_callB (reprK (K := K) rfl hA hr.units) (by rfl) T.n_repr (by decide +kernel) (pa_cons (pe_methX (pv 1) T.cl_Round T.m_Round_how_many (ok_Round_how_many T) (hr.mono (by decide)) (b_Round_how_many_2 T) pass0 (pa_cons (pe_op op_add (pv 4) (pe_op op_mul (pv 7) (pv 6))) pa_nil)) pa_nil)) (pe_callB (reprK (K := K) rfl hA hr.units) (by rfl) T.n_repr (by decide +kernel) (pa_cons (pv 8) pa_nil)) (by first | rfl | exact nomark _)))))), body_sim h ?_⟩)
  rintro ts μ Φ xw hl ⟨L, l, date, n, rfl, rfl, ok, dl, d5, q⟩
  have l12 := ok.len
  have L1 := ok.l1
  have L2 := ok.l2
  have t1 := ok.tot
  have t0 := tot_pos (l := l) fun c hc => by have := (ok.all c hc).2.2.2.1; omega
  walk_at "st0"
  unfold rndT plnT callsT
  obtain ⟨lg, elg⟩ : ∃ lg, L * (if L < tot l then tot l else 1) = lg := ⟨_, rfl⟩
  have lg1 : 1 ≤ lg ∧ lg ≤ 12000000 := by
    rw [← elg]
    split
    · exact ⟨Int.mul_le_mul (a := 1) (b := 1) (by omega) (by omega) (by omega) (by omega), Int.mul_le_mul (a := L) (b := tot l) (c := 1000) (d := 12000) (by omega) (by omega) (by omega) (by omega)⟩
    · omega
  refine rSeq_cut (fun ρ μ => ρ = [some (.rs 0), some (.obj T.C_Round (rfs L l)), some (.tup [.int L, .tup (l.map callT)]), some (.int (tot l)), some (.int date), some (.int (max 0 (tot l - L))), some (.int lg), none, none] ∧ μ = [.drw nxt (n + 10)]) (fun N hN => ?_) ?_
  · walk_at "rs"
    refine ⟨_, _, rfl, rfl, ?_⟩
    dsimp only
    rw [mx_eq]
    refine ⟨_, _, rfl, rfl, _, _, rfl, rfl, ?_⟩
    by_cases z : L < tot l
    · rw [if_pos z] at elg
      refine iteT' (decide_eq_true z) ⟨.inr ⟨by omega, by omega⟩, ?_⟩
      rw [elg]
      exact hN _ _ ⟨rfl, rfl⟩
    · rw [if_neg z] at elg
      refine iteF' (decide_eq_false z) ⟨.inr ⟨by omega, by omega⟩, ?_⟩
      rw [elg]
      exact hN _ _ ⟨rfl, rfl⟩
  rintro ρ μ ⟨rfl, rfl⟩
  refine rSeq_go ?_
  walk_at "rs"
  rw [p18]
  refine ⟨⟨by decide, by decide, by decide⟩, ⟨by omega, by omega⟩, rfl, ?_⟩
  rw [Int.fdiv_eq_ediv_of_nonneg _ (by omega)]
  have dm := Int.emod_add_mul_ediv (1000000000000000000 - date) lg
  have m0 := Int.emod_nonneg (1000000000000000000 - date) (show lg ≠ 0 by omega)
  have m1 := Int.emod_lt_of_pos (1000000000000000000 - date) (show 0 < lg by omega)
  have dle := Int.ediv_le_self lg (show 0 ≤ 1000000000000000000 - date by omega)
  have d1 : 1 ≤ (1000000000000000000 - date) / lg := by
    rw [Int.le_ediv_iff_mul_le (by omega)]
    omega
  generalize (1000000000000000000 - date) / lg = mo at dm dle d1 ⊢
  refine callR rfl rfl ⟨mo, n + 6, rfl, rfl, d1, by omega, fun on m on1 on2 hm => ?_⟩
  have mul : (on : Int) * lg ≤ mo * lg := Int.mul_le_mul_of_nonneg_right (by omega) (by omega)
  have mul0 : (0 : Int) ≤ (on : Int) * lg := Int.mul_nonneg (by omega) (by omega)
  rw [Int.mul_comm] at dm
  walk_at "rs"
  refine rSeq_go ?_
  walk_at "rs"
  refine ⟨⟨_, rfl, rfl⟩, rfl, callF rfl ⟨L, l, date, rfl, rfl, ok, by omega, by omega, ?_⟩⟩
  refine ⟨_, _, rfl, rfl, ?_⟩
  dsimp only
  rw [List.length_map]
  refine ⟨.inr ⟨by omega, by omega⟩, .inr ⟨by omega, by omega⟩, ?_⟩
  refine ⟨⟨_, rfl, rfl⟩, .inr ⟨by omega, by omega⟩, rfl, callF rfl ⟨L, l, date + on * lg, rfl, rfl, ok, by omega, by omega, ?_⟩⟩
  have hf := hmn_far ok.okr dl on
  rw [elg] at hf
  have a := ok.hmB (h := date + on * lg) (by omega) (by omega)
  have sw := Sw.int (i := hmn L l (date + on * lg)) (show (hmn L l (date + on * lg)).natAbs < 10 ^ 28 by omega)
  refine ⟨_, sw.is.pd, sw.shw (by decide) (by decide), _, ?_, sw.shw (by decide) (by decide), rfl, ?_⟩
  · show (Dl.T.int (hmn L l date + on * (l.length : Nat) * max 0 (tot l - L))).pd = _
    rw [← hf]
    exact sw.is.pd
  · simp
    exact q m (by omega)
theorem ok_law_over_right (T : Txt mg K w.params) : FnG P w K mg base 9 T.f_law_over_right T.fd_law_over_right ["m", "circle", "plain", "work"] (liftSp K 4 (dOverR T.C_Round)) := by
  refine FunD.okG T.F_law_over_right sc_law_over_right lift_len (fun cdv A outer s H vs Q E hA hr h => ⟨_, pss_cons (ps_par (i := 4) (j := 5) (by rfl) sc_law_over_right.nd rfl rfl (by decide) rfl rfl (pa_cons (pe_op op_sub (pv 3) (pe_ix (ixtK (K := K) rfl) (pv 2) (pe_int) (fun _ _ => rfl))) (pa_cons (pe_ix (ixlK (K := K) rfl) (pe_lst (pa_cons (pe_callX (ok_law_draw T) (hr.mono (by decide)) (by rfl) T.g_law_draw T.F_law_draw.kp (b_law_draw_2 T) pass0 (pa_cons (pv 0) (pa_cons (pe_op op_add (pe_op op_mul (pe_int) (pv 3)) (pe_int)) pa_nil))) (pa_cons (pe_callX (ok_law_draw T) (hr.mono (by decide)) (by rfl) T.g_law_draw T.F_law_draw.kp (b_law_draw_2 T) pass0 (pa_cons (pv 0) (pa_cons (pe_op op_pow (pe_int) (pe_int)) pa_nil))) pa_nil))) (pe_callX (ok_law_draw T) (hr.mono (by decide)) (by rfl) T.g_law_draw T.F_law_draw.kp (b_law_draw_2 T) pass0 (pa_cons (pv 0) (pa_cons (pe_int) pa_nil))) (fun _ _ => rfl)) pa_nil)) (by rfl))
 (pss_cons (ps_if (pt_cmpR op_le (pv 4) (pe_int) (by first | rfl | exact nomark _)) (pss_one (ps_ret (pe_bl))) (pss_nil))
 (pss_cons (ps_par (i := 6) (j := 7) (by rfl) sc_law_over_right.nd rfl rfl (by decide) rfl rfl (pa_cons (pe_methX (pv 1) T.cl_Round T.m_Round_first_over (ok_Round_first_over T) (hr.mono (by decide)) (b_Round_first_over_2 T) pass0 (pa_cons (pv 5) pa_nil)) (pa_cons (pe_callX (ok_law_rounds_on T) (hr.mono (by decide)) (by rfl) T.g_law_rounds_on T.F_law_rounds_on.kp (b_law_rounds_on_2 T) pass0 (pa_cons (pv 0) (pa_cons (pe_op op_fdivN (pe_op op_sub (pe_op op_pow (pe_int) (pe_int)) (pv 5)) (pv 4)) pa_nil))) pa_nil)) (by rfl))
 (pss_cons (ps_if (pt_cmpR op_lt (pv 6) (pe_op op_mul (pe_int) (pe_ix (ixtK (K := K) rfl) (pv 2) (pe_int) (fun _ _ => rfl))) (by first | rfl | exact nomark _)) (pss_one (ps_ret (pe_bl))) (pss_nil))
 (pss_cons (ps_set (i := 8) sc_law_over_right.nd rfl (.inl rfl) (pe_op op_add (pv 6) (pe_op op_mul (pv 7) (pe_ix (ixtK (K := K) rfl) (pv 2) (pe_int) (fun _ _ => rfl)))))
 (pss_one (ps_ret (pe_cmpR op_eq (pe_callB (reprK (K := K) rfl hA hr.units) (by rfl) T.n_repr (by decide +kernel) (pa_cons (pe_methX (pv 1) T.cl_Round T.m_Round_first_over (ok_Round_first_over T) (hr.mono (by decide)) (b_Round_first_over_2 T) pass0 (pa_cons (pe_op op_add (pv 5) (pe_op op_mul (pv 7) (pv 4))) pa_nil)) pa_nil)) (pe_callB (reprK (K := K) rfl hA hr.units) (by rfl) T.n_repr (by decide +kernel) (pa_cons (pv 8) pa_nil)) (by first | rfl | exact nomark _)))))))), body_sim h ?_⟩)
  rintro ts μ Φ xw hl ⟨L, l, n, rfl, rfl, ok, q⟩
  have l12 := ok.len
  have L1 := ok.l1
  have L2 := ok.l2
  have t1 := ok.tot
  have t0 := tot_pos (l := l) fun c hc => by have := (ok.all c hc).2.2.2.1; omega
  walk_at "st0"
  unfold rndT plnT callsT
  refine rSeq_go ?_
  walk_at "rs"
  refine ⟨_, _, rfl, rfl, .inl ⟨by decide, by decide⟩, rfl, drawR rfl (by omega) (by omega) (by omega) fun v0 v00 v01 => ?_⟩
  walk_at "rs"
  refine ⟨⟨by decide, by decide, by decide⟩, rfl, drawR rfl (by omega) (by decide) (by decide) fun v1 v10 v11 => ?_⟩
  walk_at "rs"
  rw [p6] at v11
  refine ⟨rfl, by decide, rfl, drawR rfl (by omega) (by decide) (by decide) fun v2 v20 v21 => ?_⟩
  walk_at "rs"
  obtain ⟨top, hc, e⟩ := at_intT (cs := [v0, v1]) v20 v21
  simp only [List.mem_cons, List.not_mem_nil, or_false] at hc
  refine ⟨_, .int top, rfl, e, ?_⟩
  refine rSeq_go ?_
  walk_at "rs"
  by_cases ov : tot l - L ≤ 0
  · exact iteT' (decide_eq_true ov) (q _ (by omega))
  refine iteF' (decide_eq_false ov) (rSeq_go ?_)
  walk_at "rs"
  refine ⟨⟨_, rfl, rfl⟩, rfl, callF rfl ⟨L, l, top, rfl, rfl, ok, by omega, by omega, ?_⟩⟩
  cases fe : fov L l top with
  | none =>
    have := (fov_none ok fe).1
    omega
  | some f =>
    unfold optT
    walk_at "rs"
    rw [p18]
    refine ⟨⟨by decide, by decide, by decide⟩, ⟨by omega, by omega⟩, rfl, ?_⟩
    rw [Int.fdiv_eq_ediv_of_nonneg _ (by omega)]
    have dm := Int.emod_add_mul_ediv (1000000000000000000 - top) (tot l - L)
    have m0 := Int.emod_nonneg (1000000000000000000 - top) (show tot l - L ≠ 0 by omega)
    have m1 := Int.emod_lt_of_pos (1000000000000000000 - top) (show 0 < tot l - L by omega)
    have dle := Int.ediv_le_self (tot l - L) (show 0 ≤ 1000000000000000000 - top by omega)
    have d1 : 1 ≤ (1000000000000000000 - top) / (tot l - L) := by
      rw [Int.le_ediv_iff_mul_le (by omega)]
      omega
    generalize (1000000000000000000 - top) / (tot l - L) = mo at dm dle d1 ⊢
    refine callR rfl rfl ⟨mo, n + 3, rfl, rfl, d1, by omega, fun on m on1 on2 hm => ?_⟩
    have mul : (on : Int) * (tot l - L) ≤ mo * (tot l - L) := Int.mul_le_mul_of_nonneg_right (by omega) (by omega)
    have mul0 : (0 : Int) ≤ (on : Int) * (tot l - L) := Int.mul_nonneg (by omega) (by omega)
    rw [Int.mul_comm] at dm
    walk_at "rs"
    refine rSeq_go ?_
    walk_at "rs"
    refine ⟨_, _, rfl, rfl, .inl ⟨by decide, by decide⟩, ?_⟩
    by_cases f2 : f < 2 * L
    · exact iteT' (decide_eq_true f2) (q _ (by omega))
    refine iteF' (decide_eq_false f2) (rSeq_go ?_)
    walk_at "rs"
    refine ⟨_, _, rfl, rfl, .inr ⟨by omega, by omega⟩, ?_⟩
    have far := fov_far ok (by omega) fe (by omega) on
    have fb := fov_bd ok (by omega) (by omega) far
    refine ⟨⟨_, rfl, rfl⟩, .inr ⟨by omega, by omega⟩, rfl, callF rfl ⟨L, l, top + on * (tot l - L), rfl, rfl, ok, by omega, by omega, ?_⟩⟩
    rw [far]
    have sw := Sw.int (i := f + on * L) (show (f + on * L).natAbs < 10 ^ 28 by omega)
    refine ⟨_, sw.is.pd, sw.shw (by decide) (by decide), _, sw.is.pd, sw.shw (by decide) (by decide), rfl, ?_⟩
    simp
    exact q m (by omega)
end
end K

set_option maxRecDepth 100000
set_option maxHeartbeats 4000000
set_option synthInstance.maxSize 100000
set_option synthInstance.maxHeartbeats 4000000
namespace K
open PySem PySem.Spec PyProof.Rows L2 Gd
local macro_rules | `(tactic| walk_at "mulok") => `(tactic| first | exact Or.inr ⟨by decide, by decide⟩ | exact Or.inl ⟨by decide, by decide⟩ | exact Or.inr ⟨by omega, by omega⟩ | exact Or.inl ⟨by omega, by omega⟩)
local macro_rules | `(tactic| walk_at "st") => `(tactic| first
  | refine ⟨_, rfl, ?_⟩
  | refine ⟨_, _, rfl, rfl, (by walk_at "mulok"), ?_⟩
  | refine ⟨_, _, rfl, rfl, (by show (0 : Int) < _; decide), ?_⟩
  | refine ⟨_, _, rfl, rfl, ⟨by decide, by decide⟩, ?_⟩
  | refine ⟨_, _, rfl, rfl, ?_⟩)
local macro_rules | `(tactic| walk_at "st0") => `(tactic| simp only [List.map_cons, List.map_nil, List.append_nil, List.cons_append, List.nil_append, List.length_cons, List.length_nil, Nat.reduceSub, Nat.reduceAdd, Nat.sub_self, List.replicate])
local macro_rules | `(tactic| walk_at "rd") => `(tactic| dsimp only [Dl.rRet, Dl.rRetN, Dl.rIfS, Dl.rSeq, Dl.rNext, Dl.rDrop, Dl.rAsg, Dl.rName, Dl.rPar, Dl.rPar3, Dl.rAndV, Dl.rOrV, Dl.rNotV, Dl.dIsi, Dl.dDivmod, Dl.mput, Dl.rUn, Dl.rGset, Dl.rFrz, Dl.rAnd, Dl.rOr, Dl.rNot, Dl.rTest, Dl.rTru, Dl.rIf, Dl.rOp, Dl.rOpL, Dl.rCB, Dl.rCBL, Dl.rCons, Dl.rNil, Dl.rVar, Dl.rC, Dl.rStr, Dl.d1, Dl.fTyp, Dl.fLenS, Dl.fLenQ, Dl.fAll, Dl.fSum, Dl.fRepr, Dl.fTupOf, Dl.dTy, Dl.nb, Dl.dInT, Dl.dIn, Dl.dN, Dl.dEq, Dl.dEqD, Dl.dI0, Dl.dIC, Dl.dCat, Dl.dCatL, Dl.dCatS, Dl.dCatT, Dl.dIxL, Dl.dIxT, Dl.dIxS, Dl.rChain, Dl.rChain3, Dl.rTup, Dl.rLst, Dl.rFroz, Dl.rKeep, Dl.rFld, Dl.rBM, Dl.dAppend, Dl.dReverse, Dl.dClear, Dl.dExtend, Dl.rCK, Dl.fMinD, Dl.rCall, Dl.rCall0, Dl.rMeth, Dl.rMeth0, Dl.rMethN0, Dl.rMake, Dl.rMake0, Dl.rSetF, Dl.rGtup, Dl.rGcons, Dl.rGnil, Dl.rIlst, Dl.rItup, Dl.rIenum, Dl.rIenumT, Dl.rIzip, Dl.rIzip3, Dl.rSlcL, Dl.rSlcT, Dl.rSlcS, Dl.rNoPart, Dl.rPart, Dl.dSS, Dl.dII, Dl.dListOf, Dl.dSortI, Dl.rtD, Dl.rtL, List.map_cons, List.map_nil, List.length_cons, List.length_nil, List.cons_append, List.nil_append, List.append_nil, List.replicate, Nat.reduceSub, Nat.reduceAdd, Nat.sub_self, Nat.sub_zero, List.getElem?_cons_zero, List.getElem?_cons_succ, List.set_cons_zero, List.set_cons_succ, List.take_succ_cons, List.take_zero, List.take_nil, Dl.view, Dl.T.tyn, Dl.T.isN, Dl.T.sc, Dl.T.flat, Dl.flats])
local macro_rules | `(tactic| walk_at "rs") => `(tactic| dsimp only [Dl.rRet, Dl.rRetN, Dl.rIfS, Dl.rNext, Dl.rDrop, Dl.rAsg, Dl.rName, Dl.rPar, Dl.rPar3, Dl.rAndV, Dl.rOrV, Dl.rNotV, Dl.dIsi, Dl.dDivmod, Dl.mput, Dl.rUn, Dl.rGset, Dl.rFrz, Dl.rAnd, Dl.rOr, Dl.rNot, Dl.rTest, Dl.rTru, Dl.rIf, Dl.rOp, Dl.rOpL, Dl.rCB, Dl.rCBL, Dl.rCons, Dl.rNil, Dl.rVar, Dl.rC, Dl.rStr, Dl.d1, Dl.fTyp, Dl.fLenS, Dl.fLenQ, Dl.fAll, Dl.fSum, Dl.fRepr, Dl.fTupOf, Dl.dTy, Dl.nb, Dl.dInT, Dl.dIn, Dl.dN, Dl.dEq, Dl.dEqD, Dl.dI0, Dl.dIC, Dl.dCat, Dl.dCatL, Dl.dCatS, Dl.dCatT, Dl.dIxL, Dl.dIxT, Dl.dIxS, Dl.rChain, Dl.rChain3, Dl.rTup, Dl.rLst, Dl.rFroz, Dl.rKeep, Dl.rFld, Dl.rBM, Dl.dAppend, Dl.dReverse, Dl.dClear, Dl.dExtend, Dl.rCK, Dl.fMinD, Dl.rCall, Dl.rCall0, Dl.rMeth, Dl.rMeth0, Dl.rMethN0, Dl.rMake, Dl.rMake0, Dl.rSetF, Dl.rGtup, Dl.rGcons, Dl.rGnil, Dl.rIlst, Dl.rItup, Dl.rIenum, Dl.rIenumT, Dl.rIzip, Dl.rIzip3, Dl.rSlcL, Dl.rSlcT, Dl.rSlcS, Dl.rNoPart, Dl.rPart, Dl.dSS, Dl.dII, Dl.dListOf, Dl.dSortI, Dl.rtD, Dl.rtL, List.map_cons, List.map_nil, List.length_cons, List.length_nil, List.cons_append, List.nil_append, List.append_nil, List.replicate, Nat.reduceSub, Nat.reduceAdd, Nat.sub_self, Nat.sub_zero, List.getElem?_cons_zero, List.getElem?_cons_succ, List.set_cons_zero, List.set_cons_succ, List.take_succ_cons, List.take_zero, List.take_nil, Dl.view, Dl.T.tyn, Dl.T.isN, Dl.T.sc, Dl.T.flat, Dl.flats])
open Dl Rm
section
variable {P : Program} {w : World} {K : PySem.W.Frag} {mg : PySem.Str → Option Value} {base : Heap}
theorem ok_law (T : Txt mg K w.params) : FnG P w K mg base 10 T.f_law T.fd_law ["script"] (spLawD K) := by
  refine FunD.okG T.F_law sc_law law_len (fun cdv A outer s H vs Q E hA hr h => ⟨_, pss_cons (ps_set (i := 1) sc_law.nd rfl (.inl rfl) (pe_callX (ok_law_begun T) (hr.mono (by decide)) (by rfl) T.g_law_begun T.F_law_begun.kp (b_law_begun_1 T) pass0 (pa_cons (pv 0) pa_nil)))
 (pss_cons (ps_for PassesOwn.never rfl (pi_range1 (by rfl) T.n_range (pa_cons (pe_int) pa_nil)) (pg_name (i := 2) sc_law.nd rfl (.inl rfl)) (pss_cons (ps_set (i := 3) sc_law.nd rfl (.inl rfl) (pe_callX (ok_law_called T) (hr.mono (by decide)) (by rfl) T.g_law_called T.F_law_called.kp (b_law_called_2 T) pass0 (pa_cons (pv 1) (pa_cons (pe_int) pa_nil))))
 (pss_cons (ps_set (i := 4) sc_law.nd rfl (.inl rfl) (pe_callX (ok_law_plain T) (hr.mono (by decide)) (by rfl) T.g_law_plain T.F_law_plain.kp (b_law_plain_3 T) pass0 (pa_cons (pv 1) (pa_cons (pv 3) (pa_cons (pe_int) pa_nil)))))
 (pss_cons (ps_par (i := 5) (j := 6) (by rfl) sc_law.nd rfl rfl (by decide) rfl rfl (pa_cons (pe_makeX T.mk_Round (ok_Round_init T) (hr.mono (by decide)) (by rfl) T.g_Round (b_Round_init_3 T) pass0 (pa_cons (pe_ix (ixtK (K := K) rfl) (pv 4) (pe_int) (fun _ _ => rfl)) (pa_cons (pe_ix (ixtK (K := K) rfl) (pv 4) (pe_int) (fun _ _ => rfl)) pa_nil))) (pa_cons (pe_callB (sumK (K := K) rfl rfl) (by rfl) T.n_sum (by decide +kernel) (pa_cons (pe_lc (own := [("row", 9)]) (g := gName 9) (tt := tYes) (by rfl) sc_law.nd (piTK (K := K) rfl (pe_ix (ixtK (K := K) rfl) (pv 4) (pe_int) (fun _ _ => rfl))) (blkOk_by (own := [("row", 9)]) (N := ["script", "m", "again", "w", "plain", "circle", "work", "turn", "date", "row"]) (sc := defScope s_law) (by decide +kernel)) (fun _ _ _ _ _ => pg_name (i := 9) sc_law.nd rfl (Or.inl rfl)) (fun _ _ _ _ _ => pts_nil) (fun _ _ _ _ _ => pe_ix (ixtK (K := K) rfl) (pv 9) (pe_int) (fun _ _ => rfl))) pa_nil)) pa_nil)) (by rfl))
 (pss_cons (ps_for PassesOwn.never rfl (pi_range1 (by rfl) T.n_range (pa_cons (pe_int) pa_nil)) (pg_name (i := 7) sc_law.nd rfl (.inl rfl)) (pss_cons (ps_set (i := 8) sc_law.nd rfl (.inl rfl) (pe_op op_add (pe_ix (ixtK (K := K) rfl) (pv 4) (pe_int) (fun _ _ => rfl)) (pe_ix (ixlK (K := K) rfl) (pe_lst (pa_cons (pe_callX (ok_law_draw T) (hr.mono (by decide)) (by rfl) T.g_law_draw T.F_law_draw.kp (b_law_draw_2 T) pass0 (pa_cons (pv 1) (pa_cons (pe_op op_mul (pe_int) (pe_ix (ixtK (K := K) rfl) (pv 4) (pe_int) (fun _ _ => rfl))) pa_nil))) (pa_cons (pe_int) (pa_cons (pe_ix (ixtK (K := K) rfl) (pv 4) (pe_int) (fun _ _ => rfl)) pa_nil)))) (pe_callX (ok_law_draw T) (hr.mono (by decide)) (by rfl) T.g_law_draw T.F_law_draw.kp (b_law_draw_2 T) pass0 (pa_cons (pv 1) (pa_cons (pe_int) pa_nil))) (fun _ _ => rfl))))
 (pss_cons (ps_if (PW.pt (pw_and (pt_cmpR (neDK (K := K) rfl hr.units) (pe_ix (ixtK (K := K) rfl) (pv 4) (pe_int) (fun _ _ => rfl)) (pe_tup (pa_nil)) (by first | rfl | exact nomark _)) (pw_and1 (pt_not (pt_val (pe_callGX (ok_law_calls_right T) hA (hr.mono (by decide)) (by rfl) T.g_law_calls_right T.F_law_calls_right.kp (b_law_calls_right_4 T) (pa_cons (pv 1) (pa_cons (pv 5) (pa_cons (pv 4) (pa_cons (pv 6) pa_nil)))))))))) (pss_one (ps_ret (pe_bl))) (pss_nil))
 (pss_cons (ps_if (pt_not (pt_val (pe_callGX (ok_law_press_right T) hA (hr.mono (by decide)) (by rfl) T.g_law_press_right T.F_law_press_right.kp (b_law_press_right_5 T) (pa_cons (pv 1) (pa_cons (pv 5) (pa_cons (pv 4) (pa_cons (pv 6) (pa_cons (pv 8) pa_nil)))))))) (pss_one (ps_ret (pe_bl))) (pss_nil))
 (pss_cons (ps_if (pt_not (pt_val (pe_callGX (ok_law_waits_right T) hA (hr.mono (by decide)) (by rfl) T.g_law_waits_right T.F_law_waits_right.kp (b_law_waits_right_5 T) (pa_cons (pv 1) (pa_cons (pv 5) (pa_cons (pv 4) (pa_cons (pv 6) (pa_cons (pv 8) pa_nil)))))))) (pss_one (ps_ret (pe_bl))) (pss_nil))
 (pss_one (ps_if (pt_not (pt_val (pe_callGX (ok_law_many_right T) hA (hr.mono (by decide)) (by rfl) T.g_law_many_right T.F_law_many_right.kp (b_law_many_right_5 T) (pa_cons (pv 1) (pa_cons (pv 5) (pa_cons (pv 4) (pa_cons (pv 6) (pa_cons (pv 8) pa_nil)))))))) (pss_one (ps_ret (pe_bl))) (pss_nil))))))))
 (pss_one (ps_if (pt_not (pt_val (pe_callGX (ok_law_over_right T) hA (hr.mono (by decide)) (by rfl) T.g_law_over_right T.F_law_over_right.kp (b_law_over_right_4 T) (pa_cons (pv 1) (pa_cons (pv 5) (pa_cons (pv 4) (pa_cons (pv 6) pa_nil))))))) (pss_one (ps_ret (pe_bl))) (pss_nil))))))))
 (pss_one (ps_ret (pe_bl)))), law_sim h (by decide) ?_⟩)
  walk_at "st0"
  refine rSeq_go ?_
  refine ⟨by decide, by decide, fun i ρ μ => ∃ (k : Nat) (a b c d e f g h : Option Dl.T), ρ = [none, some (.rs 0), a, b, c, d, e, f, g, h] ∧ μ = [.drw nxt k] ∧ 2000 ≤ k + i * 500, ⟨1000000, none, none, none, none, none, none, none, none, rfl, rfl, by omega⟩, ?_, ?_⟩
  · rintro i t ρ μ et ⟨k, a, b, c, d, e, f, g, hh, rfl, rfl, kb⟩
    obtain ⟨i2, rfl⟩ := range_at et
    have i2 : i < 2 := i2
    walk_at "rs"
    refine rSeq_go ?_
    walk_at "rs"
    obtain ⟨n, rfl⟩ : ∃ n, k = n + 3 + 6 * 8 := ⟨k - 51, by omega⟩
    refine ⟨rfl, callR rfl rfl ⟨n, 6, rfl, rfl, by decide, fun zs m zl zn hm => ?_⟩⟩
    walk_at "rs"
    refine rSeq_go ?_
    walk_at "rs"
    obtain ⟨n1, rfl⟩ : ∃ n1, m = n1 + 100 := ⟨m - 100, by omega⟩
    refine ⟨rfl, callR rfl rfl ⟨n1, zs, 1000, rfl, rfl, zl, zn, by decide, by decide, fun L l m1 ok h1 => ?_⟩⟩
    have L1 := ok.l1
    have L2 := ok.l2
    have l12 := ok.len
    refine rSeq_go ?_
    walk_at "rs"
    unfold plnT callsT
    walk_at "rs"
    refine ⟨_, _, rfl, rfl, _, _, rfl, rfl, cok_Round T, rfl, callR rfl rfl ⟨L, l, rfl, rfl, ok, rfl, rfl, _, rfl, ?_⟩⟩
    refine ⟨_, _, rfl, rfl, rLc_map (fun t => match t with | .tup [_, _, h] => h | _ => .non) (by simp) ?_ ?_ ?_⟩
    · rw [List.length_map]
      omega
    · intro t ht
      obtain ⟨c, hc, rfl⟩ := List.mem_map.mp ht
      exact ⟨rfl, fun Ψ hΨ => ⟨_, _, rfl, rfl, hΨ⟩⟩
    rw [works_map _ fun c => rfl]
    refine ⟨_, _, rfl, ints_map _, ?_⟩
    rw [tot_sum]
    refine rSeq_go ?_
    refine ⟨by decide, by decide, fun q ρ μ => ∃ (k : Nat) (g h j : Option Dl.T), ρ = [none, some (.rs 0), some (.int i), some (.lst (zs.map .str)), some (plnT L l), some (rndT T.C_Round L l), some (.int (tot l)), g, h, j] ∧ μ = [.drw nxt k] ∧ m1 ≤ k + q * 60, ⟨m1, _, _, _, rfl, rfl, by omega⟩, ?_, ?_⟩
    · rintro q t ρ μ et ⟨k, g, h, j, rfl, rfl, kb2⟩
      obtain ⟨q4, rfl⟩ := range_at et
      have q4 : q < 4 := q4
      walk_at "rs"
      obtain ⟨k, rfl⟩ : ∃ k', k = k' + 50 := ⟨k - 50, by omega⟩
      refine rSeq_go ?_
      unfold plnT callsT
      walk_at "rs"
      refine ⟨_, _, rfl, rfl, _, _, rfl, rfl, .inl ⟨by decide, by decide⟩, rfl, drawR rfl (by omega) (by omega) (by omega) fun v0 v00 v01 => ?_⟩
      walk_at "rs"
      refine ⟨_, _, rfl, rfl, rfl, by show 3 ≤ 1000000; decide, rfl, drawR rfl (by omega) (by decide) (by decide) fun v1 v10 v11 => ?_⟩
      walk_at "rs"
      obtain ⟨c, hc, e⟩ := at_intT (cs := [v0, 0, L]) v10 v11
      simp only [List.mem_cons, List.not_mem_nil, or_false] at hc
      refine ⟨_, .int c, rfl, e, ?_⟩
      obtain ⟨ds, e1, e2, e3⟩ := calls_pd ok
      refine rSeq_cut (fun ρ μ => ∃ k2 : Nat, ρ = [none, some (.rs 0), some (.int i), some (.lst (zs.map .str)), some (.tup [.int L, .tup (l.map callT)]), some (.obj T.C_Round (rfs L l)), some (.int (tot l)), some (.int q), some (.int (L + c)), j] ∧ μ = [.drw nxt k2] ∧ k + 30 ≤ k2) (fun N hN => ?_) ?_
      · walk_at "rs"
        refine ⟨_, _, rfl, rfl, rfl, by decide, _, .tuple [], e1, by simp [Dl.T.pd, Dl.T.pds], e3, by simp [PyData.depth, PyData.depthAll], ?_⟩
        by_cases l0 : l.length = 0
        · exact iteF' (by simp only [nb, eqv_nilT, e2]; simp [l0]) (iteF' rfl (hN _ _ ⟨_, rfl, rfl, by omega⟩))
        · refine iteT' (by simp only [nb, eqv_nilT, e2]; simp [l0]) ⟨rfl, callR rfl rfl ⟨L, l, k + 38, rfl, rfl, ok, by omega, fun m hm => ?_⟩⟩
          exact iteF' rfl (hN _ _ ⟨_, rfl, rfl, by omega⟩)
      rintro ρ μ ⟨k2, rfl, rfl, hk2⟩
      obtain ⟨k3, rfl⟩ : ∃ k3, k2 = k3 + 10 := ⟨k2 - 10, by omega⟩
      refine rSeq_go ?_
      walk_at "rs"
      refine ⟨rfl, callR rfl rfl ⟨L, l, L + c, k3, rfl, rfl, ok, by omega, by omega, fun m hm => ?_⟩⟩
      refine iteF' rfl (rSeq_go ?_)
      walk_at "rs"
      obtain ⟨m, rfl⟩ : ∃ k3, m = k3 + 10 := ⟨m - 10, by omega⟩
      refine ⟨rfl, callR rfl rfl ⟨L, l, L + c, m, rfl, rfl, ok, by omega, by omega, fun m2 hm2 => ?_⟩⟩
      refine iteF' rfl ?_
      walk_at "rs"
      obtain ⟨m2, rfl⟩ : ∃ k3, m2 = k3 + 10 := ⟨m2 - 10, by omega⟩
      refine ⟨rfl, callR rfl rfl ⟨L, l, L + c, m2, rfl, rfl, ok, by omega, by omega, fun m3 hm3 => ?_⟩⟩
      exact iteF' rfl ⟨m3, _, _, _, rfl, rfl, by omega⟩
    · rintro ρ μ ⟨k, g, h, j, rfl, rfl, kb2⟩
      have kb2 : m1 ≤ k + 240 := kb2
      dsimp only
      walk_at "rs"
      obtain ⟨k, rfl⟩ : ∃ k', k = k' + 10 := ⟨k - 10, by omega⟩
      refine ⟨rfl, callR rfl rfl ⟨L, l, k, rfl, rfl, ok, fun m hm => ?_⟩⟩
      exact iteF' rfl ⟨m, _, _, _, _, _, _, _, _, rfl, rfl, by omega⟩
  · rintro ρ μ ⟨k, a, b, c, d, e, f, g, hh, rfl, rfl, kb⟩
    rfl
end
end K

set_option maxRecDepth 100000
set_option maxHeartbeats 4000000
set_option synthInstance.maxSize 100000
set_option synthInstance.maxHeartbeats 4000000
namespace K
open PySem PySem.Spec PyProof.Rows L2 Gd
open Dl
def txt_mk {K : PySem.W.Frag} {h : Heap} {mg : PySem.Str → Option Value} {prm : Params} (X : K.In h) (G : h.Ns mainGlobals mg)
    {C_Round : Addr}
    {t_MOST_LETTERS : Tok}
    {a_NO_NAMES : Addr} {t_NO_NAMES_0 t_NO_NAMES_1 t_NO_NAMES_2 t_NO_NAMES_3 t_NO_NAMES_4 t_NO_NAMES_5 t_NO_NAMES_6 t_NO_NAMES_7 t_NO_NAMES_8 t_NO_NAMES_9 : Tok} {dd_NO_NAMES : Option Addr} {nn_NO_NAMES : Nat} {sl_NO_NAMES : Array (Option Value)}
    {t_MOST_LENGTH : Tok}
    {t_MOST_CALLS : Tok}
    {t_MOST_CALL_HOURS : Tok}
    {t_FARTHEST : Tok}
    {f_is_whole : Addr} {od_is_whole an_is_whole : Option Addr} {sl_is_whole : Array (Option Value)} {oc_is_whole kV_is_whole dc_is_whole pm_is_whole cd_is_whole ct_is_whole : Value}
    {D_is_whole : Addr} {u_is_whole_0 : Tok} {dd_is_whole : Option Addr} {nn_is_whole : Nat} {sd_is_whole : Array (Option Value)} {oc2_is_whole : Value}
    {f_is_name : Addr} {od_is_name an_is_name : Option Addr} {sl_is_name : Array (Option Value)} {oc_is_name kV_is_name dc_is_name pm_is_name cd_is_name ct_is_name : Value}
    {f_are_calls : Addr} {od_are_calls an_are_calls : Option Addr} {sl_are_calls : Array (Option Value)} {oc_are_calls kV_are_calls dc_are_calls pm_are_calls cd_are_calls ct_are_calls : Value}
    {f_refuse_no_hour : Addr} {od_refuse_no_hour an_refuse_no_hour : Option Addr} {sl_refuse_no_hour : Array (Option Value)} {oc_refuse_no_hour kV_refuse_no_hour dc_refuse_no_hour pm_refuse_no_hour cd_refuse_no_hour ct_refuse_no_hour : Value}
    {f_Round_init : Addr} {od_Round_init an_Round_init : Option Addr} {sl_Round_init : Array (Option Value)} {oc_Round_init kV_Round_init dc_Round_init pm_Round_init cd_Round_init ct_Round_init : Value}
    {D_Round_init : Addr}  {dd_Round_init : Option Addr} {nn_Round_init : Nat} {sd_Round_init : Array (Option Value)} {oc2_Round_init : Value}
    {f_Round__first_begins : Addr} {od_Round__first_begins an_Round__first_begins : Option Addr} {sl_Round__first_begins : Array (Option Value)} {oc_Round__first_begins kV_Round__first_begins dc_Round__first_begins pm_Round__first_begins cd_Round__first_begins ct_Round__first_begins : Value}
    {f_Round__begin : Addr} {od_Round__begin an_Round__begin : Option Addr} {sl_Round__begin : Array (Option Value)} {oc_Round__begin kV_Round__begin dc_Round__begin pm_Round__begin cd_Round__begin ct_Round__begin : Value}
    {f_Round__begun : Addr} {od_Round__begun an_Round__begun : Option Addr} {sl_Round__begun : Array (Option Value)} {oc_Round__begun kV_Round__begun dc_Round__begun pm_Round__begun cd_Round__begun ct_Round__begun : Value}
    {f_Round__ended : Addr} {od_Round__ended an_Round__ended : Option Addr} {sl_Round__ended : Array (Option Value)} {oc_Round__ended kV_Round__ended dc_Round__ended pm_Round__ended cd_Round__ended ct_Round__ended : Value}
    {f_Round__came : Addr} {od_Round__came an_Round__came : Option Addr} {sl_Round__came : Array (Option Value)} {oc_Round__came kV_Round__came dc_Round__came pm_Round__came cd_Round__came ct_Round__came : Value}
    {f_Round__hours_done : Addr} {od_Round__hours_done an_Round__hours_done : Option Addr} {sl_Round__hours_done : Array (Option Value)} {oc_Round__hours_done kV_Round__hours_done dc_Round__hours_done pm_Round__hours_done cd_Round__hours_done ct_Round__hours_done : Value}
    {f_Round__all_done : Addr} {od_Round__all_done an_Round__all_done : Option Addr} {sl_Round__all_done : Array (Option Value)} {oc_Round__all_done kV_Round__all_done dc_Round__all_done pm_Round__all_done cd_Round__all_done ct_Round__all_done : Value}
    {f_Round__waiting : Addr} {od_Round__waiting an_Round__waiting : Option Addr} {sl_Round__waiting : Array (Option Value)} {oc_Round__waiting kV_Round__waiting dc_Round__waiting pm_Round__waiting cd_Round__waiting ct_Round__waiting : Value}
    {f_Round_keeps_up : Addr} {od_Round_keeps_up an_Round_keeps_up : Option Addr} {sl_Round_keeps_up : Array (Option Value)} {oc_Round_keeps_up kV_Round_keeps_up dc_Round_keeps_up pm_Round_keeps_up cd_Round_keeps_up ct_Round_keeps_up : Value}
    {f_Round__refuse_no_call : Addr} {od_Round__refuse_no_call an_Round__refuse_no_call : Option Addr} {sl_Round__refuse_no_call : Array (Option Value)} {oc_Round__refuse_no_call kV_Round__refuse_no_call dc_Round__refuse_no_call pm_Round__refuse_no_call cd_Round__refuse_no_call ct_Round__refuse_no_call : Value}
    {f_Round_begins : Addr} {od_Round_begins an_Round_begins : Option Addr} {sl_Round_begins : Array (Option Value)} {oc_Round_begins kV_Round_begins dc_Round_begins pm_Round_begins cd_Round_begins ct_Round_begins : Value}
    {f_Round_ends : Addr} {od_Round_ends an_Round_ends : Option Addr} {sl_Round_ends : Array (Option Value)} {oc_Round_ends kV_Round_ends dc_Round_ends pm_Round_ends cd_Round_ends ct_Round_ends : Value}
    {f_Round_at : Addr} {od_Round_at an_Round_at : Option Addr} {sl_Round_at : Array (Option Value)} {oc_Round_at kV_Round_at dc_Round_at pm_Round_at cd_Round_at ct_Round_at : Value}
    {f_Round_waiting : Addr} {od_Round_waiting an_Round_waiting : Option Addr} {sl_Round_waiting : Array (Option Value)} {oc_Round_waiting kV_Round_waiting dc_Round_waiting pm_Round_waiting cd_Round_waiting ct_Round_waiting : Value}
    {f_Round_how_many : Addr} {od_Round_how_many an_Round_how_many : Option Addr} {sl_Round_how_many : Array (Option Value)} {oc_Round_how_many kV_Round_how_many dc_Round_how_many pm_Round_how_many cd_Round_how_many ct_Round_how_many : Value}
    {f_Round_idle : Addr} {od_Round_idle an_Round_idle : Option Addr} {sl_Round_idle : Array (Option Value)} {oc_Round_idle kV_Round_idle dc_Round_idle pm_Round_idle cd_Round_idle ct_Round_idle : Value}
    {f_Round_first_over : Addr} {od_Round_first_over an_Round_first_over : Option Addr} {sl_Round_first_over : Array (Option Value)} {oc_Round_first_over kV_Round_first_over dc_Round_first_over pm_Round_first_over cd_Round_first_over ct_Round_first_over : Value}
    {f_Round__hour_over : Addr} {od_Round__hour_over an_Round__hour_over : Option Addr} {sl_Round__hour_over : Array (Option Value)} {oc_Round__hour_over kV_Round__hour_over dc_Round__hour_over pm_Round__hour_over cd_Round__hour_over ct_Round__hour_over : Value}
    {f_law_mixed : Addr} {od_law_mixed an_law_mixed : Option Addr} {sl_law_mixed : Array (Option Value)} {oc_law_mixed kV_law_mixed dc_law_mixed pm_law_mixed cd_law_mixed ct_law_mixed : Value}
    {f_law_folded : Addr} {od_law_folded an_law_folded : Option Addr} {sl_law_folded : Array (Option Value)} {oc_law_folded kV_law_folded dc_law_folded pm_law_folded cd_law_folded ct_law_folded : Value}
    {f_law_draw : Addr} {od_law_draw an_law_draw : Option Addr} {sl_law_draw : Array (Option Value)} {oc_law_draw kV_law_draw dc_law_draw pm_law_draw cd_law_draw ct_law_draw : Value}
    {f_law_begun : Addr} {od_law_begun an_law_begun : Option Addr} {sl_law_begun : Array (Option Value)} {oc_law_begun kV_law_begun dc_law_begun pm_law_begun cd_law_begun ct_law_begun : Value}
    {f_law_called : Addr} {od_law_called an_law_called : Option Addr} {sl_law_called : Array (Option Value)} {oc_law_called kV_law_called dc_law_called pm_law_called cd_law_called ct_law_called : Value}
    {f_law_plain : Addr} {od_law_plain an_law_plain : Option Addr} {sl_law_plain : Array (Option Value)} {oc_law_plain kV_law_plain dc_law_plain pm_law_plain cd_law_plain ct_law_plain : Value}
    {f_law_rounds_on : Addr} {od_law_rounds_on an_law_rounds_on : Option Addr} {sl_law_rounds_on : Array (Option Value)} {oc_law_rounds_on kV_law_rounds_on dc_law_rounds_on pm_law_rounds_on cd_law_rounds_on ct_law_rounds_on : Value}
    {f_law_calls_right : Addr} {od_law_calls_right an_law_calls_right : Option Addr} {sl_law_calls_right : Array (Option Value)} {oc_law_calls_right kV_law_calls_right dc_law_calls_right pm_law_calls_right cd_law_calls_right ct_law_calls_right : Value}
    {f_law_press_right : Addr} {od_law_press_right an_law_press_right : Option Addr} {sl_law_press_right : Array (Option Value)} {oc_law_press_right kV_law_press_right dc_law_press_right pm_law_press_right cd_law_press_right ct_law_press_right : Value}
    {f_law_waits_right : Addr} {od_law_waits_right an_law_waits_right : Option Addr} {sl_law_waits_right : Array (Option Value)} {oc_law_waits_right kV_law_waits_right dc_law_waits_right pm_law_waits_right cd_law_waits_right ct_law_waits_right : Value}
    {f_law_many_right : Addr} {od_law_many_right an_law_many_right : Option Addr} {sl_law_many_right : Array (Option Value)} {oc_law_many_right kV_law_many_right dc_law_many_right pm_law_many_right cd_law_many_right ct_law_many_right : Value}
    {f_law_over_right : Addr} {od_law_over_right an_law_over_right : Option Addr} {sl_law_over_right : Array (Option Value)} {oc_law_over_right kV_law_over_right dc_law_over_right pm_law_over_right cd_law_over_right ct_law_over_right : Value}
    {f_law : Addr} {od_law an_law : Option Addr} {sl_law : Array (Option Value)} {oc_law kV_law dc_law pm_law cd_law ct_law : Value}
    (a_Round : PySem.W.nsIn K mainGlobals "Round" = some (some (.ref C_Round)))
    (z_all : PySem.W.nsIn K mainGlobals "all" = some none)
    (z_enumerate : PySem.W.nsIn K mainGlobals "enumerate" = some none)
    (z_int : PySem.W.nsIn K mainGlobals "int" = some none)
    (z_len : PySem.W.nsIn K mainGlobals "len" = some none)
    (z_list : PySem.W.nsIn K mainGlobals "list" = some none)
    (z_max : PySem.W.nsIn K mainGlobals "max" = some none)
    (z_min : PySem.W.nsIn K mainGlobals "min" = some none)
    (z_range : PySem.W.nsIn K mainGlobals "range" = some none)
    (z_repr : PySem.W.nsIn K mainGlobals "repr" = some none)
    (z_sorted : PySem.W.nsIn K mainGlobals "sorted" = some none)
    (z_str : PySem.W.nsIn K mainGlobals "str" = some none)
    (z_sum : PySem.W.nsIn K mainGlobals "sum" = some none)
    (z_tuple : PySem.W.nsIn K mainGlobals "tuple" = some none)
    (z_type : PySem.W.nsIn K mainGlobals "type" = some none)
    (z_zip : PySem.W.nsIn K mainGlobals "zip" = some none)
    (y_MOST_LETTERS : PySem.W.nsIn K mainGlobals "MOST_LETTERS" = some (some (.int 8 t_MOST_LETTERS)))
    (y_NO_NAMES : PySem.W.nsIn K mainGlobals "NO_NAMES" = some (some (.ref a_NO_NAMES)))
    (x_NO_NAMES : K.lookup a_NO_NAMES = some ⟨.type "tuple", dd_NO_NAMES, .seq #[.str "style" t_NO_NAMES_0, .str "job" t_NO_NAMES_1, .str "round" t_NO_NAMES_2, .str "sew" t_NO_NAMES_3, .str "glue" t_NO_NAMES_4, .str "cover" t_NO_NAMES_5, .str "letter" t_NO_NAMES_6, .str "press" t_NO_NAMES_7, .str "hand" t_NO_NAMES_8, .str "haste" t_NO_NAMES_9] nn_NO_NAMES, sl_NO_NAMES⟩)
    (y_MOST_LENGTH : PySem.W.nsIn K mainGlobals "MOST_LENGTH" = some (some (.int 1000 t_MOST_LENGTH)))
    (y_MOST_CALLS : PySem.W.nsIn K mainGlobals "MOST_CALLS" = some (some (.int 12 t_MOST_CALLS)))
    (y_MOST_CALL_HOURS : PySem.W.nsIn K mainGlobals "MOST_CALL_HOURS" = some (some (.int 1000 t_MOST_CALL_HOURS)))
    (y_FARTHEST : PySem.W.nsIn K mainGlobals "FARTHEST" = some (some (.int 1000000000000000000 t_FARTHEST)))
    (a_is_whole : PySem.W.nsIn K mainGlobals "is_whole" = some (some (.ref f_is_whole)))
    (l_is_whole : K.lookup f_is_whole = some ⟨oc_is_whole, od_is_whole, .func (PySem.W.fnOf "is_whole" "is_whole" (defArgs s_is_whole) (defBody s_is_whole) (defScope s_is_whole) (.ref D_is_whole) kV_is_whole dc_is_whole pm_is_whole an_is_whole cd_is_whole ct_is_whole), sl_is_whole⟩)
    (c_is_whole : PySem.W.codeIn K cd_is_whole "is_whole" = true)
    (k_is_whole : PySem.W.keepIn K (.ref f_is_whole) = true)
    (x_is_whole : K.lookup D_is_whole = some ⟨oc2_is_whole, dd_is_whole, .seq #[.int 1000000 u_is_whole_0] nn_is_whole, sd_is_whole⟩)
    (a_is_name : PySem.W.nsIn K mainGlobals "is_name" = some (some (.ref f_is_name)))
    (l_is_name : K.lookup f_is_name = some ⟨oc_is_name, od_is_name, .func (PySem.W.fnOf "is_name" "is_name" (defArgs s_is_name) (defBody s_is_name) (defScope s_is_name) .none kV_is_name dc_is_name pm_is_name an_is_name cd_is_name ct_is_name), sl_is_name⟩)
    (c_is_name : PySem.W.codeIn K cd_is_name "is_name" = true)
    (k_is_name : PySem.W.keepIn K (.ref f_is_name) = true)
    (a_are_calls : PySem.W.nsIn K mainGlobals "_are_calls" = some (some (.ref f_are_calls)))
    (l_are_calls : K.lookup f_are_calls = some ⟨oc_are_calls, od_are_calls, .func (PySem.W.fnOf "_are_calls" "_are_calls" (defArgs s_are_calls) (defBody s_are_calls) (defScope s_are_calls) .none kV_are_calls dc_are_calls pm_are_calls an_are_calls cd_are_calls ct_are_calls), sl_are_calls⟩)
    (c_are_calls : PySem.W.codeIn K cd_are_calls "_are_calls" = true)
    (k_are_calls : PySem.W.keepIn K (.ref f_are_calls) = true)
    (a_refuse_no_hour : PySem.W.nsIn K mainGlobals "_refuse_no_hour" = some (some (.ref f_refuse_no_hour)))
    (l_refuse_no_hour : K.lookup f_refuse_no_hour = some ⟨oc_refuse_no_hour, od_refuse_no_hour, .func (PySem.W.fnOf "_refuse_no_hour" "_refuse_no_hour" (defArgs s_refuse_no_hour) (defBody s_refuse_no_hour) (defScope s_refuse_no_hour) .none kV_refuse_no_hour dc_refuse_no_hour pm_refuse_no_hour an_refuse_no_hour cd_refuse_no_hour ct_refuse_no_hour), sl_refuse_no_hour⟩)
    (c_refuse_no_hour : PySem.W.codeIn K cd_refuse_no_hour "_refuse_no_hour" = true)
    (k_refuse_no_hour : PySem.W.keepIn K (.ref f_refuse_no_hour) = true)
    (b_Round : PySem.W.findIn K (.ref C_Round) "__init__" = some (some (.ref f_Round_init)))
    (l_Round_init : K.lookup f_Round_init = some ⟨oc_Round_init, od_Round_init, .func (PySem.W.fnOf "__init__" "Round.__init__" (defArgs s_Round_init) (defBody s_Round_init) (defScope s_Round_init) (.ref D_Round_init) kV_Round_init dc_Round_init pm_Round_init an_Round_init cd_Round_init ct_Round_init), sl_Round_init⟩)
    (c_Round_init : PySem.W.codeIn K cd_Round_init "Round.__init__" = true)
    (k_Round_init : PySem.W.keepIn K (.ref f_Round_init) = true)
    (x_Round_init : K.lookup D_Round_init = some ⟨oc2_Round_init, dd_Round_init, .seq #[.none] nn_Round_init, sd_Round_init⟩)
    (b_Round__first_begins : PySem.W.findIn K (.ref C_Round) "_first_begins" = some (some (.ref f_Round__first_begins)))
    (l_Round__first_begins : K.lookup f_Round__first_begins = some ⟨oc_Round__first_begins, od_Round__first_begins, .func (PySem.W.fnOf "_first_begins" "Round._first_begins" (defArgs s_Round__first_begins) (defBody s_Round__first_begins) (defScope s_Round__first_begins) .none kV_Round__first_begins dc_Round__first_begins pm_Round__first_begins an_Round__first_begins cd_Round__first_begins ct_Round__first_begins), sl_Round__first_begins⟩)
    (c_Round__first_begins : PySem.W.codeIn K cd_Round__first_begins "Round._first_begins" = true)
    (k_Round__first_begins : PySem.W.keepIn K (.ref f_Round__first_begins) = true)
    (b_Round__begin : PySem.W.findIn K (.ref C_Round) "_begin" = some (some (.ref f_Round__begin)))
    (l_Round__begin : K.lookup f_Round__begin = some ⟨oc_Round__begin, od_Round__begin, .func (PySem.W.fnOf "_begin" "Round._begin" (defArgs s_Round__begin) (defBody s_Round__begin) (defScope s_Round__begin) .none kV_Round__begin dc_Round__begin pm_Round__begin an_Round__begin cd_Round__begin ct_Round__begin), sl_Round__begin⟩)
    (c_Round__begin : PySem.W.codeIn K cd_Round__begin "Round._begin" = true)
    (k_Round__begin : PySem.W.keepIn K (.ref f_Round__begin) = true)
    (b_Round__begun : PySem.W.findIn K (.ref C_Round) "_begun" = some (some (.ref f_Round__begun)))
    (l_Round__begun : K.lookup f_Round__begun = some ⟨oc_Round__begun, od_Round__begun, .func (PySem.W.fnOf "_begun" "Round._begun" (defArgs s_Round__begun) (defBody s_Round__begun) (defScope s_Round__begun) .none kV_Round__begun dc_Round__begun pm_Round__begun an_Round__begun cd_Round__begun ct_Round__begun), sl_Round__begun⟩)
    (c_Round__begun : PySem.W.codeIn K cd_Round__begun "Round._begun" = true)
    (k_Round__begun : PySem.W.keepIn K (.ref f_Round__begun) = true)
    (b_Round__ended : PySem.W.findIn K (.ref C_Round) "_ended" = some (some (.ref f_Round__ended)))
    (l_Round__ended : K.lookup f_Round__ended = some ⟨oc_Round__ended, od_Round__ended, .func (PySem.W.fnOf "_ended" "Round._ended" (defArgs s_Round__ended) (defBody s_Round__ended) (defScope s_Round__ended) .none kV_Round__ended dc_Round__ended pm_Round__ended an_Round__ended cd_Round__ended ct_Round__ended), sl_Round__ended⟩)
    (c_Round__ended : PySem.W.codeIn K cd_Round__ended "Round._ended" = true)
    (k_Round__ended : PySem.W.keepIn K (.ref f_Round__ended) = true)
    (b_Round__came : PySem.W.findIn K (.ref C_Round) "_came" = some (some (.ref f_Round__came)))
    (l_Round__came : K.lookup f_Round__came = some ⟨oc_Round__came, od_Round__came, .func (PySem.W.fnOf "_came" "Round._came" (defArgs s_Round__came) (defBody s_Round__came) (defScope s_Round__came) .none kV_Round__came dc_Round__came pm_Round__came an_Round__came cd_Round__came ct_Round__came), sl_Round__came⟩)
    (c_Round__came : PySem.W.codeIn K cd_Round__came "Round._came" = true)
    (k_Round__came : PySem.W.keepIn K (.ref f_Round__came) = true)
    (b_Round__hours_done : PySem.W.findIn K (.ref C_Round) "_hours_done" = some (some (.ref f_Round__hours_done)))
    (l_Round__hours_done : K.lookup f_Round__hours_done = some ⟨oc_Round__hours_done, od_Round__hours_done, .func (PySem.W.fnOf "_hours_done" "Round._hours_done" (defArgs s_Round__hours_done) (defBody s_Round__hours_done) (defScope s_Round__hours_done) .none kV_Round__hours_done dc_Round__hours_done pm_Round__hours_done an_Round__hours_done cd_Round__hours_done ct_Round__hours_done), sl_Round__hours_done⟩)
    (c_Round__hours_done : PySem.W.codeIn K cd_Round__hours_done "Round._hours_done" = true)
    (k_Round__hours_done : PySem.W.keepIn K (.ref f_Round__hours_done) = true)
    (b_Round__all_done : PySem.W.findIn K (.ref C_Round) "_all_done" = some (some (.ref f_Round__all_done)))
    (l_Round__all_done : K.lookup f_Round__all_done = some ⟨oc_Round__all_done, od_Round__all_done, .func (PySem.W.fnOf "_all_done" "Round._all_done" (defArgs s_Round__all_done) (defBody s_Round__all_done) (defScope s_Round__all_done) .none kV_Round__all_done dc_Round__all_done pm_Round__all_done an_Round__all_done cd_Round__all_done ct_Round__all_done), sl_Round__all_done⟩)
    (c_Round__all_done : PySem.W.codeIn K cd_Round__all_done "Round._all_done" = true)
    (k_Round__all_done : PySem.W.keepIn K (.ref f_Round__all_done) = true)
    (b_Round__waiting : PySem.W.findIn K (.ref C_Round) "_waiting" = some (some (.ref f_Round__waiting)))
    (l_Round__waiting : K.lookup f_Round__waiting = some ⟨oc_Round__waiting, od_Round__waiting, .func (PySem.W.fnOf "_waiting" "Round._waiting" (defArgs s_Round__waiting) (defBody s_Round__waiting) (defScope s_Round__waiting) .none kV_Round__waiting dc_Round__waiting pm_Round__waiting an_Round__waiting cd_Round__waiting ct_Round__waiting), sl_Round__waiting⟩)
    (c_Round__waiting : PySem.W.codeIn K cd_Round__waiting "Round._waiting" = true)
    (k_Round__waiting : PySem.W.keepIn K (.ref f_Round__waiting) = true)
    (b_Round_keeps_up : PySem.W.findIn K (.ref C_Round) "keeps_up" = some (some (.ref f_Round_keeps_up)))
    (l_Round_keeps_up : K.lookup f_Round_keeps_up = some ⟨oc_Round_keeps_up, od_Round_keeps_up, .func (PySem.W.fnOf "keeps_up" "Round.keeps_up" (defArgs s_Round_keeps_up) (defBody s_Round_keeps_up) (defScope s_Round_keeps_up) .none kV_Round_keeps_up dc_Round_keeps_up pm_Round_keeps_up an_Round_keeps_up cd_Round_keeps_up ct_Round_keeps_up), sl_Round_keeps_up⟩)
    (c_Round_keeps_up : PySem.W.codeIn K cd_Round_keeps_up "Round.keeps_up" = true)
    (k_Round_keeps_up : PySem.W.keepIn K (.ref f_Round_keeps_up) = true)
    (b_Round__refuse_no_call : PySem.W.findIn K (.ref C_Round) "_refuse_no_call" = some (some (.ref f_Round__refuse_no_call)))
    (l_Round__refuse_no_call : K.lookup f_Round__refuse_no_call = some ⟨oc_Round__refuse_no_call, od_Round__refuse_no_call, .func (PySem.W.fnOf "_refuse_no_call" "Round._refuse_no_call" (defArgs s_Round__refuse_no_call) (defBody s_Round__refuse_no_call) (defScope s_Round__refuse_no_call) .none kV_Round__refuse_no_call dc_Round__refuse_no_call pm_Round__refuse_no_call an_Round__refuse_no_call cd_Round__refuse_no_call ct_Round__refuse_no_call), sl_Round__refuse_no_call⟩)
    (c_Round__refuse_no_call : PySem.W.codeIn K cd_Round__refuse_no_call "Round._refuse_no_call" = true)
    (k_Round__refuse_no_call : PySem.W.keepIn K (.ref f_Round__refuse_no_call) = true)
    (b_Round_begins : PySem.W.findIn K (.ref C_Round) "begins" = some (some (.ref f_Round_begins)))
    (l_Round_begins : K.lookup f_Round_begins = some ⟨oc_Round_begins, od_Round_begins, .func (PySem.W.fnOf "begins" "Round.begins" (defArgs s_Round_begins) (defBody s_Round_begins) (defScope s_Round_begins) .none kV_Round_begins dc_Round_begins pm_Round_begins an_Round_begins cd_Round_begins ct_Round_begins), sl_Round_begins⟩)
    (c_Round_begins : PySem.W.codeIn K cd_Round_begins "Round.begins" = true)
    (k_Round_begins : PySem.W.keepIn K (.ref f_Round_begins) = true)
    (b_Round_ends : PySem.W.findIn K (.ref C_Round) "ends" = some (some (.ref f_Round_ends)))
    (l_Round_ends : K.lookup f_Round_ends = some ⟨oc_Round_ends, od_Round_ends, .func (PySem.W.fnOf "ends" "Round.ends" (defArgs s_Round_ends) (defBody s_Round_ends) (defScope s_Round_ends) .none kV_Round_ends dc_Round_ends pm_Round_ends an_Round_ends cd_Round_ends ct_Round_ends), sl_Round_ends⟩)
    (c_Round_ends : PySem.W.codeIn K cd_Round_ends "Round.ends" = true)
    (k_Round_ends : PySem.W.keepIn K (.ref f_Round_ends) = true)
    (b_Round_at : PySem.W.findIn K (.ref C_Round) "at" = some (some (.ref f_Round_at)))
    (l_Round_at : K.lookup f_Round_at = some ⟨oc_Round_at, od_Round_at, .func (PySem.W.fnOf "at" "Round.at" (defArgs s_Round_at) (defBody s_Round_at) (defScope s_Round_at) .none kV_Round_at dc_Round_at pm_Round_at an_Round_at cd_Round_at ct_Round_at), sl_Round_at⟩)
    (c_Round_at : PySem.W.codeIn K cd_Round_at "Round.at" = true)
    (k_Round_at : PySem.W.keepIn K (.ref f_Round_at) = true)
    (b_Round_waiting : PySem.W.findIn K (.ref C_Round) "waiting" = some (some (.ref f_Round_waiting)))
    (l_Round_waiting : K.lookup f_Round_waiting = some ⟨oc_Round_waiting, od_Round_waiting, .func (PySem.W.fnOf "waiting" "Round.waiting" (defArgs s_Round_waiting) (defBody s_Round_waiting) (defScope s_Round_waiting) .none kV_Round_waiting dc_Round_waiting pm_Round_waiting an_Round_waiting cd_Round_waiting ct_Round_waiting), sl_Round_waiting⟩)
    (c_Round_waiting : PySem.W.codeIn K cd_Round_waiting "Round.waiting" = true)
    (k_Round_waiting : PySem.W.keepIn K (.ref f_Round_waiting) = true)
    (b_Round_how_many : PySem.W.findIn K (.ref C_Round) "how_many" = some (some (.ref f_Round_how_many)))
    (l_Round_how_many : K.lookup f_Round_how_many = some ⟨oc_Round_how_many, od_Round_how_many, .func (PySem.W.fnOf "how_many" "Round.how_many" (defArgs s_Round_how_many) (defBody s_Round_how_many) (defScope s_Round_how_many) .none kV_Round_how_many dc_Round_how_many pm_Round_how_many an_Round_how_many cd_Round_how_many ct_Round_how_many), sl_Round_how_many⟩)
    (c_Round_how_many : PySem.W.codeIn K cd_Round_how_many "Round.how_many" = true)
    (k_Round_how_many : PySem.W.keepIn K (.ref f_Round_how_many) = true)
    (b_Round_idle : PySem.W.findIn K (.ref C_Round) "idle" = some (some (.ref f_Round_idle)))
    (l_Round_idle : K.lookup f_Round_idle = some ⟨oc_Round_idle, od_Round_idle, .func (PySem.W.fnOf "idle" "Round.idle" (defArgs s_Round_idle) (defBody s_Round_idle) (defScope s_Round_idle) .none kV_Round_idle dc_Round_idle pm_Round_idle an_Round_idle cd_Round_idle ct_Round_idle), sl_Round_idle⟩)
    (c_Round_idle : PySem.W.codeIn K cd_Round_idle "Round.idle" = true)
    (k_Round_idle : PySem.W.keepIn K (.ref f_Round_idle) = true)
    (b_Round_first_over : PySem.W.findIn K (.ref C_Round) "first_over" = some (some (.ref f_Round_first_over)))
    (l_Round_first_over : K.lookup f_Round_first_over = some ⟨oc_Round_first_over, od_Round_first_over, .func (PySem.W.fnOf "first_over" "Round.first_over" (defArgs s_Round_first_over) (defBody s_Round_first_over) (defScope s_Round_first_over) .none kV_Round_first_over dc_Round_first_over pm_Round_first_over an_Round_first_over cd_Round_first_over ct_Round_first_over), sl_Round_first_over⟩)
    (c_Round_first_over : PySem.W.codeIn K cd_Round_first_over "Round.first_over" = true)
    (k_Round_first_over : PySem.W.keepIn K (.ref f_Round_first_over) = true)
    (b_Round__hour_over : PySem.W.findIn K (.ref C_Round) "_hour_over" = some (some (.ref f_Round__hour_over)))
    (l_Round__hour_over : K.lookup f_Round__hour_over = some ⟨oc_Round__hour_over, od_Round__hour_over, .func (PySem.W.fnOf "_hour_over" "Round._hour_over" (defArgs s_Round__hour_over) (defBody s_Round__hour_over) (defScope s_Round__hour_over) .none kV_Round__hour_over dc_Round__hour_over pm_Round__hour_over an_Round__hour_over cd_Round__hour_over ct_Round__hour_over), sl_Round__hour_over⟩)
    (c_Round__hour_over : PySem.W.codeIn K cd_Round__hour_over "Round._hour_over" = true)
    (k_Round__hour_over : PySem.W.keepIn K (.ref f_Round__hour_over) = true)
    (a_law_mixed : PySem.W.nsIn K mainGlobals "_law_mixed" = some (some (.ref f_law_mixed)))
    (l_law_mixed : K.lookup f_law_mixed = some ⟨oc_law_mixed, od_law_mixed, .func (PySem.W.fnOf "_law_mixed" "_law_mixed" (defArgs s_law_mixed) (defBody s_law_mixed) (defScope s_law_mixed) .none kV_law_mixed dc_law_mixed pm_law_mixed an_law_mixed cd_law_mixed ct_law_mixed), sl_law_mixed⟩)
    (c_law_mixed : PySem.W.codeIn K cd_law_mixed "_law_mixed" = true)
    (k_law_mixed : PySem.W.keepIn K (.ref f_law_mixed) = true)
    (a_law_folded : PySem.W.nsIn K mainGlobals "_law_folded" = some (some (.ref f_law_folded)))
    (l_law_folded : K.lookup f_law_folded = some ⟨oc_law_folded, od_law_folded, .func (PySem.W.fnOf "_law_folded" "_law_folded" (defArgs s_law_folded) (defBody s_law_folded) (defScope s_law_folded) .none kV_law_folded dc_law_folded pm_law_folded an_law_folded cd_law_folded ct_law_folded), sl_law_folded⟩)
    (c_law_folded : PySem.W.codeIn K cd_law_folded "_law_folded" = true)
    (k_law_folded : PySem.W.keepIn K (.ref f_law_folded) = true)
    (a_law_draw : PySem.W.nsIn K mainGlobals "_law_draw" = some (some (.ref f_law_draw)))
    (l_law_draw : K.lookup f_law_draw = some ⟨oc_law_draw, od_law_draw, .func (PySem.W.fnOf "_law_draw" "_law_draw" (defArgs s_law_draw) (defBody s_law_draw) (defScope s_law_draw) .none kV_law_draw dc_law_draw pm_law_draw an_law_draw cd_law_draw ct_law_draw), sl_law_draw⟩)
    (c_law_draw : PySem.W.codeIn K cd_law_draw "_law_draw" = true)
    (k_law_draw : PySem.W.keepIn K (.ref f_law_draw) = true)
    (a_law_begun : PySem.W.nsIn K mainGlobals "_law_begun" = some (some (.ref f_law_begun)))
    (l_law_begun : K.lookup f_law_begun = some ⟨oc_law_begun, od_law_begun, .func (PySem.W.fnOf "_law_begun" "_law_begun" (defArgs s_law_begun) (defBody s_law_begun) (defScope s_law_begun) .none kV_law_begun dc_law_begun pm_law_begun an_law_begun cd_law_begun ct_law_begun), sl_law_begun⟩)
    (c_law_begun : PySem.W.codeIn K cd_law_begun "_law_begun" = true)
    (k_law_begun : PySem.W.keepIn K (.ref f_law_begun) = true)
    (a_law_called : PySem.W.nsIn K mainGlobals "_law_called" = some (some (.ref f_law_called)))
    (l_law_called : K.lookup f_law_called = some ⟨oc_law_called, od_law_called, .func (PySem.W.fnOf "_law_called" "_law_called" (defArgs s_law_called) (defBody s_law_called) (defScope s_law_called) .none kV_law_called dc_law_called pm_law_called an_law_called cd_law_called ct_law_called), sl_law_called⟩)
    (c_law_called : PySem.W.codeIn K cd_law_called "_law_called" = true)
    (k_law_called : PySem.W.keepIn K (.ref f_law_called) = true)
    (a_law_plain : PySem.W.nsIn K mainGlobals "_law_plain" = some (some (.ref f_law_plain)))
    (l_law_plain : K.lookup f_law_plain = some ⟨oc_law_plain, od_law_plain, .func (PySem.W.fnOf "_law_plain" "_law_plain" (defArgs s_law_plain) (defBody s_law_plain) (defScope s_law_plain) .none kV_law_plain dc_law_plain pm_law_plain an_law_plain cd_law_plain ct_law_plain), sl_law_plain⟩)
    (c_law_plain : PySem.W.codeIn K cd_law_plain "_law_plain" = true)
    (k_law_plain : PySem.W.keepIn K (.ref f_law_plain) = true)
    (a_law_rounds_on : PySem.W.nsIn K mainGlobals "_law_rounds_on" = some (some (.ref f_law_rounds_on)))
    (l_law_rounds_on : K.lookup f_law_rounds_on = some ⟨oc_law_rounds_on, od_law_rounds_on, .func (PySem.W.fnOf "_law_rounds_on" "_law_rounds_on" (defArgs s_law_rounds_on) (defBody s_law_rounds_on) (defScope s_law_rounds_on) .none kV_law_rounds_on dc_law_rounds_on pm_law_rounds_on an_law_rounds_on cd_law_rounds_on ct_law_rounds_on), sl_law_rounds_on⟩)
    (c_law_rounds_on : PySem.W.codeIn K cd_law_rounds_on "_law_rounds_on" = true)
    (k_law_rounds_on : PySem.W.keepIn K (.ref f_law_rounds_on) = true)
    (a_law_calls_right : PySem.W.nsIn K mainGlobals "_law_calls_right" = some (some (.ref f_law_calls_right)))
    (l_law_calls_right : K.lookup f_law_calls_right = some ⟨oc_law_calls_right, od_law_calls_right, .func (PySem.W.fnOf "_law_calls_right" "_law_calls_right" (defArgs s_law_calls_right) (defBody s_law_calls_right) (defScope s_law_calls_right) .none kV_law_calls_right dc_law_calls_right pm_law_calls_right an_law_calls_right cd_law_calls_right ct_law_calls_right), sl_law_calls_right⟩)
    (c_law_calls_right : PySem.W.codeIn K cd_law_calls_right "_law_calls_right" = true)
    (k_law_calls_right : PySem.W.keepIn K (.ref f_law_calls_right) = true)
    (a_law_press_right : PySem.W.nsIn K mainGlobals "_law_press_right" = some (some (.ref f_law_press_right)))
    (l_law_press_right : K.lookup f_law_press_right = some ⟨oc_law_press_right, od_law_press_right, .func (PySem.W.fnOf "_law_press_right" "_law_press_right" (defArgs s_law_press_right) (defBody s_law_press_right) (defScope s_law_press_right) .none kV_law_press_right dc_law_press_right pm_law_press_right an_law_press_right cd_law_press_right ct_law_press_right), sl_law_press_right⟩)
    (c_law_press_right : PySem.W.codeIn K cd_law_press_right "_law_press_right" = true)
    (k_law_press_right : PySem.W.keepIn K (.ref f_law_press_right) = true)
    (a_law_waits_right : PySem.W.nsIn K mainGlobals "_law_waits_right" = some (some (.ref f_law_waits_right)))
    (l_law_waits_right : K.lookup f_law_waits_right = some ⟨oc_law_waits_right, od_law_waits_right, .func (PySem.W.fnOf "_law_waits_right" "_law_waits_right" (defArgs s_law_waits_right) (defBody s_law_waits_right) (defScope s_law_waits_right) .none kV_law_waits_right dc_law_waits_right pm_law_waits_right an_law_waits_right cd_law_waits_right ct_law_waits_right), sl_law_waits_right⟩)
    (c_law_waits_right : PySem.W.codeIn K cd_law_waits_right "_law_waits_right" = true)
    (k_law_waits_right : PySem.W.keepIn K (.ref f_law_waits_right) = true)
    (a_law_many_right : PySem.W.nsIn K mainGlobals "_law_many_right" = some (some (.ref f_law_many_right)))
    (l_law_many_right : K.lookup f_law_many_right = some ⟨oc_law_many_right, od_law_many_right, .func (PySem.W.fnOf "_law_many_right" "_law_many_right" (defArgs s_law_many_right) (defBody s_law_many_right) (defScope s_law_many_right) .none kV_law_many_right dc_law_many_right pm_law_many_right an_law_many_right cd_law_many_right ct_law_many_right), sl_law_many_right⟩)
    (c_law_many_right : PySem.W.codeIn K cd_law_many_right "_law_many_right" = true)
    (k_law_many_right : PySem.W.keepIn K (.ref f_law_many_right) = true)
    (a_law_over_right : PySem.W.nsIn K mainGlobals "_law_over_right" = some (some (.ref f_law_over_right)))
    (l_law_over_right : K.lookup f_law_over_right = some ⟨oc_law_over_right, od_law_over_right, .func (PySem.W.fnOf "_law_over_right" "_law_over_right" (defArgs s_law_over_right) (defBody s_law_over_right) (defScope s_law_over_right) .none kV_law_over_right dc_law_over_right pm_law_over_right an_law_over_right cd_law_over_right ct_law_over_right), sl_law_over_right⟩)
    (c_law_over_right : PySem.W.codeIn K cd_law_over_right "_law_over_right" = true)
    (k_law_over_right : PySem.W.keepIn K (.ref f_law_over_right) = true)
    (a_law : PySem.W.nsIn K mainGlobals "law" = some (some (.ref f_law)))
    (l_law : K.lookup f_law = some ⟨oc_law, od_law, .func (PySem.W.fnOf "law" "law" (defArgs s_law) (defBody s_law) (defScope s_law) .none kV_law dc_law pm_law an_law cd_law ct_law), sl_law⟩)
    (c_law : PySem.W.codeIn K cd_law "law" = true)
    (k_law : PySem.W.keepIn K (.ref f_law) = true)
    (hc_Round_0 : PySem.W.plainGet K C_Round Str.empty = true)
    (hc_Round_1 : PySem.W.hasDictIn K C_Round = true)
    (hc_Round_2 : PySem.W.plainOver K C_Round = true)
    (hc_Round_3 : PySem.W.findIn K (.ref C_Round) "__setattr__" = some (some (.builtin "object.__setattr__")))
    (no_Round__length' : PySem.W.findIn K (.ref C_Round) "_length" = some none)
    (no_Round__calls' : PySem.W.findIn K (.ref C_Round) "_calls" = some none)
    (no_Round__total' : PySem.W.findIn K (.ref C_Round) "_total" = some none)
    (no_Round__step' : PySem.W.findIn K (.ref C_Round) "_step" = some none)
    (no_Round__begins' : PySem.W.findIn K (.ref C_Round) "_begins" = some none)
    (hm_Round_0 : PySem.W.makesIn K C_Round = true)
    (hm_Round_1 : PySem.W.findIn K (.ref C_Round) "__init__" = some (some (.ref f_Round_init)))
    (hm_Round_2 : PySem.W.isFn K (.ref f_Round_init) = true)
    (hm_Round_3 : PySem.W.keepIn K (.ref C_Round) = true)
    (hf_Round__first_begins_0 : PySem.W.findIn K (.ref C_Round) "_first_begins" = some (some (.ref f_Round__first_begins)))
    (hf_Round__first_begins_1 : PySem.W.isFn K (.ref f_Round__first_begins) = true)
    (hf_Round__first_begins_2 : PySem.W.keepIn K (.ref f_Round__first_begins) = true)
    (hf_Round__begin_0 : PySem.W.findIn K (.ref C_Round) "_begin" = some (some (.ref f_Round__begin)))
    (hf_Round__begin_1 : PySem.W.isFn K (.ref f_Round__begin) = true)
    (hf_Round__begin_2 : PySem.W.keepIn K (.ref f_Round__begin) = true)
    (hf_Round__begun_0 : PySem.W.findIn K (.ref C_Round) "_begun" = some (some (.ref f_Round__begun)))
    (hf_Round__begun_1 : PySem.W.isFn K (.ref f_Round__begun) = true)
    (hf_Round__begun_2 : PySem.W.keepIn K (.ref f_Round__begun) = true)
    (hf_Round__ended_0 : PySem.W.findIn K (.ref C_Round) "_ended" = some (some (.ref f_Round__ended)))
    (hf_Round__ended_1 : PySem.W.isFn K (.ref f_Round__ended) = true)
    (hf_Round__ended_2 : PySem.W.keepIn K (.ref f_Round__ended) = true)
    (hf_Round__came_0 : PySem.W.findIn K (.ref C_Round) "_came" = some (some (.ref f_Round__came)))
    (hf_Round__came_1 : PySem.W.isFn K (.ref f_Round__came) = true)
    (hf_Round__came_2 : PySem.W.keepIn K (.ref f_Round__came) = true)
    (hf_Round__hours_done_0 : PySem.W.findIn K (.ref C_Round) "_hours_done" = some (some (.ref f_Round__hours_done)))
    (hf_Round__hours_done_1 : PySem.W.isFn K (.ref f_Round__hours_done) = true)
    (hf_Round__hours_done_2 : PySem.W.keepIn K (.ref f_Round__hours_done) = true)
    (hf_Round__all_done_0 : PySem.W.findIn K (.ref C_Round) "_all_done" = some (some (.ref f_Round__all_done)))
    (hf_Round__all_done_1 : PySem.W.isFn K (.ref f_Round__all_done) = true)
    (hf_Round__all_done_2 : PySem.W.keepIn K (.ref f_Round__all_done) = true)
    (hf_Round__waiting_0 : PySem.W.findIn K (.ref C_Round) "_waiting" = some (some (.ref f_Round__waiting)))
    (hf_Round__waiting_1 : PySem.W.isFn K (.ref f_Round__waiting) = true)
    (hf_Round__waiting_2 : PySem.W.keepIn K (.ref f_Round__waiting) = true)
    (hf_Round_keeps_up_0 : PySem.W.findIn K (.ref C_Round) "keeps_up" = some (some (.ref f_Round_keeps_up)))
    (hf_Round_keeps_up_1 : PySem.W.isFn K (.ref f_Round_keeps_up) = true)
    (hf_Round_keeps_up_2 : PySem.W.keepIn K (.ref f_Round_keeps_up) = true)
    (hf_Round__refuse_no_call_0 : PySem.W.findIn K (.ref C_Round) "_refuse_no_call" = some (some (.ref f_Round__refuse_no_call)))
    (hf_Round__refuse_no_call_1 : PySem.W.isFn K (.ref f_Round__refuse_no_call) = true)
    (hf_Round__refuse_no_call_2 : PySem.W.keepIn K (.ref f_Round__refuse_no_call) = true)
    (hf_Round_begins_0 : PySem.W.findIn K (.ref C_Round) "begins" = some (some (.ref f_Round_begins)))
    (hf_Round_begins_1 : PySem.W.isFn K (.ref f_Round_begins) = true)
    (hf_Round_begins_2 : PySem.W.keepIn K (.ref f_Round_begins) = true)
    (hf_Round_ends_0 : PySem.W.findIn K (.ref C_Round) "ends" = some (some (.ref f_Round_ends)))
    (hf_Round_ends_1 : PySem.W.isFn K (.ref f_Round_ends) = true)
    (hf_Round_ends_2 : PySem.W.keepIn K (.ref f_Round_ends) = true)
    (hf_Round_at_0 : PySem.W.findIn K (.ref C_Round) "at" = some (some (.ref f_Round_at)))
    (hf_Round_at_1 : PySem.W.isFn K (.ref f_Round_at) = true)
    (hf_Round_at_2 : PySem.W.keepIn K (.ref f_Round_at) = true)
    (hf_Round_waiting_0 : PySem.W.findIn K (.ref C_Round) "waiting" = some (some (.ref f_Round_waiting)))
    (hf_Round_waiting_1 : PySem.W.isFn K (.ref f_Round_waiting) = true)
    (hf_Round_waiting_2 : PySem.W.keepIn K (.ref f_Round_waiting) = true)
    (hf_Round_how_many_0 : PySem.W.findIn K (.ref C_Round) "how_many" = some (some (.ref f_Round_how_many)))
    (hf_Round_how_many_1 : PySem.W.isFn K (.ref f_Round_how_many) = true)
    (hf_Round_how_many_2 : PySem.W.keepIn K (.ref f_Round_how_many) = true)
    (hf_Round_idle_0 : PySem.W.findIn K (.ref C_Round) "idle" = some (some (.ref f_Round_idle)))
    (hf_Round_idle_1 : PySem.W.isFn K (.ref f_Round_idle) = true)
    (hf_Round_idle_2 : PySem.W.keepIn K (.ref f_Round_idle) = true)
    (hf_Round_first_over_0 : PySem.W.findIn K (.ref C_Round) "first_over" = some (some (.ref f_Round_first_over)))
    (hf_Round_first_over_1 : PySem.W.isFn K (.ref f_Round_first_over) = true)
    (hf_Round_first_over_2 : PySem.W.keepIn K (.ref f_Round_first_over) = true)
    (hf_Round__hour_over_0 : PySem.W.findIn K (.ref C_Round) "_hour_over" = some (some (.ref f_Round__hour_over)))
    (hf_Round__hour_over_1 : PySem.W.isFn K (.ref f_Round__hour_over) = true)
    (hf_Round__hour_over_2 : PySem.W.keepIn K (.ref f_Round__hour_over) = true) : Txt mg K prm :=
  { n_all := PySem.W.mg_none_of X G z_all,
    n_enumerate := PySem.W.mg_none_of X G z_enumerate,
    n_int := PySem.W.mg_none_of X G z_int,
    n_len := PySem.W.mg_none_of X G z_len,
    n_list := PySem.W.mg_none_of X G z_list,
    n_max := PySem.W.mg_none_of X G z_max,
    n_min := PySem.W.mg_none_of X G z_min,
    n_range := PySem.W.mg_none_of X G z_range,
    n_repr := PySem.W.mg_none_of X G z_repr,
    n_sorted := PySem.W.mg_none_of X G z_sorted,
    n_str := PySem.W.mg_none_of X G z_str,
    n_sum := PySem.W.mg_none_of X G z_sum,
    n_tuple := PySem.W.mg_none_of X G z_tuple,
    n_type := PySem.W.mg_none_of X G z_type,
    n_zip := PySem.W.mg_none_of X G z_zip,
    t_MOST_LETTERS := t_MOST_LETTERS,
    c_MOST_LETTERS := PySem.W.mg_of X G y_MOST_LETTERS,
    a_NO_NAMES := a_NO_NAMES,
    c_NO_NAMES := PySem.W.mg_of X G y_NO_NAMES,
    q_NO_NAMES := fun H => .inr ⟨_, _, _, x_NO_NAMES, rfl, rfl, by show 10 ≤ sizeLine; decide, .cons ⟨t_NO_NAMES_0, rfl⟩ (.cons ⟨t_NO_NAMES_1, rfl⟩ (.cons ⟨t_NO_NAMES_2, rfl⟩ (.cons ⟨t_NO_NAMES_3, rfl⟩ (.cons ⟨t_NO_NAMES_4, rfl⟩ (.cons ⟨t_NO_NAMES_5, rfl⟩ (.cons ⟨t_NO_NAMES_6, rfl⟩ (.cons ⟨t_NO_NAMES_7, rfl⟩ (.cons ⟨t_NO_NAMES_8, rfl⟩ (.cons ⟨t_NO_NAMES_9, rfl⟩ (.nil))))))))))⟩,
    t_MOST_LENGTH := t_MOST_LENGTH,
    c_MOST_LENGTH := PySem.W.mg_of X G y_MOST_LENGTH,
    t_MOST_CALLS := t_MOST_CALLS,
    c_MOST_CALLS := PySem.W.mg_of X G y_MOST_CALLS,
    t_MOST_CALL_HOURS := t_MOST_CALL_HOURS,
    c_MOST_CALL_HOURS := PySem.W.mg_of X G y_MOST_CALL_HOURS,
    t_FARTHEST := t_FARTHEST,
    c_FARTHEST := PySem.W.mg_of X G y_FARTHEST,
    f_is_whole := f_is_whole,
    fd_is_whole := PySem.W.fnOf "is_whole" "is_whole" (defArgs s_is_whole) (defBody s_is_whole) (defScope s_is_whole) (.ref D_is_whole) kV_is_whole dc_is_whole pm_is_whole an_is_whole cd_is_whole ct_is_whole,
    F_is_whole := ⟨⟨oc_is_whole, od_is_whole, _, kV_is_whole, dc_is_whole, pm_is_whole, an_is_whole, cd_is_whole, ct_is_whole, sl_is_whole, rfl, l_is_whole, c_is_whole, .inr ⟨by simp, D_is_whole, _, _, _, rfl, x_is_whole, rfl, .cons ⟨u_is_whole_0, rfl⟩ (.nil)⟩, .inl rfl⟩, k_is_whole⟩,
    g_is_whole := PySem.W.mg_of X G a_is_whole,
    f_is_name := f_is_name,
    fd_is_name := PySem.W.fnOf "is_name" "is_name" (defArgs s_is_name) (defBody s_is_name) (defScope s_is_name) .none kV_is_name dc_is_name pm_is_name an_is_name cd_is_name ct_is_name,
    F_is_name := ⟨⟨oc_is_name, od_is_name, .none, kV_is_name, dc_is_name, pm_is_name, an_is_name, cd_is_name, ct_is_name, sl_is_name, rfl, l_is_name, c_is_name, .inl ⟨rfl, rfl⟩, .inl rfl⟩, k_is_name⟩,
    g_is_name := PySem.W.mg_of X G a_is_name,
    f_are_calls := f_are_calls,
    fd_are_calls := PySem.W.fnOf "_are_calls" "_are_calls" (defArgs s_are_calls) (defBody s_are_calls) (defScope s_are_calls) .none kV_are_calls dc_are_calls pm_are_calls an_are_calls cd_are_calls ct_are_calls,
    F_are_calls := ⟨⟨oc_are_calls, od_are_calls, .none, kV_are_calls, dc_are_calls, pm_are_calls, an_are_calls, cd_are_calls, ct_are_calls, sl_are_calls, rfl, l_are_calls, c_are_calls, .inl ⟨rfl, rfl⟩, .inl rfl⟩, k_are_calls⟩,
    g_are_calls := PySem.W.mg_of X G a_are_calls,
    f_refuse_no_hour := f_refuse_no_hour,
    fd_refuse_no_hour := PySem.W.fnOf "_refuse_no_hour" "_refuse_no_hour" (defArgs s_refuse_no_hour) (defBody s_refuse_no_hour) (defScope s_refuse_no_hour) .none kV_refuse_no_hour dc_refuse_no_hour pm_refuse_no_hour an_refuse_no_hour cd_refuse_no_hour ct_refuse_no_hour,
    F_refuse_no_hour := ⟨⟨oc_refuse_no_hour, od_refuse_no_hour, .none, kV_refuse_no_hour, dc_refuse_no_hour, pm_refuse_no_hour, an_refuse_no_hour, cd_refuse_no_hour, ct_refuse_no_hour, sl_refuse_no_hour, rfl, l_refuse_no_hour, c_refuse_no_hour, .inl ⟨rfl, rfl⟩, .inl rfl⟩, k_refuse_no_hour⟩,
    g_refuse_no_hour := PySem.W.mg_of X G a_refuse_no_hour,
    f_Round_init := f_Round_init,
    fd_Round_init := PySem.W.fnOf "__init__" "Round.__init__" (defArgs s_Round_init) (defBody s_Round_init) (defScope s_Round_init) (.ref D_Round_init) kV_Round_init dc_Round_init pm_Round_init an_Round_init cd_Round_init ct_Round_init,
    F_Round_init := ⟨⟨oc_Round_init, od_Round_init, _, kV_Round_init, dc_Round_init, pm_Round_init, an_Round_init, cd_Round_init, ct_Round_init, sl_Round_init, rfl, l_Round_init, c_Round_init, .inr ⟨by simp, D_Round_init, _, _, _, rfl, x_Round_init, rfl, .cons rfl (.nil)⟩, .inl rfl⟩, k_Round_init⟩,
    f_Round__first_begins := f_Round__first_begins,
    fd_Round__first_begins := PySem.W.fnOf "_first_begins" "Round._first_begins" (defArgs s_Round__first_begins) (defBody s_Round__first_begins) (defScope s_Round__first_begins) .none kV_Round__first_begins dc_Round__first_begins pm_Round__first_begins an_Round__first_begins cd_Round__first_begins ct_Round__first_begins,
    F_Round__first_begins := ⟨⟨oc_Round__first_begins, od_Round__first_begins, .none, kV_Round__first_begins, dc_Round__first_begins, pm_Round__first_begins, an_Round__first_begins, cd_Round__first_begins, ct_Round__first_begins, sl_Round__first_begins, rfl, l_Round__first_begins, c_Round__first_begins, .inl ⟨rfl, rfl⟩, .inl rfl⟩, k_Round__first_begins⟩,
    f_Round__begin := f_Round__begin,
    fd_Round__begin := PySem.W.fnOf "_begin" "Round._begin" (defArgs s_Round__begin) (defBody s_Round__begin) (defScope s_Round__begin) .none kV_Round__begin dc_Round__begin pm_Round__begin an_Round__begin cd_Round__begin ct_Round__begin,
    F_Round__begin := ⟨⟨oc_Round__begin, od_Round__begin, .none, kV_Round__begin, dc_Round__begin, pm_Round__begin, an_Round__begin, cd_Round__begin, ct_Round__begin, sl_Round__begin, rfl, l_Round__begin, c_Round__begin, .inl ⟨rfl, rfl⟩, .inl rfl⟩, k_Round__begin⟩,
    f_Round__begun := f_Round__begun,
    fd_Round__begun := PySem.W.fnOf "_begun" "Round._begun" (defArgs s_Round__begun) (defBody s_Round__begun) (defScope s_Round__begun) .none kV_Round__begun dc_Round__begun pm_Round__begun an_Round__begun cd_Round__begun ct_Round__begun,
    F_Round__begun := ⟨⟨oc_Round__begun, od_Round__begun, .none, kV_Round__begun, dc_Round__begun, pm_Round__begun, an_Round__begun, cd_Round__begun, ct_Round__begun, sl_Round__begun, rfl, l_Round__begun, c_Round__begun, .inl ⟨rfl, rfl⟩, .inl rfl⟩, k_Round__begun⟩,
    f_Round__ended := f_Round__ended,
    fd_Round__ended := PySem.W.fnOf "_ended" "Round._ended" (defArgs s_Round__ended) (defBody s_Round__ended) (defScope s_Round__ended) .none kV_Round__ended dc_Round__ended pm_Round__ended an_Round__ended cd_Round__ended ct_Round__ended,
    F_Round__ended := ⟨⟨oc_Round__ended, od_Round__ended, .none, kV_Round__ended, dc_Round__ended, pm_Round__ended, an_Round__ended, cd_Round__ended, ct_Round__ended, sl_Round__ended, rfl, l_Round__ended, c_Round__ended, .inl ⟨rfl, rfl⟩, .inl rfl⟩, k_Round__ended⟩,
    f_Round__came := f_Round__came,
    fd_Round__came := PySem.W.fnOf "_came" "Round._came" (defArgs s_Round__came) (defBody s_Round__came) (defScope s_Round__came) .none kV_Round__came dc_Round__came pm_Round__came an_Round__came cd_Round__came ct_Round__came,
    F_Round__came := ⟨⟨oc_Round__came, od_Round__came, .none, kV_Round__came, dc_Round__came, pm_Round__came, an_Round__came, cd_Round__came, ct_Round__came, sl_Round__came, rfl, l_Round__came, c_Round__came, .inl ⟨rfl, rfl⟩, .inl rfl⟩, k_Round__came⟩,
    f_Round__hours_done := f_Round__hours_done,
    fd_Round__hours_done := PySem.W.fnOf "_hours_done" "Round._hours_done" (defArgs s_Round__hours_done) (defBody s_Round__hours_done) (defScope s_Round__hours_done) .none kV_Round__hours_done dc_Round__hours_done pm_Round__hours_done an_Round__hours_done cd_Round__hours_done ct_Round__hours_done,
    F_Round__hours_done := ⟨⟨oc_Round__hours_done, od_Round__hours_done, .none, kV_Round__hours_done, dc_Round__hours_done, pm_Round__hours_done, an_Round__hours_done, cd_Round__hours_done, ct_Round__hours_done, sl_Round__hours_done, rfl, l_Round__hours_done, c_Round__hours_done, .inl ⟨rfl, rfl⟩, .inl rfl⟩, k_Round__hours_done⟩,
    f_Round__all_done := f_Round__all_done,
    fd_Round__all_done := PySem.W.fnOf "_all_done" "Round._all_done" (defArgs s_Round__all_done) (defBody s_Round__all_done) (defScope s_Round__all_done) .none kV_Round__all_done dc_Round__all_done pm_Round__all_done an_Round__all_done cd_Round__all_done ct_Round__all_done,
    F_Round__all_done := ⟨⟨oc_Round__all_done, od_Round__all_done, .none, kV_Round__all_done, dc_Round__all_done, pm_Round__all_done, an_Round__all_done, cd_Round__all_done, ct_Round__all_done, sl_Round__all_done, rfl, l_Round__all_done, c_Round__all_done, .inl ⟨rfl, rfl⟩, .inl rfl⟩, k_Round__all_done⟩,
    f_Round__waiting := f_Round__waiting,
    fd_Round__waiting := PySem.W.fnOf "_waiting" "Round._waiting" (defArgs s_Round__waiting) (defBody s_Round__waiting) (defScope s_Round__waiting) .none kV_Round__waiting dc_Round__waiting pm_Round__waiting an_Round__waiting cd_Round__waiting ct_Round__waiting,
    F_Round__waiting := ⟨⟨oc_Round__waiting, od_Round__waiting, .none, kV_Round__waiting, dc_Round__waiting, pm_Round__waiting, an_Round__waiting, cd_Round__waiting, ct_Round__waiting, sl_Round__waiting, rfl, l_Round__waiting, c_Round__waiting, .inl ⟨rfl, rfl⟩, .inl rfl⟩, k_Round__waiting⟩,
    f_Round_keeps_up := f_Round_keeps_up,
    fd_Round_keeps_up := PySem.W.fnOf "keeps_up" "Round.keeps_up" (defArgs s_Round_keeps_up) (defBody s_Round_keeps_up) (defScope s_Round_keeps_up) .none kV_Round_keeps_up dc_Round_keeps_up pm_Round_keeps_up an_Round_keeps_up cd_Round_keeps_up ct_Round_keeps_up,
    F_Round_keeps_up := ⟨⟨oc_Round_keeps_up, od_Round_keeps_up, .none, kV_Round_keeps_up, dc_Round_keeps_up, pm_Round_keeps_up, an_Round_keeps_up, cd_Round_keeps_up, ct_Round_keeps_up, sl_Round_keeps_up, rfl, l_Round_keeps_up, c_Round_keeps_up, .inl ⟨rfl, rfl⟩, .inl rfl⟩, k_Round_keeps_up⟩,
    f_Round__refuse_no_call := f_Round__refuse_no_call,
    fd_Round__refuse_no_call := PySem.W.fnOf "_refuse_no_call" "Round._refuse_no_call" (defArgs s_Round__refuse_no_call) (defBody s_Round__refuse_no_call) (defScope s_Round__refuse_no_call) .none kV_Round__refuse_no_call dc_Round__refuse_no_call pm_Round__refuse_no_call an_Round__refuse_no_call cd_Round__refuse_no_call ct_Round__refuse_no_call,
    F_Round__refuse_no_call := ⟨⟨oc_Round__refuse_no_call, od_Round__refuse_no_call, .none, kV_Round__refuse_no_call, dc_Round__refuse_no_call, pm_Round__refuse_no_call, an_Round__refuse_no_call, cd_Round__refuse_no_call, ct_Round__refuse_no_call, sl_Round__refuse_no_call, rfl, l_Round__refuse_no_call, c_Round__refuse_no_call, .inl ⟨rfl, rfl⟩, .inl rfl⟩, k_Round__refuse_no_call⟩,
    f_Round_begins := f_Round_begins,
    fd_Round_begins := PySem.W.fnOf "begins" "Round.begins" (defArgs s_Round_begins) (defBody s_Round_begins) (defScope s_Round_begins) .none kV_Round_begins dc_Round_begins pm_Round_begins an_Round_begins cd_Round_begins ct_Round_begins,
    F_Round_begins := ⟨⟨oc_Round_begins, od_Round_begins, .none, kV_Round_begins, dc_Round_begins, pm_Round_begins, an_Round_begins, cd_Round_begins, ct_Round_begins, sl_Round_begins, rfl, l_Round_begins, c_Round_begins, .inl ⟨rfl, rfl⟩, .inl rfl⟩, k_Round_begins⟩,
    f_Round_ends := f_Round_ends,
    fd_Round_ends := PySem.W.fnOf "ends" "Round.ends" (defArgs s_Round_ends) (defBody s_Round_ends) (defScope s_Round_ends) .none kV_Round_ends dc_Round_ends pm_Round_ends an_Round_ends cd_Round_ends ct_Round_ends,
    F_Round_ends := ⟨⟨oc_Round_ends, od_Round_ends, .none, kV_Round_ends, dc_Round_ends, pm_Round_ends, an_Round_ends, cd_Round_ends, ct_Round_ends, sl_Round_ends, rfl, l_Round_ends, c_Round_ends, .inl ⟨rfl, rfl⟩, .inl rfl⟩, k_Round_ends⟩,
    f_Round_at := f_Round_at,
    fd_Round_at := PySem.W.fnOf "at" "Round.at" (defArgs s_Round_at) (defBody s_Round_at) (defScope s_Round_at) .none kV_Round_at dc_Round_at pm_Round_at an_Round_at cd_Round_at ct_Round_at,
    F_Round_at := ⟨⟨oc_Round_at, od_Round_at, .none, kV_Round_at, dc_Round_at, pm_Round_at, an_Round_at, cd_Round_at, ct_Round_at, sl_Round_at, rfl, l_Round_at, c_Round_at, .inl ⟨rfl, rfl⟩, .inl rfl⟩, k_Round_at⟩,
    f_Round_waiting := f_Round_waiting,
    fd_Round_waiting := PySem.W.fnOf "waiting" "Round.waiting" (defArgs s_Round_waiting) (defBody s_Round_waiting) (defScope s_Round_waiting) .none kV_Round_waiting dc_Round_waiting pm_Round_waiting an_Round_waiting cd_Round_waiting ct_Round_waiting,
    F_Round_waiting := ⟨⟨oc_Round_waiting, od_Round_waiting, .none, kV_Round_waiting, dc_Round_waiting, pm_Round_waiting, an_Round_waiting, cd_Round_waiting, ct_Round_waiting, sl_Round_waiting, rfl, l_Round_waiting, c_Round_waiting, .inl ⟨rfl, rfl⟩, .inl rfl⟩, k_Round_waiting⟩,
    f_Round_how_many := f_Round_how_many,
    fd_Round_how_many := PySem.W.fnOf "how_many" "Round.how_many" (defArgs s_Round_how_many) (defBody s_Round_how_many) (defScope s_Round_how_many) .none kV_Round_how_many dc_Round_how_many pm_Round_how_many an_Round_how_many cd_Round_how_many ct_Round_how_many,
    F_Round_how_many := ⟨⟨oc_Round_how_many, od_Round_how_many, .none, kV_Round_how_many, dc_Round_how_many, pm_Round_how_many, an_Round_how_many, cd_Round_how_many, ct_Round_how_many, sl_Round_how_many, rfl, l_Round_how_many, c_Round_how_many, .inl ⟨rfl, rfl⟩, .inl rfl⟩, k_Round_how_many⟩,
    f_Round_idle := f_Round_idle,
    fd_Round_idle := PySem.W.fnOf "idle" "Round.idle" (defArgs s_Round_idle) (defBody s_Round_idle) (defScope s_Round_idle) .none kV_Round_idle dc_Round_idle pm_Round_idle an_Round_idle cd_Round_idle ct_Round_idle,
    F_Round_idle := ⟨⟨oc_Round_idle, od_Round_idle, .none, kV_Round_idle, dc_Round_idle, pm_Round_idle, an_Round_idle, cd_Round_idle, ct_Round_idle, sl_Round_idle, rfl, l_Round_idle, c_Round_idle, .inl ⟨rfl, rfl⟩, .inl rfl⟩, k_Round_idle⟩,
    f_Round_first_over := f_Round_first_over,
    fd_Round_first_over := PySem.W.fnOf "first_over" "Round.first_over" (defArgs s_Round_first_over) (defBody s_Round_first_over) (defScope s_Round_first_over) .none kV_Round_first_over dc_Round_first_over pm_Round_first_over an_Round_first_over cd_Round_first_over ct_Round_first_over,
    F_Round_first_over := ⟨⟨oc_Round_first_over, od_Round_first_over, .none, kV_Round_first_over, dc_Round_first_over, pm_Round_first_over, an_Round_first_over, cd_Round_first_over, ct_Round_first_over, sl_Round_first_over, rfl, l_Round_first_over, c_Round_first_over, .inl ⟨rfl, rfl⟩, .inl rfl⟩, k_Round_first_over⟩,
    f_Round__hour_over := f_Round__hour_over,
    fd_Round__hour_over := PySem.W.fnOf "_hour_over" "Round._hour_over" (defArgs s_Round__hour_over) (defBody s_Round__hour_over) (defScope s_Round__hour_over) .none kV_Round__hour_over dc_Round__hour_over pm_Round__hour_over an_Round__hour_over cd_Round__hour_over ct_Round__hour_over,
    F_Round__hour_over := ⟨⟨oc_Round__hour_over, od_Round__hour_over, .none, kV_Round__hour_over, dc_Round__hour_over, pm_Round__hour_over, an_Round__hour_over, cd_Round__hour_over, ct_Round__hour_over, sl_Round__hour_over, rfl, l_Round__hour_over, c_Round__hour_over, .inl ⟨rfl, rfl⟩, .inl rfl⟩, k_Round__hour_over⟩,
    f_law_mixed := f_law_mixed,
    fd_law_mixed := PySem.W.fnOf "_law_mixed" "_law_mixed" (defArgs s_law_mixed) (defBody s_law_mixed) (defScope s_law_mixed) .none kV_law_mixed dc_law_mixed pm_law_mixed an_law_mixed cd_law_mixed ct_law_mixed,
    F_law_mixed := ⟨⟨oc_law_mixed, od_law_mixed, .none, kV_law_mixed, dc_law_mixed, pm_law_mixed, an_law_mixed, cd_law_mixed, ct_law_mixed, sl_law_mixed, rfl, l_law_mixed, c_law_mixed, .inl ⟨rfl, rfl⟩, .inl rfl⟩, k_law_mixed⟩,
    g_law_mixed := PySem.W.mg_of X G a_law_mixed,
    f_law_folded := f_law_folded,
    fd_law_folded := PySem.W.fnOf "_law_folded" "_law_folded" (defArgs s_law_folded) (defBody s_law_folded) (defScope s_law_folded) .none kV_law_folded dc_law_folded pm_law_folded an_law_folded cd_law_folded ct_law_folded,
    F_law_folded := ⟨⟨oc_law_folded, od_law_folded, .none, kV_law_folded, dc_law_folded, pm_law_folded, an_law_folded, cd_law_folded, ct_law_folded, sl_law_folded, rfl, l_law_folded, c_law_folded, .inl ⟨rfl, rfl⟩, .inl rfl⟩, k_law_folded⟩,
    g_law_folded := PySem.W.mg_of X G a_law_folded,
    f_law_draw := f_law_draw,
    fd_law_draw := PySem.W.fnOf "_law_draw" "_law_draw" (defArgs s_law_draw) (defBody s_law_draw) (defScope s_law_draw) .none kV_law_draw dc_law_draw pm_law_draw an_law_draw cd_law_draw ct_law_draw,
    F_law_draw := ⟨⟨oc_law_draw, od_law_draw, .none, kV_law_draw, dc_law_draw, pm_law_draw, an_law_draw, cd_law_draw, ct_law_draw, sl_law_draw, rfl, l_law_draw, c_law_draw, .inl ⟨rfl, rfl⟩, .inl rfl⟩, k_law_draw⟩,
    g_law_draw := PySem.W.mg_of X G a_law_draw,
    f_law_begun := f_law_begun,
    fd_law_begun := PySem.W.fnOf "_law_begun" "_law_begun" (defArgs s_law_begun) (defBody s_law_begun) (defScope s_law_begun) .none kV_law_begun dc_law_begun pm_law_begun an_law_begun cd_law_begun ct_law_begun,
    F_law_begun := ⟨⟨oc_law_begun, od_law_begun, .none, kV_law_begun, dc_law_begun, pm_law_begun, an_law_begun, cd_law_begun, ct_law_begun, sl_law_begun, rfl, l_law_begun, c_law_begun, .inl ⟨rfl, rfl⟩, .inl rfl⟩, k_law_begun⟩,
    g_law_begun := PySem.W.mg_of X G a_law_begun,
    f_law_called := f_law_called,
    fd_law_called := PySem.W.fnOf "_law_called" "_law_called" (defArgs s_law_called) (defBody s_law_called) (defScope s_law_called) .none kV_law_called dc_law_called pm_law_called an_law_called cd_law_called ct_law_called,
    F_law_called := ⟨⟨oc_law_called, od_law_called, .none, kV_law_called, dc_law_called, pm_law_called, an_law_called, cd_law_called, ct_law_called, sl_law_called, rfl, l_law_called, c_law_called, .inl ⟨rfl, rfl⟩, .inl rfl⟩, k_law_called⟩,
    g_law_called := PySem.W.mg_of X G a_law_called,
    f_law_plain := f_law_plain,
    fd_law_plain := PySem.W.fnOf "_law_plain" "_law_plain" (defArgs s_law_plain) (defBody s_law_plain) (defScope s_law_plain) .none kV_law_plain dc_law_plain pm_law_plain an_law_plain cd_law_plain ct_law_plain,
    F_law_plain := ⟨⟨oc_law_plain, od_law_plain, .none, kV_law_plain, dc_law_plain, pm_law_plain, an_law_plain, cd_law_plain, ct_law_plain, sl_law_plain, rfl, l_law_plain, c_law_plain, .inl ⟨rfl, rfl⟩, .inl rfl⟩, k_law_plain⟩,
    g_law_plain := PySem.W.mg_of X G a_law_plain,
    f_law_rounds_on := f_law_rounds_on,
    fd_law_rounds_on := PySem.W.fnOf "_law_rounds_on" "_law_rounds_on" (defArgs s_law_rounds_on) (defBody s_law_rounds_on) (defScope s_law_rounds_on) .none kV_law_rounds_on dc_law_rounds_on pm_law_rounds_on an_law_rounds_on cd_law_rounds_on ct_law_rounds_on,
    F_law_rounds_on := ⟨⟨oc_law_rounds_on, od_law_rounds_on, .none, kV_law_rounds_on, dc_law_rounds_on, pm_law_rounds_on, an_law_rounds_on, cd_law_rounds_on, ct_law_rounds_on, sl_law_rounds_on, rfl, l_law_rounds_on, c_law_rounds_on, .inl ⟨rfl, rfl⟩, .inl rfl⟩, k_law_rounds_on⟩,
    g_law_rounds_on := PySem.W.mg_of X G a_law_rounds_on,
    f_law_calls_right := f_law_calls_right,
    fd_law_calls_right := PySem.W.fnOf "_law_calls_right" "_law_calls_right" (defArgs s_law_calls_right) (defBody s_law_calls_right) (defScope s_law_calls_right) .none kV_law_calls_right dc_law_calls_right pm_law_calls_right an_law_calls_right cd_law_calls_right ct_law_calls_right,
    F_law_calls_right := ⟨⟨oc_law_calls_right, od_law_calls_right, .none, kV_law_calls_right, dc_law_calls_right, pm_law_calls_right, an_law_calls_right, cd_law_calls_right, ct_law_calls_right, sl_law_calls_right, rfl, l_law_calls_right, c_law_calls_right, .inl ⟨rfl, rfl⟩, .inl rfl⟩, k_law_calls_right⟩,
    g_law_calls_right := PySem.W.mg_of X G a_law_calls_right,
    f_law_press_right := f_law_press_right,
    fd_law_press_right := PySem.W.fnOf "_law_press_right" "_law_press_right" (defArgs s_law_press_right) (defBody s_law_press_right) (defScope s_law_press_right) .none kV_law_press_right dc_law_press_right pm_law_press_right an_law_press_right cd_law_press_right ct_law_press_right,
    F_law_press_right := ⟨⟨oc_law_press_right, od_law_press_right, .none, kV_law_press_right, dc_law_press_right, pm_law_press_right, an_law_press_right, cd_law_press_right, ct_law_press_right, sl_law_press_right, rfl, l_law_press_right, c_law_press_right, .inl ⟨rfl, rfl⟩, .inl rfl⟩, k_law_press_right⟩,
    g_law_press_right := PySem.W.mg_of X G a_law_press_right,
    f_law_waits_right := f_law_waits_right,
    fd_law_waits_right := PySem.W.fnOf "_law_waits_right" "_law_waits_right" (defArgs s_law_waits_right) (defBody s_law_waits_right) (defScope s_law_waits_right) .none kV_law_waits_right dc_law_waits_right pm_law_waits_right an_law_waits_right cd_law_waits_right ct_law_waits_right,
    F_law_waits_right := ⟨⟨oc_law_waits_right, od_law_waits_right, .none, kV_law_waits_right, dc_law_waits_right, pm_law_waits_right, an_law_waits_right, cd_law_waits_right, ct_law_waits_right, sl_law_waits_right, rfl, l_law_waits_right, c_law_waits_right, .inl ⟨rfl, rfl⟩, .inl rfl⟩, k_law_waits_right⟩,
    g_law_waits_right := PySem.W.mg_of X G a_law_waits_right,
    f_law_many_right := f_law_many_right,
    fd_law_many_right := PySem.W.fnOf "_law_many_right" "_law_many_right" (defArgs s_law_many_right) (defBody s_law_many_right) (defScope s_law_many_right) .none kV_law_many_right dc_law_many_right pm_law_many_right an_law_many_right cd_law_many_right ct_law_many_right,
    F_law_many_right := ⟨⟨oc_law_many_right, od_law_many_right, .none, kV_law_many_right, dc_law_many_right, pm_law_many_right, an_law_many_right, cd_law_many_right, ct_law_many_right, sl_law_many_right, rfl, l_law_many_right, c_law_many_right, .inl ⟨rfl, rfl⟩, .inl rfl⟩, k_law_many_right⟩,
    g_law_many_right := PySem.W.mg_of X G a_law_many_right,
    f_law_over_right := f_law_over_right,
    fd_law_over_right := PySem.W.fnOf "_law_over_right" "_law_over_right" (defArgs s_law_over_right) (defBody s_law_over_right) (defScope s_law_over_right) .none kV_law_over_right dc_law_over_right pm_law_over_right an_law_over_right cd_law_over_right ct_law_over_right,
    F_law_over_right := ⟨⟨oc_law_over_right, od_law_over_right, .none, kV_law_over_right, dc_law_over_right, pm_law_over_right, an_law_over_right, cd_law_over_right, ct_law_over_right, sl_law_over_right, rfl, l_law_over_right, c_law_over_right, .inl ⟨rfl, rfl⟩, .inl rfl⟩, k_law_over_right⟩,
    g_law_over_right := PySem.W.mg_of X G a_law_over_right,
    f_law := f_law,
    fd_law := PySem.W.fnOf "law" "law" (defArgs s_law) (defBody s_law) (defScope s_law) .none kV_law dc_law pm_law an_law cd_law ct_law,
    F_law := ⟨⟨oc_law, od_law, .none, kV_law, dc_law, pm_law, an_law, cd_law, ct_law, sl_law, rfl, l_law, c_law, .inl ⟨rfl, rfl⟩, .inl rfl⟩, k_law⟩,
    g_law := PySem.W.mg_of X G a_law,
    C_Round := C_Round,
    g_Round := PySem.W.mg_of X G a_Round,
    cl_Round := ⟨hc_Round_0, hc_Round_1, hc_Round_2, hc_Round_3⟩,
    no_Round__length := no_Round__length',
    no_Round__calls := no_Round__calls',
    no_Round__total := no_Round__total',
    no_Round__step := no_Round__step',
    no_Round__begins := no_Round__begins',
    mk_Round := ⟨hm_Round_0, hm_Round_1, hm_Round_2, hm_Round_3⟩,
    m_Round__first_begins := ⟨hf_Round__first_begins_0, hf_Round__first_begins_1, hf_Round__first_begins_2⟩,
    m_Round__begin := ⟨hf_Round__begin_0, hf_Round__begin_1, hf_Round__begin_2⟩,
    m_Round__begun := ⟨hf_Round__begun_0, hf_Round__begun_1, hf_Round__begun_2⟩,
    m_Round__ended := ⟨hf_Round__ended_0, hf_Round__ended_1, hf_Round__ended_2⟩,
    m_Round__came := ⟨hf_Round__came_0, hf_Round__came_1, hf_Round__came_2⟩,
    m_Round__hours_done := ⟨hf_Round__hours_done_0, hf_Round__hours_done_1, hf_Round__hours_done_2⟩,
    m_Round__all_done := ⟨hf_Round__all_done_0, hf_Round__all_done_1, hf_Round__all_done_2⟩,
    m_Round__waiting := ⟨hf_Round__waiting_0, hf_Round__waiting_1, hf_Round__waiting_2⟩,
    m_Round_keeps_up := ⟨hf_Round_keeps_up_0, hf_Round_keeps_up_1, hf_Round_keeps_up_2⟩,
    m_Round__refuse_no_call := ⟨hf_Round__refuse_no_call_0, hf_Round__refuse_no_call_1, hf_Round__refuse_no_call_2⟩,
    m_Round_begins := ⟨hf_Round_begins_0, hf_Round_begins_1, hf_Round_begins_2⟩,
    m_Round_ends := ⟨hf_Round_ends_0, hf_Round_ends_1, hf_Round_ends_2⟩,
    m_Round_at := ⟨hf_Round_at_0, hf_Round_at_1, hf_Round_at_2⟩,
    m_Round_waiting := ⟨hf_Round_waiting_0, hf_Round_waiting_1, hf_Round_waiting_2⟩,
    m_Round_how_many := ⟨hf_Round_how_many_0, hf_Round_how_many_1, hf_Round_how_many_2⟩,
    m_Round_idle := ⟨hf_Round_idle_0, hf_Round_idle_1, hf_Round_idle_2⟩,
    m_Round_first_over := ⟨hf_Round_first_over_0, hf_Round_first_over_1, hf_Round_first_over_2⟩,
    m_Round__hour_over := ⟨hf_Round__hour_over_0, hf_Round__hour_over_1, hf_Round__hour_over_2⟩ }

theorem law_fin {l : PySem.W.OpenLaw} {w : World} {K : PySem.W.Frag} {mg : PySem.Str → Option Value} {fa : Addr} (hfa : mg "law" = some (.ref fa)) (T : Txt mg K w.params) :
    ∃ fd : FuncData, (∀ (s : Shared) (u : Value), BindsTo s fd ⟨[u], []⟩ [("script", u)]) ∧ ∀ base : Heap, K.In base → base.Ns mainGlobals mg → FnG l.prog w K mg base 10 fa fd ["script"] (spLawD K) := by
  have e := hfa.symm.trans T.g_law
  cases e
  refine ⟨T.fd_law, fun s u => ?_, fun base _ _ => ok_law T⟩
  exact FunD.bindsA (ps := ["script"]) T.F_law (fun kV doc pm an cdv ct us hl => match us, hl with | [a0], _ => rfl) s [u] rfl
end K
open PySem PySem.W PyProof.Rows in
set_option maxRecDepth 100000 in
set_option maxHeartbeats 0 in
theorem PySem.Challenge.cw_bindbench_k38_whole_comes_round_holds : PySem.Challenge.rw_bindbench_k38_whole_comes_round.Holds := by
  w_on; o_law; k_head; (case hw => w_witness2)
  k_fill
  refine Gd.walkG (l := PySem.Challenge.rw_bindbench_k38_whole_comes_round) (n := 63) (k := 10) (x := "script") (sp := fun w => Dl.spLawD _) rfl (by decide) rfl ⟨rfl, by decide, by decide⟩ (fun w h Y => PySem.W.kIn_of Y) ?F (fun _ _ a ns hl hS _ => ⟨a, ns, rfl, hS, hl, fun _ => rfl⟩)
  case F =>
    intro w mg fa h KX G hmg
    refine' K.law_fin hmg (K.txt_mk (prm := w.params) KX G ?a_Round ?z_all ?z_enumerate ?z_int ?z_len ?z_list ?z_max ?z_min ?z_range ?z_repr ?z_sorted ?z_str ?z_sum ?z_tuple ?z_type ?z_zip ?y_MOST_LETTERS ?y_NO_NAMES ?x_NO_NAMES ?y_MOST_LENGTH ?y_MOST_CALLS ?y_MOST_CALL_HOURS ?y_FARTHEST ?a_is_whole ?l_is_whole ?c_is_whole ?k_is_whole ?x_is_whole ?a_is_name ?l_is_name ?c_is_name ?k_is_name ?a_are_calls ?l_are_calls ?c_are_calls ?k_are_calls ?a_refuse_no_hour ?l_refuse_no_hour ?c_refuse_no_hour ?k_refuse_no_hour ?b_Round ?l_Round_init ?c_Round_init ?k_Round_init ?x_Round_init ?b_Round__first_begins ?l_Round__first_begins ?c_Round__first_begins ?k_Round__first_begins ?b_Round__begin ?l_Round__begin ?c_Round__begin ?k_Round__begin ?b_Round__begun ?l_Round__begun ?c_Round__begun ?k_Round__begun ?b_Round__ended ?l_Round__ended ?c_Round__ended ?k_Round__ended ?b_Round__came ?l_Round__came ?c_Round__came ?k_Round__came ?b_Round__hours_done ?l_Round__hours_done ?c_Round__hours_done ?k_Round__hours_done ?b_Round__all_done ?l_Round__all_done ?c_Round__all_done ?k_Round__all_done ?b_Round__waiting ?l_Round__waiting ?c_Round__waiting ?k_Round__waiting ?b_Round_keeps_up ?l_Round_keeps_up ?c_Round_keeps_up ?k_Round_keeps_up ?b_Round__refuse_no_call ?l_Round__refuse_no_call ?c_Round__refuse_no_call ?k_Round__refuse_no_call ?b_Round_begins ?l_Round_begins ?c_Round_begins ?k_Round_begins ?b_Round_ends ?l_Round_ends ?c_Round_ends ?k_Round_ends ?b_Round_at ?l_Round_at ?c_Round_at ?k_Round_at ?b_Round_waiting ?l_Round_waiting ?c_Round_waiting ?k_Round_waiting ?b_Round_how_many ?l_Round_how_many ?c_Round_how_many ?k_Round_how_many ?b_Round_idle ?l_Round_idle ?c_Round_idle ?k_Round_idle ?b_Round_first_over ?l_Round_first_over ?c_Round_first_over ?k_Round_first_over ?b_Round__hour_over ?l_Round__hour_over ?c_Round__hour_over ?k_Round__hour_over ?a_law_mixed ?l_law_mixed ?c_law_mixed ?k_law_mixed ?a_law_folded ?l_law_folded ?c_law_folded ?k_law_folded ?a_law_draw ?l_law_draw ?c_law_draw ?k_law_draw ?a_law_begun ?l_law_begun ?c_law_begun ?k_law_begun ?a_law_called ?l_law_called ?c_law_called ?k_law_called ?a_law_plain ?l_law_plain ?c_law_plain ?k_law_plain ?a_law_rounds_on ?l_law_rounds_on ?c_law_rounds_on ?k_law_rounds_on ?a_law_calls_right ?l_law_calls_right ?c_law_calls_right ?k_law_calls_right ?a_law_press_right ?l_law_press_right ?c_law_press_right ?k_law_press_right ?a_law_waits_right ?l_law_waits_right ?c_law_waits_right ?k_law_waits_right ?a_law_many_right ?l_law_many_right ?c_law_many_right ?k_law_many_right ?a_law_over_right ?l_law_over_right ?c_law_over_right ?k_law_over_right ?a_law ?l_law ?c_law ?k_law ?hc_Round_0 ?hc_Round_1 ?hc_Round_2 ?hc_Round_3 ?no_Round__length' ?no_Round__calls' ?no_Round__total' ?no_Round__step' ?no_Round__begins' ?hm_Round_0 ?hm_Round_1 ?hm_Round_2 ?hm_Round_3 ?hf_Round__first_begins_0 ?hf_Round__first_begins_1 ?hf_Round__first_begins_2 ?hf_Round__begin_0 ?hf_Round__begin_1 ?hf_Round__begin_2 ?hf_Round__begun_0 ?hf_Round__begun_1 ?hf_Round__begun_2 ?hf_Round__ended_0 ?hf_Round__ended_1 ?hf_Round__ended_2 ?hf_Round__came_0 ?hf_Round__came_1 ?hf_Round__came_2 ?hf_Round__hours_done_0 ?hf_Round__hours_done_1 ?hf_Round__hours_done_2 ?hf_Round__all_done_0 ?hf_Round__all_done_1 ?hf_Round__all_done_2 ?hf_Round__waiting_0 ?hf_Round__waiting_1 ?hf_Round__waiting_2 ?hf_Round_keeps_up_0 ?hf_Round_keeps_up_1 ?hf_Round_keeps_up_2 ?hf_Round__refuse_no_call_0 ?hf_Round__refuse_no_call_1 ?hf_Round__refuse_no_call_2 ?hf_Round_begins_0 ?hf_Round_begins_1 ?hf_Round_begins_2 ?hf_Round_ends_0 ?hf_Round_ends_1 ?hf_Round_ends_2 ?hf_Round_at_0 ?hf_Round_at_1 ?hf_Round_at_2 ?hf_Round_waiting_0 ?hf_Round_waiting_1 ?hf_Round_waiting_2 ?hf_Round_how_many_0 ?hf_Round_how_many_1 ?hf_Round_how_many_2 ?hf_Round_idle_0 ?hf_Round_idle_1 ?hf_Round_idle_2 ?hf_Round_first_over_0 ?hf_Round_first_over_1 ?hf_Round_first_over_2 ?hf_Round__hour_over_0 ?hf_Round__hour_over_1 ?hf_Round__hour_over_2)
    (case a_Round => first | k_is | rfl | kernel_rfl | decide +kernel)
    (case z_all => first | k_is | rfl | kernel_rfl | decide +kernel)
    (case z_enumerate => first | k_is | rfl | kernel_rfl | decide +kernel)
    (case z_int => first | k_is | rfl | kernel_rfl | decide +kernel)
    (case z_len => first | k_is | rfl | kernel_rfl | decide +kernel)
    (case z_list => first | k_is | rfl | kernel_rfl | decide +kernel)
    (case z_max => first | k_is | rfl | kernel_rfl | decide +kernel)
    (case z_min => first | k_is | rfl | kernel_rfl | decide +kernel)
    (case z_range => first | k_is | rfl | kernel_rfl | decide +kernel)
    (case z_repr => first | k_is | rfl | kernel_rfl | decide +kernel)
    (case z_sorted => first | k_is | rfl | kernel_rfl | decide +kernel)
    (case z_str => first | k_is | rfl | kernel_rfl | decide +kernel)
    (case z_sum => first | k_is | rfl | kernel_rfl | decide +kernel)
    (case z_tuple => first | k_is | rfl | kernel_rfl | decide +kernel)
    (case z_type => first | k_is | rfl | kernel_rfl | decide +kernel)
    (case z_zip => first | k_is | rfl | kernel_rfl | decide +kernel)
    (case y_MOST_LETTERS => first | k_is | rfl | kernel_rfl | decide +kernel)
    (case y_NO_NAMES => first | k_is | rfl | kernel_rfl | decide +kernel)
    (case x_NO_NAMES => first | k_is | rfl | kernel_rfl | decide +kernel)
    (case y_MOST_LENGTH => first | k_is | rfl | kernel_rfl | decide +kernel)
    (case y_MOST_CALLS => first | k_is | rfl | kernel_rfl | decide +kernel)
    (case y_MOST_CALL_HOURS => first | k_is | rfl | kernel_rfl | decide +kernel)
    (case y_FARTHEST => first | k_is | rfl | kernel_rfl | decide +kernel)
    (case a_is_whole => first | k_is | rfl | kernel_rfl | decide +kernel)
    (case l_is_whole => first | k_is | rfl | kernel_rfl | decide +kernel)
    (case c_is_whole => first | k_is | rfl | kernel_rfl | decide +kernel)
    (case k_is_whole => first | k_is | rfl | kernel_rfl | decide +kernel)
    (case x_is_whole => first | k_is | rfl | kernel_rfl | decide +kernel)
    (case a_is_name => first | k_is | rfl | kernel_rfl | decide +kernel)
    (case l_is_name => first | k_is | rfl | kernel_rfl | decide +kernel)
    (case c_is_name => first | k_is | rfl | kernel_rfl | decide +kernel)
    (case k_is_name => first | k_is | rfl | kernel_rfl | decide +kernel)
    (case a_are_calls => first | k_is | rfl | kernel_rfl | decide +kernel)
    (case l_are_calls => first | k_is | rfl | kernel_rfl | decide +kernel)
    (case c_are_calls => first | k_is | rfl | kernel_rfl | decide +kernel)
    (case k_are_calls => first | k_is | rfl | kernel_rfl | decide +kernel)
    (case a_refuse_no_hour => first | k_is | rfl | kernel_rfl | decide +kernel)
    (case l_refuse_no_hour => first | k_is | rfl | kernel_rfl | decide +kernel)
    (case c_refuse_no_hour => first | k_is | rfl | kernel_rfl | decide +kernel)
    (case k_refuse_no_hour => first | k_is | rfl | kernel_rfl | decide +kernel)
    (case b_Round => first | k_is | rfl | kernel_rfl | decide +kernel)
    (case l_Round_init => first | k_is | rfl | kernel_rfl | decide +kernel)
    (case c_Round_init => first | k_is | rfl | kernel_rfl | decide +kernel)
    (case k_Round_init => first | k_is | rfl | kernel_rfl | decide +kernel)
    (case x_Round_init => first | k_is | rfl | kernel_rfl | decide +kernel)
    (case b_Round__first_begins => first | k_is | rfl | kernel_rfl | decide +kernel)
    (case l_Round__first_begins => first | k_is | rfl | kernel_rfl | decide +kernel)
    (case c_Round__first_begins => first | k_is | rfl | kernel_rfl | decide +kernel)
    (case k_Round__first_begins => first | k_is | rfl | kernel_rfl | decide +kernel)
    (case b_Round__begin => first | k_is | rfl | kernel_rfl | decide +kernel)
    (case l_Round__begin => first | k_is | rfl | kernel_rfl | decide +kernel)
    (case c_Round__begin => first | k_is | rfl | kernel_rfl | decide +kernel)
    (case k_Round__begin => first | k_is | rfl | kernel_rfl | decide +kernel)
    (case b_Round__begun => first | k_is | rfl | kernel_rfl | decide +kernel)
    (case l_Round__begun => first | k_is | rfl | kernel_rfl | decide +kernel)
    (case c_Round__begun => first | k_is | rfl | kernel_rfl | decide +kernel)
    (case k_Round__begun => first | k_is | rfl | kernel_rfl | decide +kernel)
    (case b_Round__ended => first | k_is | rfl | kernel_rfl | decide +kernel)
    (case l_Round__ended => first | k_is | rfl | kernel_rfl | decide +kernel)
    (case c_Round__ended => first | k_is | rfl | kernel_rfl | decide +kernel)
    (case k_Round__ended => first | k_is | rfl | kernel_rfl | decide +kernel)
    (case b_Round__came => first | k_is | rfl | kernel_rfl | decide +kernel)
    (case l_Round__came => first | k_is | rfl | kernel_rfl | decide +kernel)
    (case c_Round__came => first | k_is | rfl | kernel_rfl | decide +kernel)
    (case k_Round__came => first | k_is | rfl | kernel_rfl | decide +kernel)
    (case b_Round__hours_done => first | k_is | rfl | kernel_rfl | decide +kernel)
    (case l_Round__hours_done => first | k_is | rfl | kernel_rfl | decide +kernel)
    (case c_Round__hours_done => first | k_is | rfl | kernel_rfl | decide +kernel)
    (case k_Round__hours_done => first | k_is | rfl | kernel_rfl | decide +kernel)
    (case b_Round__all_done => first | k_is | rfl | kernel_rfl | decide +kernel)
    (case l_Round__all_done => first | k_is | rfl | kernel_rfl | decide +kernel)
    (case c_Round__all_done => first | k_is | rfl | kernel_rfl | decide +kernel)
    (case k_Round__all_done => first | k_is | rfl | kernel_rfl | decide +kernel)
    (case b_Round__waiting => first | k_is | rfl | kernel_rfl | decide +kernel)
    (case l_Round__waiting => first | k_is | rfl | kernel_rfl | decide +kernel)
    (case c_Round__waiting => first | k_is | rfl | kernel_rfl | decide +kernel)
    (case k_Round__waiting => first | k_is | rfl | kernel_rfl | decide +kernel)
    (case b_Round_keeps_up => first | k_is | rfl | kernel_rfl | decide +kernel)
    (case l_Round_keeps_up => first | k_is | rfl | kernel_rfl | decide +kernel)
    (case c_Round_keeps_up => first | k_is | rfl | kernel_rfl | decide +kernel)
    (case k_Round_keeps_up => first | k_is | rfl | kernel_rfl | decide +kernel)
    (case b_Round__refuse_no_call => first | k_is | rfl | kernel_rfl | decide +kernel)
    (case l_Round__refuse_no_call => first | k_is | rfl | kernel_rfl | decide +kernel)
    (case c_Round__refuse_no_call => first | k_is | rfl | kernel_rfl | decide +kernel)
    (case k_Round__refuse_no_call => first | k_is | rfl | kernel_rfl | decide +kernel)
    (case b_Round_begins => first | k_is | rfl | kernel_rfl | decide +kernel)
    (case l_Round_begins => first | k_is | rfl | kernel_rfl | decide +kernel)
    (case c_Round_begins => first | k_is | rfl | kernel_rfl | decide +kernel)
    (case k_Round_begins => first | k_is | rfl | kernel_rfl | decide +kernel)
    (case b_Round_ends => first | k_is | rfl | kernel_rfl | decide +kernel)
    (case l_Round_ends => first | k_is | rfl | kernel_rfl | decide +kernel)
    (case c_Round_ends => first | k_is | rfl | kernel_rfl | decide +kernel)
    (case k_Round_ends => first | k_is | rfl | kernel_rfl | decide +kernel)
    (case b_Round_at => first | k_is | rfl | kernel_rfl | decide +kernel)
    (case l_Round_at => first | k_is | rfl | kernel_rfl | decide +kernel)
    (case c_Round_at => first | k_is | rfl | kernel_rfl | decide +kernel)
    (case k_Round_at => first | k_is | rfl | kernel_rfl | decide +kernel)
    (case b_Round_waiting => first | k_is | rfl | kernel_rfl | decide +kernel)
    (case l_Round_waiting => first | k_is | rfl | kernel_rfl | decide +kernel)
    (case c_Round_waiting => first | k_is | rfl | kernel_rfl | decide +kernel)
    (case k_Round_waiting => first | k_is | rfl | kernel_rfl | decide +kernel)
    (case b_Round_how_many => first | k_is | rfl | kernel_rfl | decide +kernel)
    (case l_Round_how_many => first | k_is | rfl | kernel_rfl | decide +kernel)
    (case c_Round_how_many => first | k_is | rfl | kernel_rfl | decide +kernel)
    (case k_Round_how_many => first | k_is | rfl | kernel_rfl | decide +kernel)
    (case b_Round_idle => first | k_is | rfl | kernel_rfl | decide +kernel)
    (case l_Round_idle => first | k_is | rfl | kernel_rfl | decide +kernel)
    (case c_Round_idle => first | k_is | rfl | kernel_rfl | decide +kernel)
    (case k_Round_idle => first | k_is | rfl | kernel_rfl | decide +kernel)
    (case b_Round_first_over => first | k_is | rfl | kernel_rfl | decide +kernel)
    (case l_Round_first_over => first | k_is | rfl | kernel_rfl | decide +kernel)
    (case c_Round_first_over => first | k_is | rfl | kernel_rfl | decide +kernel)
    (case k_Round_first_over => first | k_is | rfl | kernel_rfl | decide +kernel)
    (case b_Round__hour_over => first | k_is | rfl | kernel_rfl | decide +kernel)
    (case l_Round__hour_over => first | k_is | rfl | kernel_rfl | decide +kernel)
    (case c_Round__hour_over => first | k_is | rfl | kernel_rfl | decide +kernel)
    (case k_Round__hour_over => first | k_is | rfl | kernel_rfl | decide +kernel)
    (case a_law_mixed => first | k_is | rfl | kernel_rfl | decide +kernel)
    (case l_law_mixed => first | k_is | rfl | kernel_rfl | decide +kernel)
    (case c_law_mixed => first | k_is | rfl | kernel_rfl | decide +kernel)
    (case k_law_mixed => first | k_is | rfl | kernel_rfl | decide +kernel)
    (case a_law_folded => first | k_is | rfl | kernel_rfl | decide +kernel)
    (case l_law_folded => first | k_is | rfl | kernel_rfl | decide +kernel)
    (case c_law_folded => first | k_is | rfl | kernel_rfl | decide +kernel)
    (case k_law_folded => first | k_is | rfl | kernel_rfl | decide +kernel)
    (case a_law_draw => first | k_is | rfl | kernel_rfl | decide +kernel)
    (case l_law_draw => first | k_is | rfl | kernel_rfl | decide +kernel)
    (case c_law_draw => first | k_is | rfl | kernel_rfl | decide +kernel)
    (case k_law_draw => first | k_is | rfl | kernel_rfl | decide +kernel)
    (case a_law_begun => first | k_is | rfl | kernel_rfl | decide +kernel)
    (case l_law_begun => first | k_is | rfl | kernel_rfl | decide +kernel)
    (case c_law_begun => first | k_is | rfl | kernel_rfl | decide +kernel)
    (case k_law_begun => first | k_is | rfl | kernel_rfl | decide +kernel)
    (case a_law_called => first | k_is | rfl | kernel_rfl | decide +kernel)
    (case l_law_called => first | k_is | rfl | kernel_rfl | decide +kernel)
    (case c_law_called => first | k_is | rfl | kernel_rfl | decide +kernel)
    (case k_law_called => first | k_is | rfl | kernel_rfl | decide +kernel)
    (case a_law_plain => first | k_is | rfl | kernel_rfl | decide +kernel)
    (case l_law_plain => first | k_is | rfl | kernel_rfl | decide +kernel)
    (case c_law_plain => first | k_is | rfl | kernel_rfl | decide +kernel)
    (case k_law_plain => first | k_is | rfl | kernel_rfl | decide +kernel)
    (case a_law_rounds_on => first | k_is | rfl | kernel_rfl | decide +kernel)
    (case l_law_rounds_on => first | k_is | rfl | kernel_rfl | decide +kernel)
    (case c_law_rounds_on => first | k_is | rfl | kernel_rfl | decide +kernel)
    (case k_law_rounds_on => first | k_is | rfl | kernel_rfl | decide +kernel)
    (case a_law_calls_right => first | k_is | rfl | kernel_rfl | decide +kernel)
    (case l_law_calls_right => first | k_is | rfl | kernel_rfl | decide +kernel)
    (case c_law_calls_right => first | k_is | rfl | kernel_rfl | decide +kernel)
    (case k_law_calls_right => first | k_is | rfl | kernel_rfl | decide +kernel)
    (case a_law_press_right => first | k_is | rfl | kernel_rfl | decide +kernel)
    (case l_law_press_right => first | k_is | rfl | kernel_rfl | decide +kernel)
    (case c_law_press_right => first | k_is | rfl | kernel_rfl | decide +kernel)
    (case k_law_press_right => first | k_is | rfl | kernel_rfl | decide +kernel)
    (case a_law_waits_right => first | k_is | rfl | kernel_rfl | decide +kernel)
    (case l_law_waits_right => first | k_is | rfl | kernel_rfl | decide +kernel)
    (case c_law_waits_right => first | k_is | rfl | kernel_rfl | decide +kernel)
    (case k_law_waits_right => first | k_is | rfl | kernel_rfl | decide +kernel)
    (case a_law_many_right => first | k_is | rfl | kernel_rfl | decide +kernel)
    (case l_law_many_right => first | k_is | rfl | kernel_rfl | decide +kernel)
    (case c_law_many_right => first | k_is | rfl | kernel_rfl | decide +kernel)
    (case k_law_many_right => first | k_is | rfl | kernel_rfl | decide +kernel)
    (case a_law_over_right => first | k_is | rfl | kernel_rfl | decide +kernel)
    (case l_law_over_right => first | k_is | rfl | kernel_rfl | decide +kernel)
    (case c_law_over_right => first | k_is | rfl | kernel_rfl | decide +kernel)
    (case k_law_over_right => first | k_is | rfl | kernel_rfl | decide +kernel)
    (case a_law => first | k_is | rfl | kernel_rfl | decide +kernel)
    (case l_law => first | k_is | rfl | kernel_rfl | decide +kernel)
    (case c_law => first | k_is | rfl | kernel_rfl | decide +kernel)
    (case k_law => first | k_is | rfl | kernel_rfl | decide +kernel)
    (case hc_Round_0 => first | k_is | rfl | kernel_rfl | decide +kernel)
    (case hc_Round_1 => first | k_is | rfl | kernel_rfl | decide +kernel)
    (case hc_Round_2 => first | k_is | rfl | kernel_rfl | decide +kernel)
    (case hc_Round_3 => first | k_is | rfl | kernel_rfl | decide +kernel)
    (case no_Round__length' => first | k_is | rfl | kernel_rfl | decide +kernel)
    (case no_Round__calls' => first | k_is | rfl | kernel_rfl | decide +kernel)
    (case no_Round__total' => first | k_is | rfl | kernel_rfl | decide +kernel)
    (case no_Round__step' => first | k_is | rfl | kernel_rfl | decide +kernel)
    (case no_Round__begins' => first | k_is | rfl | kernel_rfl | decide +kernel)
    (case hm_Round_0 => first | k_is | rfl | kernel_rfl | decide +kernel)
    (case hm_Round_1 => first | k_is | rfl | kernel_rfl | decide +kernel)
    (case hm_Round_2 => first | k_is | rfl | kernel_rfl | decide +kernel)
    (case hm_Round_3 => first | k_is | rfl | kernel_rfl | decide +kernel)
    (case hf_Round__first_begins_0 => first | k_is | rfl | kernel_rfl | decide +kernel)
    (case hf_Round__first_begins_1 => first | k_is | rfl | kernel_rfl | decide +kernel)
    (case hf_Round__first_begins_2 => first | k_is | rfl | kernel_rfl | decide +kernel)
    (case hf_Round__begin_0 => first | k_is | rfl | kernel_rfl | decide +kernel)
    (case hf_Round__begin_1 => first | k_is | rfl | kernel_rfl | decide +kernel)
    (case hf_Round__begin_2 => first | k_is | rfl | kernel_rfl | decide +kernel)
    (case hf_Round__begun_0 => first | k_is | rfl | kernel_rfl | decide +kernel)
    (case hf_Round__begun_1 => first | k_is | rfl | kernel_rfl | decide +kernel)
    (case hf_Round__begun_2 => first | k_is | rfl | kernel_rfl | decide +kernel)
    (case hf_Round__ended_0 => first | k_is | rfl | kernel_rfl | decide +kernel)
    (case hf_Round__ended_1 => first | k_is | rfl | kernel_rfl | decide +kernel)
    (case hf_Round__ended_2 => first | k_is | rfl | kernel_rfl | decide +kernel)
    (case hf_Round__came_0 => first | k_is | rfl | kernel_rfl | decide +kernel)
    (case hf_Round__came_1 => first | k_is | rfl | kernel_rfl | decide +kernel)
    (case hf_Round__came_2 => first | k_is | rfl | kernel_rfl | decide +kernel)
    (case hf_Round__hours_done_0 => first | k_is | rfl | kernel_rfl | decide +kernel)
    (case hf_Round__hours_done_1 => first | k_is | rfl | kernel_rfl | decide +kernel)
    (case hf_Round__hours_done_2 => first | k_is | rfl | kernel_rfl | decide +kernel)
    (case hf_Round__all_done_0 => first | k_is | rfl | kernel_rfl | decide +kernel)
    (case hf_Round__all_done_1 => first | k_is | rfl | kernel_rfl | decide +kernel)
    (case hf_Round__all_done_2 => first | k_is | rfl | kernel_rfl | decide +kernel)
    (case hf_Round__waiting_0 => first | k_is | rfl | kernel_rfl | decide +kernel)
    (case hf_Round__waiting_1 => first | k_is | rfl | kernel_rfl | decide +kernel)
    (case hf_Round__waiting_2 => first | k_is | rfl | kernel_rfl | decide +kernel)
    (case hf_Round_keeps_up_0 => first | k_is | rfl | kernel_rfl | decide +kernel)
    (case hf_Round_keeps_up_1 => first | k_is | rfl | kernel_rfl | decide +kernel)
    (case hf_Round_keeps_up_2 => first | k_is | rfl | kernel_rfl | decide +kernel)
    (case hf_Round__refuse_no_call_0 => first | k_is | rfl | kernel_rfl | decide +kernel)
    (case hf_Round__refuse_no_call_1 => first | k_is | rfl | kernel_rfl | decide +kernel)
    (case hf_Round__refuse_no_call_2 => first | k_is | rfl | kernel_rfl | decide +kernel)
    (case hf_Round_begins_0 => first | k_is | rfl | kernel_rfl | decide +kernel)
    (case hf_Round_begins_1 => first | k_is | rfl | kernel_rfl | decide +kernel)
    (case hf_Round_begins_2 => first | k_is | rfl | kernel_rfl | decide +kernel)
    (case hf_Round_ends_0 => first | k_is | rfl | kernel_rfl | decide +kernel)
    (case hf_Round_ends_1 => first | k_is | rfl | kernel_rfl | decide +kernel)
    (case hf_Round_ends_2 => first | k_is | rfl | kernel_rfl | decide +kernel)
    (case hf_Round_at_0 => first | k_is | rfl | kernel_rfl | decide +kernel)
    (case hf_Round_at_1 => first | k_is | rfl | kernel_rfl | decide +kernel)
    (case hf_Round_at_2 => first | k_is | rfl | kernel_rfl | decide +kernel)
    (case hf_Round_waiting_0 => first | k_is | rfl | kernel_rfl | decide +kernel)
    (case hf_Round_waiting_1 => first | k_is | rfl | kernel_rfl | decide +kernel)
    (case hf_Round_waiting_2 => first | k_is | rfl | kernel_rfl | decide +kernel)
    (case hf_Round_how_many_0 => first | k_is | rfl | kernel_rfl | decide +kernel)
    (case hf_Round_how_many_1 => first | k_is | rfl | kernel_rfl | decide +kernel)
    (case hf_Round_how_many_2 => first | k_is | rfl | kernel_rfl | decide +kernel)
    (case hf_Round_idle_0 => first | k_is | rfl | kernel_rfl | decide +kernel)
    (case hf_Round_idle_1 => first | k_is | rfl | kernel_rfl | decide +kernel)
    (case hf_Round_idle_2 => first | k_is | rfl | kernel_rfl | decide +kernel)
    (case hf_Round_first_over_0 => first | k_is | rfl | kernel_rfl | decide +kernel)
    (case hf_Round_first_over_1 => first | k_is | rfl | kernel_rfl | decide +kernel)
    (case hf_Round_first_over_2 => first | k_is | rfl | kernel_rfl | decide +kernel)
    (case hf_Round__hour_over_0 => first | k_is | rfl | kernel_rfl | decide +kernel)
    (case hf_Round__hour_over_1 => first | k_is | rfl | kernel_rfl | decide +kernel)
    (case hf_Round__hour_over_2 => first | k_is | rfl | kernel_rfl | decide +kernel)
