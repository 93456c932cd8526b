import PyProof.Rows.All
import Wide.All
import OpenK.AllK
import Wide.FinOn
import HandS.ForMost
import HandS.IsInst
import HandS.Defaults
import HandS.Replace
import HandS.TupMul
import HandS.More
import KE.IntTextLaws
import HandS.ForExc
import HandS.ExcInit
import HandS.Lambda
import HandS.ExcIs
import HandS.EndTab
import KE.KExcIs
import HandS.ExcField
import HandS.WrittenGet
import PyProof.TypeEq
import HandS.TupAny
import PyProof.ReprBulk
import PySem.Challenge.RW_bindbench_k02_steps_and_kinds
set_option Elab.async false
set_option linter.all false
set_option maxRecDepth 100000
set_option maxHeartbeats 2000000
namespace Gd
open PySem PySem.Spec PyProof.Rows L2

/-! ### a promise of a def that holds where no repr is under way -/
structure FnG (P : Program) (w : World) (K : PySem.W.Frag) (mg : Str → Option Value) (base : Heap) (k : Nat) (f : Addr) (fd : FuncData) (ps : List Str) (sp : Sp) : Prop where
  args : ∀ {vs H Q E}, sp vs H Q E → vs.length = ps.length
  runs : ∀ {A : Around} {out : List Env} {s : Shared} {H : Hp} {ar : Args} {us : List Value} {vs : List V} {Q : VK} {E : XK},
    A.guards = some [] → Room k A → Env0 P w K mg base A out s H → BindsTo s fd ar (ps.zip us) → Vals vs us → sp vs H Q E →
    codeAny (model P w) A (.call (.ref f) ar) (CR CX0 out P w H s Q E) s

variable {P : Program} {w : World} {K : PySem.W.Frag} {mg : Str → Option Value} {base : Heap}

theorem FnG.of {k : Nat} {f : Addr} {fd : FuncData} {ps : List Str} {sp : Sp} (F : FnOk P w K mg base CX0 k f fd ps sp) : FnG P w K mg base k f fd ps sp :=
  ⟨fun h => F.len _ _ _ _ h, fun _ hr e hb r h => F.run _ _ _ _ _ _ _ _ _ hr e hb r h⟩

/-- what CR CX0 says of a result -/
theorem cr_out {out : List Env} {H : Hp} {s s' : Shared} {Q : VK} {E : XK} {r : Result} (h : CR CX0 out P w H s Q E r s') : ∃ u, r = .ok (.ret u) ∧ CE out P w H s Q u s' := by
  match r, h with
  | .ok (.ret u), h => exact ⟨u, rfl, h⟩
  | .ok .next, h => exact False.elim h
  | .ok .brk, h => exact False.elim h
  | .ok .cont, h => exact False.elim h
  | .error _, h => exact False.elim h

theorem deeper_guards {A : Around} {env : Env} : (A.deeper env).guards = A.guards := rfl

/-- a def, from its body, where no repr is under way -/
theorem fn_okC {x qual : Str} {st : Stmt} {f : Addr} {fd : FuncData} {N ps : List Str} {k : Nat} {sp : Sp} (F : Fun K x qual st f fd) (S : FnScope N ps (defScope st)) (len : ∀ vs H Q E, sp vs H Q E → vs.length = ps.length)
    (hbody : ∀ (cdv : Value) (A : Around) (out : List Env) (s : Shared) (H : Hp) (vs : List V) (Q : VK) (E : XK), (∃ oc od kV doc pm an ct osl, K.lookup f = some ⟨oc, od, .func (PySem.W.fnOf x qual (defArgs st) (defBody st) (defScope st) .none kV doc pm an cdv ct), osl⟩) → A.guards = some [] → Room k (A.deeper (envOfC qual (defScope st) s.heap.objs.size f cdv)) → sp vs H Q E →
      ∃ t, PSs (cxOf CX0 P w K mg base N qual (defScope st) f cdv A out s H E).nox (defBody st) t ∧ t { nx := fun _ H' => Q .non H', rt := Q } (start N vs) H) : FnG P w K mg base (k + 1) f fd ps sp := by
  obtain ⟨oc, od, kV, doc, pm, an, cdv, ct, osl, rfl, lk, hcd⟩ := F.ex
  refine ⟨fun h => len _ _ _ _ h, ?_⟩
  intro A out s H ar us vs Q E hA room e0 bnd rel pr
  obtain ⟨t, body, start'⟩ := hbody cdv A out s H vs Q E ⟨oc, od, kV, doc, pm, an, ct, osl, lk⟩ hA (room.deeper _) pr
  have inK : K.In s.heap := e0.mod.kin.keeps (fun b o q => (e0.bs b o q).1)
  have nolim : s.heap.NoLimit := e0.mod.nolimit.keeps (fun b o q => (e0.bs b o q).1)
  refine codeAny_call_function room.depth (inK _ _ lk) rfl S.co S.gen rfl (PySem.W.codeRec_of inK hcd) (bnd _ _ _ _ ?_)
  have kinds : ∀ y ∈ ps.zip us, (defScope st).names.lookup y.1 = some .local ∨ ((defScope st).names.lookup y.1 = some .cell ∧ ((cellsFrom (s.heap.objs.size + 1) (defScope st).names []).lookup y.1).isSome = true) := by
    rintro ⟨nm, val⟩ hy
    have m := (List.of_mem_zip hy).1
    exact (S.par nm m).imp id fun q => ⟨q, PySem.W.cellsFrom_some _ _ _ (.inl q)⟩
  refine wpAny_newFunctionEnv_cells S.kind kinds ?_
  rintro env rfl s1 made
  refine ⟨nolim.keeps made.toInCall.keep, codeAny_func ?_⟩
  have inv0 := inv_start (CX := CX0) (mg := mg) (qual := qual) (cd := cdv) (E := E) S room.hd e0 (len _ _ _ _ pr) rel made
  refine wpAny_mono ((body.nox).run [] s1 (start N vs) H _ inv0 start') ?_ fun e s' z => z
  intro fl s' z
  match fl, z with
  | .ret u, ⟨v, σ', H', J, rv, q⟩ => exact ⟨v, H', J.os, J.bare, J.base, J.hok, rv, q⟩
  | .next, ⟨σ', H', J, q⟩ => exact ⟨.non, H', J.os, J.bare, J.base, J.hok, rfl, q⟩
  | .brk, ⟨_, _, _, q⟩ => exact False.elim q
  | .cont, ⟨_, _, _, q⟩ => exact False.elim q

theorem fn_okG {x qual : Str} {st : Stmt} {f : Addr} {fd : FuncData} {N ps : List Str} {k : Nat} {sp : Sp} (F : Fun K x qual st f fd) (S : FnScope N ps (defScope st)) (len : ∀ vs H Q E, sp vs H Q E → vs.length = ps.length)
    (hbody : ∀ (cdv : Value) (A : Around) (out : List Env) (s : Shared) (H : Hp) (vs : List V) (Q : VK) (E : XK), A.guards = some [] → Room k (A.deeper (envOfC qual (defScope st) s.heap.objs.size f cdv)) → sp vs H Q E →
      ∃ t, PSs (cxOf CX0 P w K mg base N qual (defScope st) f cdv A out s H E).nox (defBody st) t ∧ t { nx := fun _ H' => Q .non H', rt := Q } (start N vs) H) : FnG P w K mg base (k + 1) f fd ps sp :=
  fn_okC F S len fun cdv A out s H vs Q E _ => hbody cdv A out s H vs Q E

/-! ### calls of such defs -/
section
variable {X : Cx} {k : Nat} {f : Addr} {fd : FuncData} {ps : List Str} {sp : Sp} {dvs : List V} {ds : List Value} {E : XK} {x : Str} {p pos : Pos} {e : Expr} {es : List Expr} {t : TA}
theorem goG (G : FnG X.prog X.w X.K X.mg X.base k f fd ps sp) (hA : X.A.guards = some []) (room : Room k X.A) (bd : Binds X.K fd ps ds) (dv : Vals dvs ds)
    {pins : List (Addr × Obj)} {σ : L2.St} {H : Hp} {s : Shared} {Q : VK} {us : List Value} {vs : List V} (I : Inv X pins σ H s) (r : Vals vs us) (pr : sp (vs ++ dvs) H Q E) :
    wpAny (model X.prog X.w) X.A (call (.ref f) us) (EP X pins σ Q) X.xe s := by
  have rel := r.append dv
  have n : (us ++ ds).length = ps.length := rel.length ▸ G.args pr
  refine wpAny_call (codeAny_mono (G.runs hA room I.env0 (bd s us I.kIn n) rel pr) ?_)
  intro res s' out
  obtain ⟨u, rfl, ce⟩ := cr_out out
  exact I.after ce
/-- f(e, ..) of such a def -/
theorem pe_callG (G : FnG X.prog X.w X.K X.mg X.base k f fd ps sp) (hA : X.A.guards = some []) (room : Room k X.A) (gl : Gl X x) (at_ : X.mg x = some (.ref f)) (kp : PySem.W.keepIn X.K (.ref f) = true) (bd : Binds X.K fd ps ds) (dv : Vals dvs ds)
    (ha : PA X (e :: es) t) (ndb : (x == ("__debug__" : Str)) = false := by decide) (h1 : starEach (e :: es) X.env = (false, eval e X.env) :: starEach es X.env := by rfl) (h2 : (backTo pos (starEach es X.env)).any (·.1) = false := by rfl) :
    PE X (.Call (.Name x p) (e :: es) [] pos) (tCall sp dvs E t) :=
  ⟨fun pins s σ H Q I h => wpAny_Call_Name_kw (ld_glob I gl at_ (PySem.W.callWith_K (h₀ := X.base) I.ok.mod.kin kp
    (thn (ha.run pos pins s σ H _ I h) fun us s1 ⟨vs, H1, J, r, q⟩ => ⟨J.kIn, goG G hA room bd dv J r q⟩) h1 h2) ndb)⟩
end

/-! ### repr -/
section
variable {X : Cx}
theorem vals_one {x : V} {us : List Value} (r : Vals [x] us) : ∃ u, us = [u] ∧ RelV x u := by
  cases r with
  | cons a b => cases b; exact ⟨_, rfl, a⟩
/-- what may be shown -/
structure Shw (d : PyData) : Prop where
  ok : d.showable = true
  nod : d.hasDict = false
  dep : d.depth ≤ 60
  len : d.shown.length ≤ sizeLine
/-- repr(x) of data: its text hangs on the data alone -/
def rRepr (K : PySem.W.Frag) : List V → Hp → VK → Prop := fun xs H Q => ∃ (x : V) (d : PyData), xs = [x] ∧ Dp K H x d ∧ Shw d ∧ Q (.str d.shown) H
theorem call_repr (hA : X.A.guards = some []) (hu : X.A.units + 64 < cLine) : CallR X (.builtin "repr") (rRepr X.K) := by
  intro pins s σ H xs us Q I r h
  obtain ⟨x, d, rfl, hd, ⟨hs, hn, hdep, hz⟩, q⟩ := h
  obtain ⟨u, rfl, ru⟩ := vals_one r
  obtain ⟨as, rd⟩ := Dp.reads I d _ u hd ru
  have big : ∀ a : Addr, u = .ref a → wpAny (model X.prog X.w) X.A (call (.builtin "repr") [u]) (EP X pins σ Q) X.xe s := by
    rintro a rfl
    refine repr_of_reads' rd hs (PyData.noDict_hsm hn) hA (by omega) (fun _ _ e => e) (fun h' u tk kp => ?_) hz
    exact ⟨.str d.shown, H, I.kept kp, ⟨u, rfl⟩, q⟩
  cases hd with
  | non =>
    obtain rfl : u = Value.none := ru
    exact PySem.P.repr_of_none ⟨.str _, H, I.tok _, ⟨_, rfl⟩, q⟩
  | bl b =>
    obtain rfl : u = Value.bool b := ru
    refine PySem.P.repr_of_bool ⟨.str _, H, I.tok _, ⟨_, rfl⟩, ?_⟩
    cases b <;> exact q
  | int i =>
    obtain ⟨t, rfl⟩ := ru
    refine PySem.P.repr_of_int ?_ ⟨.str _, H, I.tok _, ⟨_, rfl⟩, q⟩
    simpa [PyData.showable] using hs
  | str z =>
    obtain ⟨t, rfl⟩ := ru
    exact PySem.P.repr_of_str ⟨.str _, H, I.tok _, ⟨_, rfl⟩, q⟩ hz
  | lst _ _ => exact big _ ru
  | tup _ _ => exact big _ ru
end
/-! ### the law's own call, where no repr is under way -/
/-- the heap below: all but the script -/
theorem below_script {s : Shared} {H : Hp} {a : Addr} {vs : Array Value} {n : Nat} {mb : Str → Option Value} (KX : K.In s.heap) (hns : s.heap.Ns mainGlobals mg) (hb : s.heap.Ns builtinsNs mb) (hbb : ∀ x : Str, x ≠ "__name__" → mb x = bootBuiltins x)
    (lim : s.heap.NoLimit) (ha : s.heap.get? a = some { cls := .type "list", data := .seq vs n }) (only : ∀ b, b ≠ a → H b = none) (apart : K.lookup a = none ∨ H a = none) :
    K.In (hidT s.heap H) ∧ (hidT s.heap H).Ns mainGlobals mg ∧ Mod K mg (hidT s.heap H) := by
  have names : ∀ (b : Addr) (m : Str → Option Value), s.heap.Ns b m → (hidT s.heap H).Ns b m := by
    rintro b m ⟨o, es, ep, q, dat, rest⟩
    refine ⟨o, es, ep, hidT_get q (only b fun z => ?_), dat, rest⟩
    subst z
    rw [ha] at q
    cases q
    cases (show Data.seq vs n = Data.dict es ep from dat)
  have inK : K.In (hidT s.heap H) := fun b o q => hidT_get (KX b o q) (by
    by_cases z : b = a
    · subst z
      rcases apart with w1 | w1
      · rw [w1] at q; cases q
      · exact w1
    · exact only b z)
  obtain ⟨mc, c1, c2⟩ := lim
  exact ⟨inK, names _ _ hns, ⟨inK, names _ _ hns, ⟨mb, names _ _ hb, hbb⟩, ⟨mc, names _ _ c1, c2⟩⟩⟩

theorem run_script {mb : Str → Option Value} {k : Nat} {fa a : Addr} {fd : FuncData} {x : Str} {sp : Sp} {s : Shared} {vs : List Value} {H : Hp}
    (KX : K.In s.heap) (hns : s.heap.Ns mainGlobals mg) (hb : s.heap.Ns builtinsNs mb) (hbb : ∀ x : Str, x ≠ "__name__" → mb x = bootBuiltins x) (lim : s.heap.NoLimit) (nog : s.gens = #[])
    (ha : s.heap.get? a = some { cls := .type "list", data := .seq vs.toArray }) (room : Room k callerA)
    (G : ∀ base : Heap, K.In base → base.Ns mainGlobals mg → FnG P w K mg base k fa fd [x] sp) (bind : ∀ (s : Shared) (u : Value), BindsTo s fd ⟨[u], []⟩ [(x, u)])
    (only : ∀ b, b ≠ a → H b = none) (apart : K.lookup a = none ∨ H a = none) (ok : HOk P w H s.heap) (fz : ∀ u, H a = some u → ∃ o v, u = .frz o v)
    (pr : sp [.ref a] H (fun v _ => v = .bl true) fun _ _ _ => False) :
    codeAny (model P w) callerA (.call (.ref fa) ⟨[.ref a], []⟩) (fun r s' => r = .ok (.ret (.bool true)) ∧ OldK s.heap s'.heap ∧ s'.os = s.os ∧ AllBare s'.gens) s := by
  obtain ⟨inK, nsm, md⟩ := below_script KX hns hb hbb lim ha only apart
  have none_in : ∀ b : Addr, b ∈ frs ([] : List Env) → False := fun b z => by cases z
  have env0 : Env0 P w K mg (hidT s.heap H) callerA [] s H :=
    { frames := rfl, mod := md, bs := fun b o q => of_hidT q, bsz := Nat.le_of_eq (hidT_size _ _), funs := trivial, frf := fun b z => (none_in b z).elim, hok := ok, bare := .of_eq nog }
  refine codeAny_mono ((G _ inK nsm).runs (us := [.ref a]) (vs := [.ref a]) rfl room env0 (bind s (.ref a)) (.cons rfl .nil) pr) ?_
  intro r s' out
  obtain ⟨u, rfl, v, H', os, bare, un, ok', rel, q⟩ := cr_out out
  subst q
  obtain rfl : u = Value.bool true := rel
  refine ⟨rfl, OldK.of_keep ?_, os, bare⟩
  intro b o old
  cases q : H b with
  | none => exact un.keep b o old q (fun z => none_in b z) (fun z => by cases z)
  | some ho =>
    by_cases z : b = a
    · subst z
      obtain ⟨ob, v', rfl⟩ := fz _ q
      have e1 := (ok b _ q).1
      have e2 := (ok' b _ (un.frzs b ob _ q)).1
      rw [old] at e1
      cases e1
      exact e2
    · rw [only b z] at q
      cases q

/-- what k_head leaves, from the promise of the law's def -/
theorem walkG {l : PySem.W.OpenLaw} {n k : Nat} {q : Program} {loose : List Str} {XP : (Str → Option Value) → Heap → Prop} {YP : World → Heap → Prop} {d : DefRec} {KK : Params → PySem.W.Frag} {sp : World → Sp} {x : Str}
    (hn : l.most = some n) (hn2 : n ≤ sizeLine) (nod : d.params.defaults = []) (room : Room k callerA) (hY : ∀ (w : World) (h : Heap), YP w h → (KK w.params).In h)
    (G : ∀ (w : World) (mg : Str → Option Value) (fa : Addr) (h : Heap), (KK w.params).In h → h.Ns mainGlobals mg → mg d.name = some (.ref fa) →
      ∃ fd : FuncData, (∀ (s : Shared) (u : Value), BindsTo s fd ⟨[u], []⟩ [(x, u)]) ∧ ∀ base : Heap, (KK w.params).In base → base.Ns mainGlobals mg → FnG l.prog w (KK w.params) mg base k fa fd [x] (sp w))
    (pr : ∀ (w : World) (H : Hp) (a : Addr) (ns : List Int), ns.length ≤ n → SqL (KK w.params) H a (ns.map V.int) → (∀ b, b ≠ a → H b = none) → sp w [.ref a] H (fun v _ => v = .bl true) fun _ _ _ => False) :
    PySem.W.WalkO q loose XP YP l.row.toRowW d [] (fun f vs => PySem.call f vs) := by
  refine Att.attach_call hn nod ?_
  intro w s0 s1 mg mb fa o pm cd doc a vs ns T Y _ _ _ at_ obj intsA len nog
  have KX := hY w _ Y
  obtain ⟨fd, bind, F⟩ := G w mg fa _ KX T.T.g at_
  have size : (ns.map V.int).length ≤ sizeLine := by
    rw [List.length_map]
    exact Nat.le_trans len hn2
  cases z : (KK w.params).lookup a with
  | none =>
    have at1 : (fun b => if b = a then some (HO.frz { cls := .type "list", data := .seq vs.toArray } (.lst (ns.map V.int))) else none : Hp) a = some (HO.frz { cls := .type "list", data := .seq vs.toArray } (.lst (ns.map V.int))) := if_pos rfl
    refine run_script (H := fun b => if b = a then some (.frz { cls := .type "list", data := .seq vs.toArray } (.lst (ns.map V.int))) else none) KX T.T.g T.T.b T.T.builtins T.T.nolimit nog obj room F bind (fun b ne => if_neg ne) (.inl z) ?_ ?_ ?_
    · intro b u e
      by_cases ne : b = a
      · subst ne
        have e2 := at1.symm.trans e
        cases e2
        exact ⟨obj, size, vs, _, vals_ints intsA, obj⟩
      · have e' := (if_neg ne).symm.trans e
        cases e'
    · intro u e
      have e2 := at1.symm.trans e
      cases e2
      exact ⟨_, _, rfl⟩
    · exact pr w _ a ns len (.inl (.inr ⟨_, at1⟩)) fun b ne => if_neg ne
  | some ob =>
    have e := KX a ob z
    rw [obj] at e
    cases e
    refine run_script (H := fun _ => none) KX T.T.g T.T.b T.T.builtins T.T.nolimit nog obj room F bind (fun _ _ => rfl) (.inr rfl) (fun b u e => by cases (show (none : Option HO) = some u from e)) (fun u e => by cases (show (none : Option HO) = some u from e)) ?_
    refine pr w _ a ns len (.inr ⟨_, vs.toArray, _, z, rfl, rfl, rfl, ?_, by simpa using vals_ints intsA⟩) fun _ _ => rfl
    rw [List.size_toArray, intsA.length]
    rw [List.length_map] at size
    exact size
end Gd

set_option maxRecDepth 100000
set_option maxHeartbeats 2000000
namespace Gd
open PySem PySem.Spec PyProof.Rows L2

/-! ### walks of any kind, by a word at each turn -/
section
variable {J : It} {g : TG} {tb : TS} {D : Ends} {σ : L2.St} {H : Hp}
theorem for_gen (n : Nat) (Pv : Nat → L2.St → Hp → Prop) (h0 : Pv 0 σ H) (go : ∀ i σ H, i < n → Pv i σ H → J.go i H) (stop : ∀ σ H, Pv n σ H → J.stop n H)
    (turn : ∀ i σ H x H', i < n → Pv i σ H → J.yld i H x H' → g x σ H' fun σ2 H2 => tb { D with nx := Pv (i + 1), ct := Pv (i + 1), bk := D.nx } σ2 H2) (fin : ∀ σ H, Pv n σ H → D.nx σ H) :
    ∃ W : Nat → Nat → L2.St → Hp → Prop, (∃ m, W 0 m σ H) ∧ ∀ i m σ H, W i m σ H → (J.stop i H ∧ D.nx σ H) ∨
      (J.go i H ∧ ∃ N : L2.St → Hp → Prop, (∀ σ' H', N σ' H' → ∃ m', m' < m ∧ W (i + 1) m' σ' H') ∧ ∀ x H', J.yld i H x H' → g x σ H' fun σ2 H2 => tb { D with nx := N, ct := N, bk := D.nx } σ2 H2) := by
  refine ⟨fun i m s h => i + m = n ∧ Pv i s h, ⟨n, Nat.zero_add n, h0⟩, fun i m s h hw => ?_⟩
  obtain ⟨e, p⟩ := hw
  match m, e with
  | 0, e =>
    obtain rfl : i = n := e
    exact .inl ⟨stop s h p, fin s h p⟩
  | m + 1, e =>
    have lt : i < n := by omega
    exact .inr ⟨go i s h lt p, Pv (i + 1), fun s' h' p' => ⟨m, Nat.lt_succ_self m, by omega, p'⟩, fun x h' y => turn i s h x h' lt p y⟩
theorem lc_gen {tt : TT} {te : TE} {vs : List Nat} {A : Addr} {Qd : Hp → Prop} (n : Nat) (Pv : Nat → Hp → Prop) (h0 : Pv 0 (upd H A (.lst []))) (go : ∀ i H, i < n → Pv i H → J.go i H) (stop : ∀ H, Pv n H → J.stop n H)
    (turn : ∀ i H x H', i < n → Pv i H → J.yld i H x H' → g x (wipe σ vs) H' fun σ2 H2 => wipe σ2 vs = wipe σ vs ∧ tt σ2 H2 fun b H3 =>
      if b = true then te σ2 H3 fun y H4 => ∃ acc, H4 A = some (.lst acc) ∧ acc.length < sizeLine ∧ Pv (i + 1) (upd H4 A (.lst (acc ++ [y]))) else Pv (i + 1) H3) (fin : ∀ H, Pv n H → Qd H) :
    ∃ W : Nat → Nat → Hp → Prop, (∃ m, W 0 m (upd H A (.lst []))) ∧ ∀ i m H, W i m H → (J.stop i H ∧ Qd H) ∨
      (J.go i H ∧ ∃ Nx : Hp → Prop, (∀ H', Nx H' → ∃ m', m' < m ∧ W (i + 1) m' H') ∧ ∀ x H', J.yld i H x H' → g x (wipe σ vs) H' fun σ2 H2 => wipe σ2 vs = wipe σ vs ∧ tt σ2 H2 fun b H3 =>
        if b = true then te σ2 H3 fun y H4 => ∃ acc, H4 A = some (.lst acc) ∧ acc.length < sizeLine ∧ Nx (upd H4 A (.lst (acc ++ [y]))) else Nx H3) := by
  refine ⟨fun i m h => i + m = n ∧ Pv i h, ⟨n, Nat.zero_add n, h0⟩, fun i m h hw => ?_⟩
  obtain ⟨e, p⟩ := hw
  match m, e with
  | 0, e =>
    obtain rfl : i = n := e
    exact .inl ⟨stop h p, fin h p⟩
  | m + 1, e =>
    have lt : i < n := by omega
    exact .inr ⟨go i h lt p, Pv (i + 1), fun h' p' => ⟨m, Nat.lt_succ_self m, by omega, p'⟩, fun x h' y => turn i h x h' lt p y⟩
end
/-- over enumerate(list) -/
theorem for_enum {K : PySem.W.Frag} {a : Addr} {xs : List V} {g : TG} {tb : TS} {D : Ends} {σ : L2.St} {H : Hp} (Pv : Nat → L2.St → Hp → Prop) (h0 : Pv 0 σ H) (st : ∀ i σ H, Pv i σ H → SqL K H a xs)
    (turn : ∀ i x σ H T, i < xs.length → xs[i]? = some x → Pv i σ H → H T = none → g (.ref T) σ (upd H T (.tup [.int (i : Nat), x])) fun σ2 H2 => tb { D with nx := Pv (i + 1), ct := Pv (i + 1), bk := D.nx } σ2 H2) (fin : ∀ σ H, Pv xs.length σ H → D.nx σ H) :
    ∃ W : Nat → Nat → L2.St → Hp → Prop, (∃ m, W 0 m σ H) ∧ ∀ i m σ H, W i m σ H → ((Ite K a).stop i H ∧ D.nx σ H) ∨
      ((Ite K a).go i H ∧ ∃ N : L2.St → Hp → Prop, (∀ σ' H', N σ' H' → ∃ m', m' < m ∧ W (i + 1) m' σ' H') ∧ ∀ x H', (Ite K a).yld i H x H' → g x σ H' fun σ2 H2 => tb { D with nx := N, ct := N, bk := D.nx } σ2 H2) := by
  refine for_gen xs.length Pv h0 (fun i s h lt p => ⟨xs, xs[i], st i s h p, List.getElem?_eq_getElem lt⟩) (fun s h p => ⟨xs, st _ s h p, Nat.le_refl _⟩) (fun i s h x h' lt p y => ?_) fin
  obtain ⟨T, z, rfl, fresh, rfl, known⟩ := y
  exact turn i z s h T lt (known xs (st i s h p)) p fresh
/-- over a text -/
theorem for_str {x : PySem.Str} {g : TG} {tb : TS} {D : Ends} {σ : L2.St} {H : Hp} (Pv : Nat → L2.St → Hp → Prop) (h0 : Pv 0 σ H)
    (turn : ∀ i c σ H, i < x.cps.toList.length → x.cps.toList[i]? = some c → Pv i σ H → g (.str ⟨#[c]⟩) σ H fun σ2 H2 => tb { D with nx := Pv (i + 1), ct := Pv (i + 1), bk := D.nx } σ2 H2) (fin : ∀ σ H, Pv x.cps.toList.length σ H → D.nx σ H) :
    ∃ W : Nat → Nat → L2.St → Hp → Prop, (∃ m, W 0 m σ H) ∧ ∀ i m σ H, W i m σ H → ((Its x).stop i H ∧ D.nx σ H) ∨
      ((Its x).go i H ∧ ∃ N : L2.St → Hp → Prop, (∀ σ' H', N σ' H' → ∃ m', m' < m ∧ W (i + 1) m' σ' H') ∧ ∀ v H', (Its x).yld i H v H' → g v σ H' fun σ2 H2 => tb { D with nx := N, ct := N, bk := D.nx } σ2 H2) := by
  refine for_gen x.cps.toList.length Pv h0 (fun i s h lt p => by show i < x.cps.size; simpa using lt) (fun s h p => by show x.cps.size ≤ x.cps.toList.length; simp) (fun i s h v h' lt p y => ?_) fin
  obtain ⟨rfl, c, e, rfl⟩ := y
  exact turn i c s _ lt (by simpa using e) p
theorem lc_str {x : PySem.Str} {g : TG} {σ : L2.St} {H : Hp} {tt : TT} {te : TE} {vs : List Nat} {A : Addr} {Qd : Hp → Prop} (Pv : Nat → Hp → Prop) (h0 : Pv 0 (upd H A (.lst [])))
    (turn : ∀ i c H, i < x.cps.toList.length → x.cps.toList[i]? = some c → Pv i H → g (.str ⟨#[c]⟩) (wipe σ vs) H fun σ2 H2 => wipe σ2 vs = wipe σ vs ∧ tt σ2 H2 fun b H3 =>
      if b = true then te σ2 H3 fun y H4 => ∃ acc, H4 A = some (.lst acc) ∧ acc.length < sizeLine ∧ Pv (i + 1) (upd H4 A (.lst (acc ++ [y]))) else Pv (i + 1) H3) (fin : ∀ H, Pv x.cps.toList.length H → Qd H) :
    ∃ W : Nat → Nat → Hp → Prop, (∃ m, W 0 m (upd H A (.lst []))) ∧ ∀ i m H, W i m H → ((Its x).stop i H ∧ Qd H) ∨
      ((Its x).go i H ∧ ∃ Nx : Hp → Prop, (∀ H', Nx H' → ∃ m', m' < m ∧ W (i + 1) m' H') ∧ ∀ v H', (Its x).yld i H v H' → g v (wipe σ vs) H' fun σ2 H2 => wipe σ2 vs = wipe σ vs ∧ tt σ2 H2 fun b H3 =>
        if b = true then te σ2 H3 fun y H4 => ∃ acc, H4 A = some (.lst acc) ∧ acc.length < sizeLine ∧ Nx (upd H4 A (.lst (acc ++ [y]))) else Nx H3) := by
  refine lc_gen x.cps.toList.length Pv h0 (fun i h lt p => by show i < x.cps.size; simpa using lt) (fun h p => by show x.cps.size ≤ x.cps.toList.length; simp) (fun i h v h' lt p y => ?_) fin
  obtain ⟨rfl, c, e, rfl⟩ := y
  exact turn i c _ lt (by simpa using e) p

/-! ### heaps -/
theorem same_new {H : Hp} {p : Addr} {o : HO} (h : H p = none) : Same H (upd H p o) := fun b u e => by
  rw [upd_ne (ne_of_none e h)]
  exact e
theorem same_put {H H' : Hp} {p : Addr} {o : HO} (s : Same H H') (h : H p = none) : Same H (upd H' p o) := fun b u e => by
  rw [upd_ne (ne_of_none e h)]
  exact s b u e
theorem same_both {H H' : Hp} {p : Addr} {o : HO} (s : Same H H') : Same (upd H p o) (upd H' p o) := fun b u e => by
  by_cases z : b = p
  · subst z
    rw [upd_same] at e ⊢
    exact e
  · rw [upd_ne z] at e ⊢
    exact s b u e

/-! ### a call by keywords alone -/
section
variable {X : Cx} {CX : CXT} {k : Nat} {f : Addr} {fd : FuncData} {ps ks : List PySem.Str} {sp : Sp} {E : XK} {x : PySem.Str} {p pos : Pos} {kws : List Keyword} {tk : TA} {g : List Value → List Value → List Value} {gV : List V → List V → List V}
theorem pe_callK0 (F : FnOk X.prog X.w X.K X.mg X.base CX k f fd ps sp) (room : Room k X.A) (gl : Gl X x) (at_ : X.mg x = some (.ref f)) (kp : PySem.W.keepIn X.K (.ref f) = true) (kb : KBinds X.K fd ps ks g gV) (pass : Passes CX X E)
    (hkw : PK X kws tk) (h1 : (backToKw pos (keywordEach kws X.env)).all (·.1.isSome) = true := by rfl) (h2 : (backToKw pos (keywordEach kws X.env)).filterMap (·.1) = ks := by rfl) (ndb : (x == ("__debug__" : PySem.Str)) = false := by decide)
    (h3 : ((backTo pos (starEach [] X.env)).any (·.1) || (backToKw pos (keywordEach kws X.env)).any (·.1.isNone)) = false := by rfl) :
    PE X (.Call (.Name x p) [] kws pos) (fun σ H Q => tk σ H fun zs H1 => sp (gV [] zs) H1 Q E) := by
  refine ⟨fun pins s σ H Q I h => wpAny_Call_Name_kw (ld_glob I gl at_ (PySem.W.callWith_KW0 (h₀ := X.base) I.ok.mod.kin kp h1 (thn (hkw.run pos pins s σ H _ I h) fun ws s2 z => ?_) h3) ndb)⟩
  obtain ⟨zs, H2, J, rz, q⟩ := z
  refine ⟨J.kIn, ?_⟩
  rw [h2]
  exact run_fnk (us := []) (vs := []) F room kb pass J .nil rz q
end

/-! ### texts and tuples repeated -/
section
variable {X : Cx}
theorem op_rep_str : OpR X (binaryOp .Mult) (fun x y H Q => ∃ (z : PySem.Str) (k : Int), x = .str z ∧ y = .int k ∧ MulOk z k ∧ Q (.str (Txt.mul z k)) H) := by
  intro pins s σ H x y v u Q I rx ry h
  obtain ⟨z, k, rfl, rfl, ok, q⟩ := h
  obtain ⟨t, rfl⟩ := rx
  obtain ⟨t', rfl⟩ := ry
  exact SB.mul ok fun t2 n => ⟨.str (Txt.mul z k), H, I.tok n, ⟨t2, rfl⟩, q⟩
/-- a tuple that is not empty, at least twice -/
theorem op_repTW : OpR X (binaryOp .Mult) (fun x y H Q => ∃ (l : Addr) (k : Int) (xs : List V), x = .ref l ∧ y = .int k ∧ H l = some (.tup xs) ∧ xs ≠ [] ∧ 2 ≤ k ∧ xs.length * k.toNat ≤ 1000000 ∧ ∀ p, H p = none → Q (.ref p) (upd H p (.tup (List.replicate k.toNat xs).flatten))) := by
  intro pins s σ H x y v u Q I rx ry h
  obtain ⟨l, k, xs, rfl, rfl, hl, some_, two, many, q⟩ := h
  cases rx
  obtain ⟨t, rfl⟩ := ry
  obtain ⟨its, rel, ⟨⟨cls, dd, data, sl⟩, at_, hc, n, hd⟩, _⟩ := I.tuple (.inl (.inl hl))
  simp only at hc hd
  subst hc hd
  have same : its.length = xs.length := rel.length.symm
  have cnt : its.toArray.size = xs.length := by rw [List.size_toArray, same]
  have k1 : ((k.toNat : Nat) : Int) = k := Int.toNat_of_nonneg (by omega)
  have big : ((its.toArray.size : Nat) : Int) * k ≤ 1000000 := by
    have z := Int.ofNat_le.mpr many
    rw [Int.natCast_mul, k1] at z
    rw [cnt]
    exact z
  have pos : 0 < xs.length := List.length_pos_iff.mpr some_
  have kle : k ≤ 1000000 := by
    have := Nat.le_mul_of_pos_left k.toNat pos
    omega
  have fl : (List.replicate k.toNat its).flatten.length ≤ 1000000 := by
    rw [PyProof.Rows.lm_len_rep_flat, same, Nat.mul_comm]
    exact many
  have line : (1000000 : Nat) ≤ sizeLine := by rw [sizeLine_eq]; decide
  have ne : its.toArray.isEmpty = false := by
    cases its with
    | nil => exact absurd (List.eq_nil_of_length_eq_zero same.symm) some_
    | cons a b => rfl
  have c0 : (decide (k < -(2 ^ 63)) || decide (k ≥ 2 ^ 63)) = false := by
    rw [Bool.or_eq_false_iff]
    exact ⟨decide_eq_false (by omega), decide_eq_false (by omega)⟩
  have c1 : (its.toArray.isEmpty || k == 1) = false := by
    rw [ne]
    exact beq_eq_false_iff_ne.mpr (by omega)
  have c2 : (decide (k ≤ 0) || its.toArray.isEmpty) = false := by
    rw [ne, Bool.or_false]
    exact decide_eq_false (by omega)
  have c3 : Builtin.Tuple.tupleTooMany (((its.toArray.size : Nat) : Int) * k) = false := by
    unfold Builtin.Tuple.tupleTooMany
    rw [sizeLine_eq]
    exact decide_eq_false (by omega)
  have typ : s.TypeIs (.ref l) "tuple" := ⟨_, at_, rfl⟩
  refine wpAny_binaryOp_repeat_ref (T := "tuple") (U := "int") (by decide) typ (fun s' => typeIs_int s' k t) noFill_tuple_mul F.fills_int_mul F.slot_int_rmul repeat_tuple F.slot_int_index.lookup
    (call_meets F.slot_int_rmul (typeIs_int s k t) F.entry_int_rmul (F.args_int_rmul_2 _ _) (int_rmul_tuple k t l its.toArray n dd sl) ⟨at_, rfl, typ,
      call_meets F.slot_tuple_mul typ F.entry_tuple_mul (F.args_tuple_mul_2 _ _) (tuple_mulW l its.toArray n dd sl k t c0 c1 c2 (by omega) c3 (by rw [size_rep, List.size_toArray]; exact Nat.le_trans fl line)) ⟨at_, ?_⟩⟩)
  rw [size_rep]
  have new : ObjOk X.prog X.w (upd H s.heap.objs.size (.tup (List.replicate k.toNat xs).flatten)) _ s.heap.objs.size (.tup (List.replicate k.toNat xs).flatten) :=
    ⟨by rw [PyProof.Rows.lm_len_rep_flat, Nat.mul_comm]; exact Nat.le_trans many line, _, rel.rep k.toNat, IsTup.new _ _⟩
  exact ⟨.ref s.heap.objs.size, _, I.laid (t' := s.toks) (fun b ob z => Heap.get?_push_of_some _ z) (Nat.le_refl _) new, rfl, q _ (I.hok.fresh (Nat.le_refl _))⟩
end

/-! ### the same rules with the written part by its name (within a comprehension) -/
section
variable {X : Cx} {K : PySem.W.Frag}
def rLenK (K : PySem.W.Frag) : List V → Hp → VK → Prop := fun xs H Q => ∃ p ys, xs = [.ref p] ∧ (SqL K H p ys ∨ SqT K H p ys) ∧ Q (.int ys.length) H
theorem lenK (h : X.K = K) : CallR X (.builtin "len") (rLenK K) := by
  subst h
  exact call_len_seq
theorem ixlK (h : X.K = K) : IxR X (rIxL K) := by
  subst h
  exact ix_list
theorem ixtK (h : X.K = K) : IxR X (rIxT K) := by
  subst h
  exact ix_tup
theorem inK (h : X.K = K) : OpR X (compareOp .In) (rIn K false) := by
  subst h
  exact op_in_seq
theorem notInK (h : X.K = K) : OpR X (compareOp .NotIn) (rIn K true) := by
  subst h
  exact op_notIn_seq
theorem eqDK (h : X.K = K) (hu : X.A.units + 64 < cLine) : OpR X (compareOp .Eq) (rEqD K) := by
  subst h
  exact op_eqD hu
theorem neDK (h : X.K = K) (hu : X.A.units + 64 < cLine) : OpR X (compareOp .NotEq) (rNeD K) := by
  subst h
  exact op_neD hu
theorem sllK (h : X.K = K) : SlR X (rSlL K) := by
  subst h
  exact sl_list
theorem sltK (h : X.K = K) : SlR X (rSlT K) := by
  subst h
  exact sl_tup
theorem typeK (h : X.K = K) : CallR X (.type "type") (rTyp K) := by
  subst h
  exact call_type1
theorem isiK (h : X.K = K) : CallR X (.builtin "isinstance") (rIsi K) := by
  subst h
  exact call_isi
theorem reprK (h : X.K = K) (hA : X.A.guards = some []) (hu : X.A.units + 64 < cLine) : CallR X (.builtin "repr") (rRepr K) := by
  subst h
  exact call_repr hA hu
end

/-! ### texts that are short and whose signs are signs -/
def Tx (n : Nat) (z : PySem.Str) : Prop := z.cps.toList.length ≤ n ∧ ∀ c ∈ z.cps.toList, c < 1114112
theorem Tx.mono {n m : Nat} {z : PySem.Str} (h : Tx n z) (e : n ≤ m) : Tx m z := ⟨Nat.le_trans h.1 e, h.2⟩
theorem Tx.add {n m : Nat} {z y : PySem.Str} (h : Tx n z) (k : Tx m y) : Tx (n + m) (z ++ y) := by
  have e : (z ++ y).cps.toList = z.cps.toList ++ y.cps.toList := Array.toList_append
  refine ⟨?_, fun c hc => ?_⟩
  · rw [e, List.length_append]
    exact Nat.add_le_add h.1 k.1
  · rw [e] at hc
    exact (List.mem_append.mp hc).elim (h.2 c) (k.2 c)
theorem Tx.cut {n : Nat} {z : PySem.Str} (h : Tx n z) (lo hi : Option Int) : Tx n (cutS z lo hi) := by
  have e : (cutS z lo hi).cps.toList = (z.cps.toList.drop (HT.sIx z.length 0 lo)).take (HT.sIx z.length z.length hi - HT.sIx z.length 0 lo) := by
    show (List.toArray _).toList = _
    rw [List.toList_toArray]
  refine ⟨?_, fun c hc => ?_⟩
  · rw [e, List.length_take, List.length_drop]
    have := h.1
    omega
  · rw [e] at hc
    exact h.2 c (List.mem_of_mem_drop (List.mem_of_mem_take hc))
theorem Tx.one {c : Nat} {n : Nat} {z : PySem.Str} (h : Tx n z) (hc : c ∈ z.cps.toList) : Tx 1 ⟨#[c]⟩ := ⟨by simp, fun d hd => by
  have : d = c := by simpa using hd
  rw [this]
  exact h.2 c hc⟩
theorem Tx.line {n : Nat} {z : PySem.Str} (h : Tx n z) (e : n ≤ 1000000) : z.length ≤ sizeLine := by
  have : z.length = z.cps.toList.length := by show z.cps.size = _; simp
  rw [this]
  exact Nat.le_trans h.1 (Nat.le_trans e (by rw [sizeLine_eq]; decide))
theorem atI_mem {α : Type} {l : List α} {i : Int} {x : α} (h : atI l i = some x) : x ∈ l := by
  unfold atI at h
  obtain ⟨j, _, e⟩ := Option.bind_eq_some_iff.mp h
  exact List.mem_of_getElem? e
theorem foldl_app {α : Type} : ∀ (n : Nat) (x a : Array α), ((List.replicate n x).foldl (· ++ ·) a).toList = a.toList ++ (List.replicate n x.toList).flatten
  | 0, x, a => by simp
  | n + 1, x, a => by
    rw [List.replicate_succ, List.foldl_cons, foldl_app n x (a ++ x), Array.toList_append, List.replicate_succ, List.flatten_cons, List.append_assoc]
theorem Tx.rep {n : Nat} {z : PySem.Str} (h : Tx n z) {k : Int} : Tx (n * k.toNat) (Txt.mul z k) := by
  unfold Txt.mul
  by_cases h1 : k < 1
  · rw [if_pos h1]
    exact ⟨Nat.zero_le _, fun c hc => by cases hc⟩
  · rw [if_neg h1]
    by_cases h2 : (k == 1 || z.length == 0) = true
    · rw [if_pos h2]
      exact h.mono (Nat.le_mul_of_pos_right n (by omega))
    · rw [if_neg h2]
      refine ⟨?_, fun c hc => ?_⟩
      · show ((List.replicate k.toNat z.cps).foldl (· ++ ·) #[]).toList.length ≤ _
        rw [foldl_app]
        simp only [List.nil_append, List.length_flatten, List.map_replicate, List.sum_replicate_nat]
        rw [Nat.mul_comm]
        exact Nat.mul_le_mul_right _ h.1
      · rw [show (⟨(List.replicate k.toNat z.cps).foldl (· ++ ·) #[]⟩ : PySem.Str).cps.toList = _ from foldl_app _ _ _] at hc
        simp only [List.nil_append, List.mem_flatten, List.mem_replicate] at hc
        obtain ⟨l, ⟨_, rfl⟩, hc⟩ := hc
        exact h.2 c hc
end Gd

set_option maxRecDepth 100000
set_option maxHeartbeats 2000000
namespace Gd
open PySem PySem.Spec PyProof.Rows L2

/-! ### what the numbers are drawn by: a dict of three -/
abbrev kC : Key := Sum.inr "cells"
abbrev kL : Key := Sum.inr "left"
abbrev kS : Key := Sum.inr "spot"
def mK (lc ll : Addr) (k : Int) : List (Key × V) := [(kC, .ref lc), (kL, .ref ll), (kS, .int k)]
theorem nCL : ¬ kC = kL := by decide +kernel
theorem nCS : ¬ kC = kS := by decide +kernel
theorem nLS : ¬ kL = kS := by decide +kernel
theorem mK_C {lc ll : Addr} {k : Int} : valV (mK lc ll k) kC = some (.ref lc) := valV_pos rfl
theorem mK_L {lc ll : Addr} {k : Int} : valV (mK lc ll k) kL = some (.ref ll) := (valV_neg nCL).trans (valV_pos rfl)
theorem mK_S {lc ll : Addr} {k : Int} : valV (mK lc ll k) kS = some (.int k) := (valV_neg nCS).trans ((valV_neg nLS).trans (valV_pos rfl))
theorem mK_put {lc ll : Addr} {k j : Int} : putK (mK lc ll k) kS (.int j) = mK lc ll j := by
  unfold putK
  rw [valV_any, mK_S, Option.isSome_some, if_pos rfl]
  show [if kC = kS then (kC, V.int j) else (kC, .ref lc), if kL = kS then (kL, V.int j) else (kL, .ref ll), if kS = kS then (kS, V.int j) else (kS, .int k)] = _
  rw [if_neg nCS, if_neg nLS, if_pos rfl]
  rfl
theorem mK_putL {lc ll l2 : Addr} {k : Int} : putK (mK lc ll k) kL (.ref l2) = mK lc l2 k := by
  unfold putK
  rw [valV_any, mK_L, Option.isSome_some, if_pos rfl]
  show [if kC = kL then (kC, V.ref l2) else (kC, .ref lc), if kL = kL then (kL, V.ref l2) else (kL, .ref ll), if kS = kL then (kS, V.ref l2) else (kS, .int k)] = _
  rw [if_neg nCL, if_pos rfl, if_neg (Ne.symm nLS)]
  rfl
/-- the dict at d stands so, n more numbers may be drawn; of the heap H0 nothing is touched by that -/
structure Dr (H0 H : Hp) (d n : Nat) : Prop where
  ex : ∃ (lc ll : Addr) (cs ls : List Int) (k : Int), H d = some (.dK (mK lc ll k)) ∧ H lc = some (.lst (cs.map V.int)) ∧ H ll = some (.lst (ls.map V.int)) ∧ lc ≠ ll ∧
    cs.length = 64 ∧ (∀ c ∈ cs, 0 ≤ c ∧ c < 2147483647) ∧ ls.length ≤ 63 ∧ 0 ≤ k ∧ k + n ≤ 2147483648 ∧ H0 lc = none ∧ H0 ll = none
  same : Same H0 H
  free : H0 d = none
theorem Dr.less {H0 H : Hp} {d n m : Nat} (h : Dr H0 H d n) (e : m ≤ n) : Dr H0 H d m := by
  obtain ⟨⟨lc, ll, cs, ls, k, h1, h2, h3, h4, h5, h6, h7, h8, h9, h10⟩, s, f⟩ := h
  exact ⟨⟨lc, ll, cs, ls, k, h1, h2, h3, h4, h5, h6, h7, h8, by omega, h10⟩, s, f⟩
theorem Dr.put {H0 H : Hp} {d n : Nat} (h : Dr H0 H d n) {p : Addr} (o : HO) (hp : H p = none ∨ ∃ u, H0 p = some u) : Dr (upd H0 p o) (upd H p o) d n := by
  obtain ⟨⟨lc, ll, cs, ls, k, h1, h2, h3, h4, h5, h6, h7, h8, h9, h10, h11⟩, s, f⟩ := h
  have apart : ∀ {q : Addr} {u : HO}, H q = some u → H0 q = none → q ≠ p := by
    intro q u e e0 z
    subst z
    rcases hp with w1 | ⟨u', w1⟩
    · rw [w1] at e; cases e
    · rw [w1] at e0; cases e0
  have a1 := apart h1 f
  have a2 := apart h2 h10
  have a3 := apart h3 h11
  exact ⟨⟨lc, ll, cs, ls, k, by rw [upd_ne a1]; exact h1, by rw [upd_ne a2]; exact h2, by rw [upd_ne a3]; exact h3, h4, h5, h6, h7, h8, h9, by rw [upd_ne a2]; exact h10, by rw [upd_ne a3]; exact h11⟩, same_both s, by rw [upd_ne a1]; exact f⟩
theorem Dr.new {H0 H : Hp} {d n : Nat} (h : Dr H0 H d n) {p : Addr} (o : HO) (hp : H p = none) : Dr (upd H0 p o) (upd H p o) d n := h.put o (.inl hp)
/-- a new object of which H0 is not told -/
theorem Dr.side {H0 H : Hp} {d n : Nat} (h : Dr H0 H d n) {p : Addr} (o : HO) (hp : H p = none) : Dr H0 (upd H p o) d n := by
  obtain ⟨⟨lc, ll, cs, ls, k, h1, h2, h3, h4⟩, s, f⟩ := h
  exact ⟨⟨lc, ll, cs, ls, k, by rw [upd_ne (ne_of_none h1 hp)]; exact h1, by rw [upd_ne (ne_of_none h2 hp)]; exact h2, by rw [upd_ne (ne_of_none h3 hp)]; exact h3, h4⟩, fun b u e => by rw [upd_ne (ne_of_none (s b u e) hp)]; exact s b u e, f⟩
theorem Dr.base {H0 H1 H : Hp} {d n : Nat} (h : Dr H1 H d n) (s : Same H0 H1) : Dr H0 H d n := by
  obtain ⟨⟨lc, ll, cs, ls, k, h1, h2, h3, h4, h5, h6, h7, h8, h9, h10, h11⟩, s1, f⟩ := h
  exact ⟨⟨lc, ll, cs, ls, k, h1, h2, h3, h4, h5, h6, h7, h8, h9, s.free h10, s.free h11⟩, s.trans s1, s.free f⟩

/-! ### lists of ints by their places -/
theorem ixN_in {n : Nat} {i : Int} (h : 0 ≤ i) (k : i < n) : ixN n i = some i.toNat := by
  unfold ixN
  rw [if_pos h, if_pos k]
theorem at_in {α : Type} {l : List α} {i : Int} (h : 0 ≤ i) (k : i < l.length) : ∃ x, x ∈ l ∧ l[i.toNat]? = some x ∧ atI l i = some x := by
  have lt : i.toNat < l.length := by omega
  refine ⟨l[i.toNat], List.getElem_mem lt, List.getElem?_eq_getElem lt, ?_⟩
  unfold atI
  rw [ixN_in h k]
  exact List.getElem?_eq_getElem lt
theorem at_int {cs : List Int} {i : Int} (h : 0 ≤ i) (k : i < cs.length) : ∃ c, c ∈ cs ∧ atI (cs.map V.int) i = some (.int c) ∧ ixN (cs.map V.int).length i = some i.toNat := by
  obtain ⟨x, m, _, e⟩ := at_in (l := cs.map V.int) h (by rw [List.length_map]; exact k)
  obtain ⟨c, hc, rfl⟩ := List.mem_map.mp m
  exact ⟨c, hc, e, ixN_in h (by rw [List.length_map]; exact k)⟩
theorem set_int {cs : List Int} {j : Nat} {v : Int} : (cs.map V.int).set j (.int v) = (cs.set j v).map V.int := (List.map_set ..).symm
theorem all_set {cs : List Int} {j : Nat} {v : Int} {p : Int → Prop} (h : ∀ c ∈ cs, p c) (hv : p v) : ∀ c ∈ cs.set j v, p c := fun c hc =>
  (List.mem_or_eq_of_mem_set hc).elim (h c) fun e => e ▸ hv
theorem int_of {ns : List Int} {i : Nat} {x : V} (h : (ns.map V.int)[i]? = some x) : ∃ z, x = .int z := by
  rw [List.getElem?_map] at h
  obtain ⟨z, _, e⟩ := Option.map_eq_some_iff.mp h
  exact ⟨z, e.symm⟩

/-! ### data -/
theorem dp_ints {K : PySem.W.Frag} {H : Hp} : ∀ l : List Int, DpAll K H (l.map V.int) (l.map PyData.int)
  | [] => .nil
  | x :: r => .cons (.int x) (dp_ints r)
theorem dp_strs {K : PySem.W.Frag} {H : Hp} : ∀ l : List PySem.Str, DpAll K H (l.map V.str) (l.map PyData.str)
  | [] => .nil
  | x :: r => .cons (.str x) (dp_strs r)
theorem lay_flat : ∀ ds : List PyData, (∀ d ∈ ds, d.canLay0 = true ∧ d.depth = 0) → PyData.canLayAll0 ds = true ∧ PyData.depthAll ds = 0
  | [], _ => ⟨by simp [PyData.canLayAll0], by simp [PyData.depthAll]⟩
  | d :: r, h => by
    obtain ⟨a, b⟩ := h d List.mem_cons_self
    obtain ⟨a2, b2⟩ := lay_flat r fun z hz => h z (List.mem_cons_of_mem _ hz)
    exact ⟨by simp [PyData.canLayAll0, a, a2], by simp [PyData.depthAll, b, b2]⟩
theorem shaped_flat {ds : List PyData} (h : ∀ d ∈ ds, d.canLay0 = true ∧ d.depth = 0) : SeqAt.shaped (.list ds) = true := by
  obtain ⟨a, b⟩ := lay_flat ds h
  simp [SeqAt.shaped, PyData.canLay0, PyData.depth, a, b]
theorem shaped_ints (l : List Int) : SeqAt.shaped (.list (l.map PyData.int)) = true := shaped_flat fun d hd => by
  obtain ⟨i, _, rfl⟩ := List.mem_map.mp hd
  exact ⟨by simp [PyData.canLay0], by simp [PyData.depth]⟩
theorem shaped_nil : SeqAt.shaped (.list []) = true := shaped_flat fun d hd => absurd hd List.not_mem_nil
theorem eqv_nil {ds : List PyData} : PyData.eqv (.list ds) (.list []) = ds.isEmpty := by
  cases ds <;> simp [PyData.eqv, PyData.eqvAll]

/-! ### the promises of what draws -/
def spMixed : Sp := fun vs H Q _ => ∃ cell k : Int, vs = [.int cell, .int k] ∧ 0 ≤ cell ∧ cell < 1099511627776 ∧ 0 ≤ k ∧ k < 4294967296 ∧ ∀ v : Int, 0 ≤ v → v < 2147483648 → Q (.int v) H
def spDraw : Sp := fun vs H Q _ => ∃ (d : Addr) (many : Int) (H0 : Hp) (n : Nat), vs = [.ref d, .int many] ∧ 0 < many ∧ many < 1073741824 ∧ Dr H0 H d (n + 1) ∧ ∀ (v : Int) (H' : Hp), 0 ≤ v → v < many → Dr H0 H' d n → Q (.int v) H'
def spFolded (K : PySem.W.Frag) : Sp := fun vs H Q _ => ∃ (a : Addr) (ns : List Int), vs = [.ref a] ∧ SqL K H a (ns.map V.int) ∧ ns.length ≤ 63 ∧
  ∀ (p : Addr) (cs : List Int) (H' : Hp), H p = none → cs.length = 64 → (∀ c ∈ cs, 0 ≤ c ∧ c < 2147483647) → Same H H' → H' p = some (.lst (cs.map V.int)) → Q (.ref p) H'
def spBegun (K : PySem.W.Frag) : Sp := fun vs H Q _ => ∃ (a : Addr) (ns : List Int), vs = [.ref a] ∧ SqL K H a (ns.map V.int) ∧ ns.length ≤ 63 ∧ ∀ (d : Addr) (H' : Hp), Dr H H' d 1000000 → Q (.ref d) H'
theorem at_last {α : Type} {l : List α} (h : l ≠ []) : ∃ x, x ∈ l ∧ atI l (-1) = some x := by
  have pos : 0 < l.length := List.length_pos_iff.mpr h
  have e : ixN l.length (-1) = some (l.length - 1) := by
    unfold ixN
    rw [if_neg (by decide), if_pos (by omega)]
    congr 1
    omega
  have lt : l.length - 1 < l.length := by omega
  refine ⟨l[l.length - 1], List.getElem_mem lt, ?_⟩
  unfold atI
  rw [e]
  exact List.getElem?_eq_getElem lt
theorem Tx.line2 {n m : Nat} {z y : PySem.Str} (h : Tx n z) (k : Tx m y) (e : n + m ≤ 1000000) : z.length + y.length ≤ sizeLine := by
  have a : z.length = z.cps.toList.length := by show z.cps.size = _; simp
  have b : y.length = y.cps.toList.length := by show y.cps.size = _; simp
  rw [a, b]
  exact Nat.le_trans (Nat.add_le_add h.1 k.1) (Nat.le_trans e (by rw [sizeLine_eq]; decide))
theorem at_str {z : PySem.Str} {n : Nat} (t : Tx n z) {i : Int} (h : 0 ≤ i) (k : i < (z.cps.toList.length : Nat)) : ∃ c, c ∈ z.cps.toList ∧ atI z.cps.toList i = some c ∧ Tx 1 ⟨#[c]⟩ := by
  obtain ⟨c, m, _, e⟩ := at_in h k
  exact ⟨c, m, e, t.one m⟩
theorem Tx.cutTo {n : Nat} {z : PySem.Str} (h : Tx n z) (k : Nat) : Tx k (cutS z none (some (k : Int))) := by
  refine ⟨?_, (h.cut _ _).2⟩
  have e : (cutS z none (some (k : Int))).cps.toList = (z.cps.toList.drop (HT.sIx z.length 0 none)).take (HT.sIx z.length z.length (some (k : Int)) - HT.sIx z.length 0 none) := by
    show (List.toArray _).toList = _
    rw [List.toList_toArray]
  rw [e, List.length_take, HT.sIx_nat, HT.sIx_none]
  omega
/-- a number is drawn, one object more is told of -/
theorem Dr.told {H0 H : Hp} {d n : Nat} {p : Addr} {o : HO} (h : Dr (upd H0 p o) H d n) : H p = some o := h.same _ _ upd_same
theorem Dr.drop {H0 H : Hp} {d n : Nat} {p : Addr} {o : HO} (h : Dr (upd H0 p o) H d n) (f : H0 p = none) : Dr H0 H d n := h.base (same_new f)
def spCalled : Sp := fun vs H Q _ => ∃ (d : Addr) (M : Nat) (H0 : Hp) (n : Nat), vs = [.ref d, .int (M : Int)] ∧ M ≤ 100 ∧ Dr H0 H d (n + 2 + 8 * M) ∧
  ∀ (p : Addr) (zs : List PySem.Str) (H' : Hp), H0 p = none → zs.length = M → (∀ z ∈ zs, Tx 10 z) → Dr (upd H0 p (.lst (zs.map V.str))) H' d n → Q (.ref p) H'
def spSigned : Sp := fun vs H Q _ => ∃ (d : Addr) (bit : PySem.Str) (H0 : Hp) (n : Nat), vs = [.ref d, .str bit] ∧ Tx 1000 bit ∧ Dr H0 H d (n + 3) ∧ ∀ (z : PySem.Str) (H' : Hp), Tx 2001 z → Dr H0 H' d n → Q (.str z) H'
theorem Dr.keep {H0 H H' : Hp} {d n : Nat} (h : Dr H0 H d n) (s : Same H H') : Dr H0 H' d n := by
  obtain ⟨⟨lc, ll, cs, ls, k, h1, h2, h3, h4⟩, sm, f⟩ := h
  exact ⟨⟨lc, ll, cs, ls, k, s _ _ h1, s _ _ h2, s _ _ h3, h4⟩, sm.trans s, f⟩
end Gd

set_option maxRecDepth 100000
set_option maxHeartbeats 2000000
namespace Gd
open PySem PySem.Spec PyProof.Rows L2

/-! ### things of any kind, by their types -/
inductive Od (H : Hp) : V → String → Prop
  | non : Od H .non "NoneType"
  | bl (b : Bool) : Od H (.bl b) "bool"
  | int (i : Int) : Od H (.int i) "int"
  | str {z : PySem.Str} (t : Tx 5000 z) : Od H (.str z) "str"
  | lst {a : Addr} {xs : List V} (e : H a = some (.lst xs)) : Od H (.ref a) "list"
  | tup {a : Addr} {xs : List V} (e : H a = some (.tup xs)) : Od H (.ref a) "tuple"
  | dK {a : Addr} {kvs : List (Key × V)} (e : H a = some (.dK kvs)) : Od H (.ref a) "dict"
section
variable {K : PySem.W.Frag} {H H' : Hp} {x : V} {T : String}
theorem Od.mono (s : Same H H') (o : Od H x T) : Od H' x T := by
  cases o with
  | non => exact .non
  | bl b => exact .bl b
  | int i => exact .int i
  | str t => exact .str t
  | lst e => exact .lst (s _ _ e)
  | tup e => exact .tup (s _ _ e)
  | dK e => exact .dK (s _ _ e)
theorem Od.ty (o : Od H x T) : TyB K H x T := by
  cases o with
  | non => exact .non
  | bl b => exact .bl b
  | int i => exact .int i
  | str t => exact .str _
  | lst e => exact .lst (SqL.of e)
  | tup e => exact .tup (SqT.of e)
  | dK e => exact .dK e
theorem Od.tx (o : Od H x T) : TyX K H x (.type T) := by
  cases o with
  | non => exact .base .non
  | bl b => exact .base (.bl b)
  | int i => exact .base (.int i)
  | str t => exact .base (.str _)
  | lst e => exact .base (.lst e)
  | tup e => exact .base (.tup e)
  | dK e => exact .base (.dK e)
theorem Od.kstr (o : Od H x T) : PySem.W.kitOne K (.type T) (.type "str") = some (decide (T = "str")) := by
  cases o <;> exact kit_ty (by decide +kernel)
theorem Od.kint (o : Od H x T) : PySem.W.kitOne K (.type T) (.type "int") = some (decide (T = "int" ∨ T = "bool")) := by
  cases o <;> exact kit_ty (by decide +kernel)
theorem Od.kbool (o : Od H x T) : PySem.W.kitOne K (.type T) (.type "bool") = some (decide (T = "bool")) := by
  cases o <;> exact kit_ty (by decide +kernel)
theorem Od.is (o : Od H x T) (e : T = "str") : ∃ z, x = .str z ∧ Tx 5000 z := by
  cases o with
  | str t => exact ⟨_, rfl, t⟩
  | non => exact absurd e (by decide)
  | bl b => exact absurd e (by decide)
  | int i => exact absurd e (by decide)
  | lst _ => exact absurd e (by decide)
  | tup _ => exact absurd e (by decide)
  | dK _ => exact absurd e (by decide)
theorem Od.isI (o : Od H x T) (e : T = "int") : ∃ i, x = .int i := by
  cases o with
  | int i => exact ⟨_, rfl⟩
  | str t => exact absurd e (by decide)
  | non => exact absurd e (by decide)
  | bl b => exact absurd e (by decide)
  | lst _ => exact absurd e (by decide)
  | tup _ => exact absurd e (by decide)
  | dK _ => exact absurd e (by decide)
theorem Od.not {z : PySem.Str} (o : Od H x T) (e : T ≠ "str") : x ≠ .str z := by
  intro q
  subst q
  cases o
  exact e rfl
end
theorem iteTy {T S : String} {A B : Prop} (h1 : T ≠ S → A) (h2 : T = S → B) : if (!decide (T = S)) = true then A else B := by
  by_cases e : T = S
  · rw [if_neg (by simp [e])]
    exact h2 e
  · rw [if_pos (by simp [e])]
    exact h1 e
theorem iteIs {T S : String} {A B : Prop} (h1 : T ≠ S → B) (h2 : T = S → A) : if decide (T = S) = true then A else B := by
  by_cases e : T = S
  · rw [if_pos (by simp [e])]
    exact h2 e
  · rw [if_neg (by simp [e])]
    exact h1 e
theorem len_tl (z : PySem.Str) : z.length = z.cps.toList.length := by show z.cps.size = _; simp

/-! ### signs -/
theorem lt_one (c d : Nat) : decide (([c] : List Nat) < [d]) = decide (c < d) := by
  have e : (([c] : List Nat) < [d]) ↔ c < d := by
    rw [List.cons_lt_cons_iff]
    simp
  by_cases h : c < d
  · rw [decide_eq_true h, decide_eq_true (e.mpr h)]
  · rw [decide_eq_false h, decide_eq_false fun q => h (e.mp q)]
theorem le_sign {c d : Nat} {a : PySem.Str} (ea : a.cps.toList = [d]) : (!decide ((⟨#[c]⟩ : PySem.Str).cps.toList < a.cps.toList)) = decide (d ≤ c) := by
  rw [ea, show (⟨#[c]⟩ : PySem.Str).cps.toList = [c] from rfl, lt_one]
  by_cases h : d ≤ c
  · rw [decide_eq_true h, decide_eq_false (by omega)]; rfl
  · rw [decide_eq_false h, decide_eq_true (by omega)]; rfl
theorem ge_sign {c d : Nat} {a : PySem.Str} (ea : a.cps.toList = [d]) : (!decide (a.cps.toList < (⟨#[c]⟩ : PySem.Str).cps.toList)) = decide (c ≤ d) := by
  rw [ea, show (⟨#[c]⟩ : PySem.Str).cps.toList = [c] from rfl, lt_one]
  by_cases h : c ≤ d
  · rw [decide_eq_true h, decide_eq_false (by omega)]; rfl
  · rw [decide_eq_false h, decide_eq_true (by omega)]; rfl
theorem all_take {α : Type} {l : List α} {i : Nat} {c : α} (h : l[i]? = some c) : l.take (i + 1) = l.take i ++ [c] := by
  rw [List.take_add_one, h]
  rfl

/-! ### a comprehension over a text: a truth for each sign; those signs that are to be kept -/
theorem lc_truths {z : PySem.Str} {σ : L2.St} {H : Hp} {te : TE} {j : Nat} {A : Addr} {Qd : Hp → Prop} (n : Tx 5000 z) (f : Nat → Bool) (hA : H A = none)
    (el : ∀ c H' Q, Q (V.bl (f c)) H' → te ((wipe σ [j]).set j (some (.str ⟨#[c]⟩))) H' Q) (same : ∀ c, wipe ((wipe σ [j]).set j (some (.str ⟨#[c]⟩))) [j] = wipe σ [j])
    (fin : ∀ H', Same H H' → H' A = some (.lst ((z.cps.toList.map f).map V.bl)) → Qd H') :
    ∃ W : Nat → Nat → Hp → Prop, (∃ m, W 0 m (upd H A (.lst []))) ∧ ∀ i m H, W i m H → ((Its z).stop i H ∧ Qd H) ∨
      ((Its z).go i H ∧ ∃ Nx : Hp → Prop, (∀ H', Nx H' → ∃ m', m' < m ∧ W (i + 1) m' H') ∧ ∀ v H', (Its z).yld i H v H' → gName j v (wipe σ [j]) H' fun σ2 H2 => wipe σ2 [j] = wipe σ [j] ∧ tYes σ2 H2 fun b H3 =>
        if b = true then te σ2 H3 fun y H4 => ∃ acc, H4 A = some (.lst acc) ∧ acc.length < sizeLine ∧ Nx (upd H4 A (.lst (acc ++ [y]))) else Nx H3) := by
  refine lc_str (fun i H1 => Same H H1 ∧ H1 A = some (.lst (((z.cps.toList.take i).map f).map V.bl))) ⟨same_new hA, by rw [upd_same]; rfl⟩ ?_ ?_
  · rintro i c H1 lt hc ⟨sm, e⟩
    refine ⟨same c, ?_⟩
    refine el c H1 _ ⟨_, e, ?_, same_put sm hA, ?_⟩
    · simp only [List.length_map, List.length_take]
      have := n.1
      have s5 : (5000 : Nat) < sizeLine := by rw [sizeLine_eq]; decide
      omega
    · rw [upd_same, all_take hc]
      simp only [List.map_append, List.map_cons, List.map_nil]
  · rintro H1 ⟨sm, e⟩
    rw [List.take_length] at e
    exact fin H1 sm e
theorem lc_kept {z : PySem.Str} {σ : L2.St} {H : Hp} {tt : TT} {te : TE} {j : Nat} {A : Addr} {Qd : Hp → Prop} (n : Tx 5000 z) (f : Nat → Bool) (hA : H A = none)
    (ts : ∀ c H' Q, Q (f c) H' → tt ((wipe σ [j]).set j (some (.str ⟨#[c]⟩))) H' Q) (el : ∀ c H' Q, Q (V.str ⟨#[c]⟩) H' → te ((wipe σ [j]).set j (some (.str ⟨#[c]⟩))) H' Q) (same : ∀ c, wipe ((wipe σ [j]).set j (some (.str ⟨#[c]⟩))) [j] = wipe σ [j])
    (fin : ∀ H', Same H H' → H' A = some (.lst (((z.cps.toList.filter f).map fun c => (⟨#[c]⟩ : PySem.Str)).map V.str)) → Qd H') :
    ∃ W : Nat → Nat → Hp → Prop, (∃ m, W 0 m (upd H A (.lst []))) ∧ ∀ i m H, W i m H → ((Its z).stop i H ∧ Qd H) ∨
      ((Its z).go i H ∧ ∃ Nx : Hp → Prop, (∀ H', Nx H' → ∃ m', m' < m ∧ W (i + 1) m' H') ∧ ∀ v H', (Its z).yld i H v H' → gName j v (wipe σ [j]) H' fun σ2 H2 => wipe σ2 [j] = wipe σ [j] ∧ tt σ2 H2 fun b H3 =>
        if b = true then te σ2 H3 fun y H4 => ∃ acc, H4 A = some (.lst acc) ∧ acc.length < sizeLine ∧ Nx (upd H4 A (.lst (acc ++ [y]))) else Nx H3) := by
  refine lc_str (fun i H1 => Same H H1 ∧ H1 A = some (.lst ((((z.cps.toList.take i).filter f).map fun c => (⟨#[c]⟩ : PySem.Str)).map V.str))) ⟨same_new hA, by rw [upd_same]; rfl⟩ ?_ ?_
  · rintro i c H1 lt hc ⟨sm, e⟩
    refine ⟨same c, ts c H1 _ ?_⟩
    cases fc : f c with
    | false =>
      refine iteF ⟨sm, ?_⟩
      rw [e, all_take hc, List.filter_append, List.filter_cons, fc]
      simp
    | true =>
      refine iteT (el c H1 _ ⟨_, e, ?_, same_put sm hA, ?_⟩)
      · simp only [List.length_map]
        have := n.1
        have l1 := List.length_filter_le f (z.cps.toList.take i)
        have l2 : (z.cps.toList.take i).length ≤ z.cps.toList.length := by rw [List.length_take]; omega
        have s5 : (5000 : Nat) < sizeLine := by rw [sizeLine_eq]; decide
        omega
      · rw [upd_same, all_take hc, List.filter_append, List.filter_cons, fc]
        simp
  · rintro H1 ⟨sm, e⟩
    rw [List.take_length] at e
    exact fin H1 sm e
theorem strOk_one {c : Nat} (h : c < 1114112) : (PyData.str ⟨#[c]⟩).canLay0 = true := by
  simp [PyData.canLay0, PyData.strOk, h]
/-- signs that are kept, as data -/
theorem shaped_signs {l : List Nat} (h : ∀ c ∈ l, c < 1114112) : SeqAt.shaped (.list ((l.map fun c => (⟨#[c]⟩ : PySem.Str)).map PyData.str)) = true := shaped_flat fun d hd => by
  simp only [List.map_map, List.mem_map, Function.comp_apply] at hd
  obtain ⟨c, hc, rfl⟩ := hd
  exact ⟨strOk_one (h c hc), by simp [PyData.depth]⟩
theorem small1000' {n : Nat} (h : n ≤ 1000000) : n < sizeLine := Nat.lt_of_le_of_lt h (by rw [sizeLine_eq]; decide)
end Gd

set_option maxRecDepth 100000
set_option maxHeartbeats 4000000
namespace Gd
open PySem PySem.Spec PyProof.Rows L2

/-! ### an error that was caught and is kept -/
/-- the error at a, of the class cls, its own dict d -/
def ExK (a : Addr) (cls : Value) (d : Option Addr) : HO := .ext fun h => ∃ (oe : Obj) (vs : Array Value), h.get? a = some oe ∧ oe.cls = cls ∧ oe.dict = d ∧ oe.data = .fields vs
section
variable {X : Cx} {pins : List (Addr × Obj)} {σ : L2.St} {H : Hp} {s : Shared}
/-- what stands pinned is told of from now on -/
theorem hold {a : Addr} {o : HO} (I : Inv X pins σ H s) (na : H a = none) (young : X.s_0.heap.get? a = none) (nl : a ≠ X.env.locals) (nc : ∀ x c, X.env.cells.lookup x = some c → c ≠ a) (np : ∀ p ∈ X.pn ++ pins, p.1 ≠ a)
    (ok : ObjOk X.prog X.w (upd H a o) s.heap a o) : Inv X pins σ (upd H a o) s := by
  have off : ∀ {b : Addr} {u : HO}, H b = some u → b ≠ a := fun e => ne_of_none e na
  have un := I.base
  refine ⟨I.ok, I.os, I.bare, ⟨un.keep, un.slot, fun b ob e n x => ?_, un.there, fun b xs e => ?_, fun b ob u e => ?_, fun b ps e => ?_⟩, I.loc, I.cell, ?_, fun x c e => ?_, fun p hp => ?_, fun b u e => ?_, I.len⟩
  · rw [upd_ne (fun z => by rw [z, young] at e; cases e)]
    exact un.free b ob e n x
  · have g := un.tups b xs e
    rw [upd_ne (off g)]
    exact g
  · have g := un.frzs b ob u e
    rw [upd_ne (off g)]
    exact g
  · obtain ⟨more, g⟩ := un.tbls b ps e
    exact ⟨more, by rw [upd_ne (off g)]; exact g⟩
  · rw [upd_ne nl.symm]
    exact I.free
  · rw [upd_ne (nc x c e)]
    exact I.freeC x c e
  · obtain ⟨g1, g2, g3⟩ := I.pin p hp
    exact ⟨g1, by rw [upd_ne (np p hp)]; exact g2, g3⟩
  · by_cases z : b = a
    · subst z
      rw [upd_same] at e
      cases e
      exact ok
    · rw [upd_ne z] at e
      exact (I.hok b u e).stay (fun _ _ _ q => q) (fun c q => by rw [upd_ne (off q)]; exact q) fun c xs q => by rw [upd_ne (off q)]; exact q
end
/-- what the clause 'except (x1, x2, x3) as n' wishes of an error of the body; behind the suite the error is told of -/
def wKeep (K : PySem.W.Frag) (cs : List Value) (i : Nat) (ts : Addr → Value → Option Addr → TS) (Wout : WX) (D : Ends) : WX := fun cls d σ H =>
  ∃ b, PySem.W.exmAny K cls cs = some b ∧ (b = true → ∀ a, H a = none → ts a cls d { nx := fun σ' H' => D.nx (σ'.set i none) (upd H' a (ExK a cls d)), rt := fun v H' => D.rt v (upd H' a (ExK a cls d)), bk := fun σ' H' => D.bk (σ'.set i none) (upd H' a (ExK a cls d)), ct := fun σ' H' => D.ct (σ'.set i none) (upd H' a (ExK a cls d)) } (σ.set i (some (.ref a))) H) ∧
    (b = false → Wout cls d σ H)
section
variable {X : Cx} {x1 x2 x3 n : PySem.Str} {c1 c2 c3 : Value} {i : Nat} {body suite : List Stmt} {b0 : Stmt} {p1 p2 p3 tp pos pos' : Pos} {kk : Nat} {tb : WX → TS} {ts : Addr → Value → Option Addr → TS} {Wout : WX} {C1 C2 C3 : Addr}
theorem ps_try_keep (hs : X.stack = X.env :: X.outer) (hf : X.env.frame = some X.env.locals) (hN : X.N.Nodup) (hex : X.ex = []) (hi : X.N[i]? = some n) (hln : X.env.kindOf n = some .local)
    (g1 : Gl X x1) (m1 : X.mg x1 = some (.ref C1)) (g2 : Gl X x2) (m2 : X.mg x2 = some (.ref C2)) (g3 : Gl X x3) (m3 : X.mg x3 = some (.ref C3)) (nd1 : (x1 == ("__debug__" : PySem.Str)) = false) (nd2 : (x2 == ("__debug__" : PySem.Str)) = false) (nd3 : (x3 == ("__debug__" : PySem.Str)) = false) (tk : Takes X Wout)
    (hb : ∀ (W : WX) (pn : List (Addr × Obj)) (xe : Value → Shared → Prop), Takes (X.tr pn xe) W → PassesOwn (model X.prog X.w) X.A X.env xe → PSs (X.tr pn xe) body (tb W))
    (hsu : ∀ (a : Addr) (oe : Obj) (cls : Value) (d : Option Addr) (pn : List (Addr × Obj)), Zc cls d oe → (∃ vs, oe.data = .fields vs) → PSs (X.suite a ((a, oe) :: pn)) (b0 :: suite) (ts a cls d)) :
    PS X (.Try body [.ExceptHandler (some (.Tuple [.Name x1 p1, .Name x2 p2, .Name x3 p3] kk tp)) (some n) (b0 :: suite) pos'] [] [] pos) (fun D σ H => tb (wKeep X.K [.ref C1, .ref C2, .ref C3] i ts Wout D) D σ H) := by
  refine ⟨fun pins s σ H D I h => ?_⟩
  have ok := I.ok
  have frames : X.A.frames = some (X.env :: X.outer) := by rw [ok.frames, hs]
  refine wpAny_Try_except (wpAny_mono ((hb (wKeep X.K [.ref C1, .ref C2, .ref C3] i ts Wout D) (X.pn ++ pins) (fun e s₁ => wpAny (model X.prog X.w) X.A (noteFrame e X.env) (fun _ s₂ => wpAny (model X.prog X.w) X.A (setFlight e none) (fun _ s₃ =>
    wpAny (model X.prog X.w) X.A (handleBy e X.env [.ExceptHandler (some (.Tuple [.Name x1 p1, .Name x2 p2, .Name x3 p3] kk tp)) (some n) (b0 :: suite) pos']) (SP X pins D) X.xe s₃) X.xe s₂) X.xe s₁) ?kat PassesOwn.looking).run [] s σ H D (I.toTry _) h) ?thru fun e s1 he => he)
  case thru =>
    intro f s1 q
    match f, q with
    | .next, ⟨σ', H', J, w1⟩ => exact wpAny_execs_nil ⟨σ', H', J.ofTry ok, w1⟩
    | .brk, ⟨σ', H', J, w1⟩ => exact ⟨σ', H', J.ofTry ok, w1⟩
    | .cont, ⟨σ', H', J, w1⟩ => exact ⟨σ', H', J.ofTry ok, w1⟩
    | .ret u, ⟨v, σ', H', J, r, w1⟩ => exact ⟨v, σ', H', J.ofTry ok, r, w1⟩
  case kat =>
    rintro u s' ⟨a, B, sI, pins', σ', H', cls, d, rfl, J', nb, up, sky, na, os, ag, b, hb1, hyes, hno⟩
    have J : Inv X pins σ' H' sI := J'.ofTry ok
    rw [hs] at sky
    show wpAny (model X.prog X.w) X.A (noteFrame (.ref a) X.env) _ _ _
    refine Sky.land Zc.steady frames hf sky fun h3 fl3 up3 => ?_
    have J3 : Inv X pins σ' H' { s' with heap := h3 } := J.landed nb fl3.1 (up.trans up3) os ag
    obtain ⟨oe3, vs3, he3, hz3, hd3⟩ := fl3.there
    have off : a ∉ frs (X.env :: X.outer) := fun m => by
      obtain ⟨_, o', e', no⟩ := fl3.2.2.1.mem m
      rw [he3] at e'
      cases e'
      exact no _ hd3
    have nL : a ≠ X.env.locals := fun z => off (List.mem_filterMap.mpr ⟨X.env, List.mem_cons_self, by rw [hf, z]⟩)
    have nF : a ∉ X.fs := fun m => by
      obtain ⟨e, m1, m2⟩ := List.mem_filterMap.mp m
      exact off (List.mem_filterMap.mpr ⟨e, List.mem_cons_of_mem _ m1, m2⟩)
    -- the error is younger than the frame
    have noB : B.get? a = none := fl3.2.1
    have noI : sI.heap.get? a = none := by
      cases e : sI.heap.get? a with
      | none => rfl
      | some o =>
        have := nb a o e (by rw [hs]; exact off)
        rw [noB] at this
        cases this
    have young : X.s_0.heap.get? a = none := by
      cases e : X.s_0.heap.get? a with
      | none => rfl
      | some o =>
        obtain ⟨o', e'⟩ := J.base.there a o e (by rw [hex]; simp)
        rw [noI] at e'
        cases e'
    have nc : ∀ x c, X.env.cells.lookup x = some c → c ≠ a := fun x c e z => by
      obtain ⟨v, o, e', _⟩ := J.cell x c e
      rw [z, noI] at e'
      cases e'
    have np : ∀ p ∈ X.pn ++ pins, p.1 ≠ a := fun p hp z => by
      have e' := (J.pin p hp).1
      rw [z, noI] at e'
      cases e'
    have S3 := J3.suite he3 hd3 na nL nF
    refine wpAny_handleBy_cons (codeAny_handlers_test ?_) (by intro q; cases q)
    -- the classes
    refine wpAny_Tuple (wpAny_items_cons (ld_glob (X := X.suite a ((a, oe3) :: (X.pn ++ pins))) S3 g1 m1 ?_ nd1))
    refine wpAny_items_cons (ld_glob (X := X.suite a ((a, oe3) :: (X.pn ++ pins))) S3 g2 m2 ?_ nd2)
    refine wpAny_items_cons (ld_glob (X := X.suite a ((a, oe3) :: (X.pn ++ pins))) S3 g3 m3 ?_ nd3)
    refine wpAny_items_nil ⟨by size_fits, ?_⟩
    have kp : ∀ q o, h3.get? q = some o → (h3.push { cls := .type "tuple", data := .seq [Value.ref C1, .ref C2, .ref C3].toArray }).get? q = some o := fun _ _ z => Heap.get?_push_of_some _ z
    have LT : PySem.W.Looks (model X.prog X.w) h3 (typeOf (.ref a)) cls := fun A Q E s k q => wpAny_typeOf_ref (k _ _ he3) (by rw [hz3.1]; exact q)
    have fl5 : HandSPX.FlyingZ B (X.env :: X.outer) a (Zc cls d) (h3.push { cls := .type "tuple", data := .seq [Value.ref C1, .ref C2, .ref C3].toArray }) := by
      obtain ⟨f1, f2, f3, oe, vs, T, oT, ts', q1, q2, q3, q4, q5, q6, q7, q8⟩ := id fl3
      exact ⟨fun b o e => kp b o (f1 b o e), f2, f3.of_keeps fun b o e _ => ⟨o, kp b o e, rfl⟩, oe, vs, T, oT, ts', kp _ _ q1, q2, q3, q4, q5, q6, kp _ _ q7, q8⟩
    have up5 : s'.heap.UpToSlots (h3.push { cls := .type "tuple", data := .seq [Value.ref C1, .ref C2, .ref C3].toArray }) := up3.trans fun b o e _ => ⟨o.slots, kp b _ e⟩
    refine (PySem.W.exm_tup3 ((J3.kIn).keeps kp) (LT.keeps kp) (Heap.get?_push_size h3 rfl) hb1).here ?_
    cases b with
    | true =>
      refine codeAny_handlers_suite_as ?_
      refine HandSPX.lands_againZ fl5 fun h4 fl4 up4 => ?_
      have J4 : Inv X pins σ' H' { s' with heap := h4 } := J.landed nb fl4.1 ((up.trans up5).trans up4) os ag
      obtain ⟨oe4, vs4, he4, hz4, hd4⟩ := fl4.there
      have S4 := J4.suite he4 hd4 na nL nF
      refine store_ok (X := X.suite a ((a, oe4) :: (X.pn ++ pins))) (v := .ref a) S4 hN hi (.inl hln) rfl (fun s5 S5 => ?_) (.inr hln)
      refine wpAny_mono ((hsu a oe4 cls d (X.pn ++ pins) hz4 ⟨_, hd4⟩).run [] s5 _ H' _ S5 (hyes rfl a na)) (fun f s6 hsp => ?_) (fun _ _ z => False.elim z)
      have fin : ∀ {σ6 : L2.St} {H6 : Hp} {Q : Shared → Prop}, Inv (X.suite a ((a, oe4) :: (X.pn ++ pins))) [] σ6 H6 s6 → (∀ s7, Inv X pins (σ6.set i none) (upd H6 a (ExK a cls d)) s7 → Q s7) →
          wpAny (model X.prog X.w) X.A (do bindName X.env n .none; unbindBehindTheSuite X.env n pos') (fun _ s7 => Q s7) X.xe s6 := fun {σ6 H6 Q} S6 hq => by
        have G6 : Inv X ((a, oe4) :: pins) σ6 H6 s6 := ⟨ok, S6.os, S6.bare, S6.base, S6.loc, S6.cell, S6.free, S6.freeC, fun p hp => S6.pin p (by
            have : p ∈ (a, oe4) :: (X.pn ++ pins) := by
              rcases List.mem_append.mp hp with m | m
              · exact List.mem_cons_of_mem _ (List.mem_append_left _ m)
              · rcases List.mem_cons.mp m with rfl | m
                · exact List.mem_cons_self
                · exact List.mem_cons_of_mem _ (List.mem_append_right _ m)
            exact List.mem_append_left _ this), S6.hok, S6.len⟩
        refine gone_ok G6 hN hi hln fun s7 J7 => hq s7 ?_
        have pa := J7.pin (a, oe4) (List.mem_append_right _ List.mem_cons_self)
        have J8 : Inv X pins (σ6.set i none) H6 s7 := ⟨ok, J7.os, J7.bare, J7.base, J7.loc, J7.cell, J7.free, J7.freeC, fun p hp => J7.pin p (by
            rcases List.mem_append.mp hp with m | m
            · exact List.mem_append_left _ m
            · exact List.mem_append_right _ (List.mem_cons_of_mem _ m)), J7.hok, J7.len⟩
        exact hold J8 pa.2.1 young nL nc np ⟨⟨oe4, vs4, pa.1, hz4.1, hz4.2, hd4⟩, ⟨oe4, pa.1⟩, fun h1 h2 ⟨o, vs, e, r⟩ k => ⟨o, vs, k o e, r⟩⟩
      cases f with
      | next =>
        obtain ⟨σ6, H6, S6, q6⟩ := hsp
        exact fin S6 fun s7 J7 => ⟨_, _, J7, q6⟩
      | brk =>
        obtain ⟨σ6, H6, S6, q6⟩ := hsp
        exact fin S6 fun s7 J7 => ⟨_, _, J7, q6⟩
      | cont =>
        obtain ⟨σ6, H6, S6, q6⟩ := hsp
        exact fin S6 fun s7 J7 => ⟨_, _, J7, q6⟩
      | ret u =>
        obtain ⟨v6, σ6, H6, S6, r6, q6⟩ := hsp
        exact fin S6 fun s7 J7 => ⟨_, _, _, J7, r6, q6⟩
    | false =>
      show wpAny _ X.A (handleBy (.ref a) X.env []) _ _ _
      refine wpAny_handleBy_nil ?_
      obtain ⟨k1, k2, k3, oe, vs, T, oT, ts', he, hz, hd, h1, hr⟩ := id fl5
      unfold PySem.passOn
      refine wpAny_bind (wpAny_field he hd h1 ?_)
      rw [if_neg (show ¬ ((Value.ref T == Value.none) = true) from by simp)]
      have out : wpAny (model X.prog X.w) X.A (setFlight (.ref a) X.env.frame) (fun _ s4 => wpAny (model X.prog X.w) X.A (throw (.ref a) : Sem Flow) (SP X pins D) X.xe s4) X.xe { s' with heap := h3.push { cls := .type "tuple", data := .seq [Value.ref C1, .ref C2, .ref C3].toArray } } := by
        rw [hf]
        refine HandSPX.setFlight_upZ fl5 fun h4 hh4 up4 => wpAny_throw (tk _ _ ?_)
        exact ⟨a, B, sI, pins, σ', H', cls, d, rfl, J, nb, (up.trans up5).trans up4, .inr (.inr (by rw [hs]; exact hh4)), na, os, ag, hno rfl⟩
      first
        | exact wpAny_bind (wpAny_pure (wpAny_bind out))
        | exact wpAny_bind out
end
end Gd

set_option maxRecDepth 100000
set_option maxHeartbeats 4000000
namespace Gd
open PySem PySem.Spec PyProof.Rows L2 LamX

/-! ### the law's end: tables of code objects, where no repr is under way -/
variable {P : Program} {w : World} {K : PySem.W.Frag} {mg : PySem.Str → Option Value} {base : Heap}
abbrev tb0 : Obj := { cls := .none, data := .fields #[] }
/-- what is tracked is the script (a list) or a table that is empty as yet -/
structure Light (K : PySem.W.Frag) (H : Hp) (h : Heap) : Prop where
  kinds : ∀ b u o, H b = some u → h.get? b = some o → (∃ vs n, o.data = .seq vs n) ∨ o.data = .fields #[]
  apart : ∀ b u, H b = some u → K.lookup b = none
theorem Light.hid {h : Heap} {H : Hp} (L : Light K H h) {b : Addr} {o : Obj} (e : h.get? b = some o) (n1 : ∀ vs n, o.data ≠ .seq vs n) (n2 : o.data ≠ .fields #[]) : (hidT h H).get? b = some o := hidT_get e (by
  cases q : H b with
  | none => rfl
  | some u =>
    rcases L.kinds b u o q e with ⟨vs, n, z⟩ | z
    · exact (n1 vs n z).elim
    · exact (n2 z).elim)
theorem Light.ns {h : Heap} {H : Hp} (L : Light K H h) {b : Addr} {m : PySem.Str → Option Value} (x : h.Ns b m) : (hidT h H).Ns b m := by
  obtain ⟨o, es, ep, e, d, r⟩ := x
  refine ⟨o, es, ep, L.hid e (fun vs n z => ?_) (fun z => ?_), d, r⟩
  · rw [d] at z; cases z
  · rw [d] at z; cases z
theorem Light.inK {h : Heap} {H : Hp} (L : Light K H h) (KX : K.In h) : K.In (hidT h H) := fun b o e => hidT_get (KX b o e) (by
  cases q : H b with
  | none => rfl
  | some u =>
    rw [L.apart b u q] at e
    cases e)
theorem Light.md {h : Heap} {H : Hp} {mb : PySem.Str → Option Value} (L : Light K H h) (KX : K.In h) (hns : h.Ns mainGlobals mg) (hb : h.Ns builtinsNs mb) (hbb : ∀ x : PySem.Str, x ≠ "__name__" → mb x = bootBuiltins x) (lim : h.NoLimit) : Mod K mg (hidT h H) := by
  obtain ⟨mc, c1, c2⟩ := lim
  exact ⟨L.inK KX, L.ns hns, ⟨mb, L.ns hb, hbb⟩, ⟨mc, L.ns c1, c2⟩⟩
/-- a code object's table, as it is told of where the law begins -/
theorem Light.tab {h : Heap} {H : Hp} {c P : Addr} (L : Light K H h) (C : PySem.W.CodeHd h c P) (hP : h.get? P = some tb0) (hns : h.Ns mainGlobals mg)
    (hbm : ∃ (bm : Addr) (ob : Obj), mg "__builtins__" = some (.ref bm) ∧ bm ≠ builtinsNs ∧ h.get? bm = some ob ∧ ob.cls = .type "module" ∧ ob.dict = some builtinsNs ∧ ob.data = .plain) : TabB (hidT h H) mg c P := by
  have gP : mainGlobals ≠ P := fun z => by
    obtain ⟨o, es, ep, e, d, _⟩ := hns
    rw [z, hP] at e
    cases e
    cases d
  refine ⟨?_, ?_, gP⟩
  · obtain ⟨o, us, file, tf, flags, tg, inF, text, tt, e, r1, r2, r3, r⟩ := C
    refine ⟨o, us, file, tf, flags, tg, inF, text, tt, L.hid e (fun vs n z => ?_) (fun z => ?_), r1, r2, r3, r⟩
    · rw [r2] at z; cases z
    · rw [r2] at z
      cases z
      simp at r3
  · obtain ⟨bm, ob, b1, b2, b3, b4, b5, b6⟩ := hbm
    refine ⟨bm, ob, b1, b2, fun z => ?_, fun z => ?_, L.hid b3 (fun vs n z => ?_) (fun z => ?_), b4, b5, b6⟩
    · obtain ⟨o, es, ep, e, d, _⟩ := hns
      rw [z, e] at b3
      cases b3
      rw [d] at b6; cases b6
    · rw [z, hP] at b3
      cases b3
      cases b6
    · rw [b6] at z; cases z
    · rw [b6] at z; cases z

theorem run_scriptT {mb : PySem.Str → Option Value} {k : Nat} {fa a : Addr} {fd : FuncData} {x : PySem.Str} {sp : Sp} {s : Shared} {H : Hp} {cs : List (Addr × Addr)}
    (KX : K.In s.heap) (hns : s.heap.Ns mainGlobals mg) (hb : s.heap.Ns builtinsNs mb) (hbb : ∀ x : PySem.Str, x ≠ "__name__" → mb x = bootBuiltins x) (lim : s.heap.NoLimit) (nog : s.gens = #[])
    (hbm : ∃ (bm : Addr) (ob : Obj), mg "__builtins__" = some (.ref bm) ∧ bm ≠ builtinsNs ∧ s.heap.get? bm = some ob ∧ ob.cls = .type "module" ∧ ob.dict = some builtinsNs ∧ ob.data = .plain)
    (tabs : ∀ p ∈ cs, PySem.W.CodeHd s.heap p.1 p.2 ∧ s.heap.get? p.2 = some tb0) (room : Room k callerA)
    (G : ∀ base : Heap, K.In base → base.Ns mainGlobals mg → (∀ p ∈ cs, TabB base mg p.1 p.2) → FnG P w K mg base k fa fd [x] sp) (bind : ∀ (s : Shared) (u : Value), BindsTo s fd ⟨[u], []⟩ [(x, u)])
    (L : Light K H s.heap) (ok : HOk P w H s.heap) (kind : ∀ b u, H b = some u → (∃ o v, u = .frz o v) ∨ (u = .tbl #[] ∧ ∃ p ∈ cs, p.2 = b))
    (pr : sp [.ref a] H (fun v _ => v = .bl true) fun _ _ _ => False) :
    codeAny (model P w) callerA (.call (.ref fa) ⟨[.ref a], []⟩) (fun r s' => r = .ok (.ret (.bool true)) ∧ OldK s.heap s'.heap ∧ s'.os = s.os ∧ AllBare s'.gens) s := by
  have none_in : ∀ b : Addr, b ∈ frs ([] : List Env) → False := fun b z => by cases z
  have env0 : Env0 P w K mg (hidT s.heap H) callerA [] s H :=
    { frames := rfl, mod := L.md KX hns hb hbb lim, bs := fun b o q => of_hidT q, bsz := Nat.le_of_eq (hidT_size _ _), funs := trivial, frf := fun b z => (none_in b z).elim, hok := ok, bare := .of_eq nog }
  refine codeAny_mono ((G _ (L.inK KX) (L.ns hns) fun p hp => L.tab (tabs p hp).1 (tabs p hp).2 hns hbm).runs (us := [.ref a]) (vs := [.ref a]) rfl room env0 (bind s (.ref a)) (.cons rfl .nil) pr) ?_
  intro r s' out
  obtain ⟨u, rfl, v, H', os, bare, un, ok', rel, q⟩ := cr_out out
  subst q
  obtain rfl : u = Value.bool true := rel
  refine ⟨rfl, ⟨fun b o old => ?_, fun b o old => un.there b o old (fun z => by cases z)⟩, os, bare⟩
  cases q : H b with
  | none => exact .inl (un.keep b o old q (fun z => none_in b z) (fun z => by cases z))
  | some ho =>
    rcases kind b ho q with ⟨ob, v', rfl⟩ | ⟨rfl, p, hp, rfl⟩
    · have e1 := (ok b _ q).1
      have e2 := (ok' b _ (un.frzs b ob _ q)).1
      rw [old] at e1
      cases e1
      exact .inl e2
    · obtain ⟨more, z⟩ := un.tbls p.2 #[] q
      obtain ⟨C, hP⟩ := tabs p hp
      have e2 : s'.heap.get? p.2 = some { cls := .none, data := .fields (#[] ++ more) } := ok' p.2 _ z
      rw [hP] at old
      cases old
      refine .inr (.inl ⟨(C.tab hP).isCodeTable, rfl, #[], more, rfl, ?_⟩)
      rw [e2]

/-- a def's code object and the table in it, from what is written out -/
theorem tab_by {x : PySem.Str} {f c P : Addr} {oc oc2 : Value} {od od2 : Option Addr} {fd : FuncData} {sl sl2 : Array (Option Value)} {vs : Array Value} (g : PySem.W.nsIn K mainGlobals x = some (some (.ref f))) (lf : K.lookup f = some ⟨oc, od, .func fd, sl⟩) (e : fd.code = .ref c)
    (lc : K.lookup c = some ⟨oc2, od2, .fields vs, sl2⟩) (ep : (vs[11]? : Option Value) = some (.ref P)) : PySem.W.tabIn K x = some (c, P) := by
  unfold PySem.W.tabIn
  simp only [g, lf, e, lc, ep]
theorem code_by {x : PySem.Str} {f c P : Addr} {oc : Value} {od : Option Addr} {fd : FuncData} {sl : Array (Option Value)} (g : PySem.W.nsIn K mainGlobals x = some (some (.ref f))) (tb : PySem.W.tabIn K x = some (c, P)) (lf : K.lookup f = some ⟨oc, od, .func fd, sl⟩) : fd.code = .ref c := by
  unfold PySem.W.tabIn at tb
  simp only [g, lf] at tb
  split at tb
  · rename_i c2 hc
    split at tb
    · split at tb
      · cases tb
        exact hc
      · cases tb
    · cases tb
  · cases tb
/-- a def that makes lambdas, from its body, where no repr is under way: its code object's place is known -/
theorem fn_okL {x : PySem.Str} {st : Stmt} {f c P1 : Addr} {fd : FuncData} {N ps : List PySem.Str} {k : Nat} {sp : Sp} (F : Fun K x x st f fd) (g : PySem.W.nsIn K mainGlobals x = some (some (.ref f))) (tb : PySem.W.tabIn K x = some (c, P1)) (S : FnScope N ps (defScope st)) (len : ∀ vs H Q E, sp vs H Q E → vs.length = ps.length)
    (hbody : ∀ (A : Around) (out : List Env) (s : Shared) (H : Hp) (vs : List V) (Q : VK) (E : XK), A.guards = some [] → Room k (A.deeper (envOfC x (defScope st) s.heap.objs.size f (.ref c))) → sp vs H Q E →
      ∃ t, PSs (cxOf CX0 P w K mg base N x (defScope st) f (.ref c) A out s H E).nox (defBody st) t ∧ t { nx := fun _ H' => Q .non H', rt := Q } (start N vs) H) : FnG P w K mg base (k + 1) f fd ps sp := by
  refine fn_okC F S len fun cdv A out s H vs Q E lk hA hr pr => ?_
  obtain ⟨oc, od, kV, doc, pm, an, ct, osl, lk⟩ := lk
  obtain rfl : cdv = .ref c := code_by g tb lk
  exact hbody A out s H vs Q E hA hr pr

/-- what k_head leaves, from the promise of the law's def; cs: the code objects that make lambdas, and their tables -/
theorem walkGT {l : PySem.W.OpenLaw} {n k : Nat} {q : Program} {loose : List PySem.Str} {XP : (PySem.Str → Option Value) → Heap → Prop} {YP : World → Heap → Prop} {d : DefRec} {KK : Params → PySem.W.Frag} {x : PySem.Str}
    (hn : l.most = some n) (hn2 : n ≤ sizeLine) (nod : d.params.defaults = []) (room : Room k callerA) (hY : ∀ (w : World) (h : Heap), YP w h → (KK w.params).In h)
    (G : ∀ (w : World) (mg : PySem.Str → Option Value) (fa : Addr) (h : Heap), (KK w.params).In h → h.Ns mainGlobals mg → mg d.name = some (.ref fa) →
      ∃ (fd : FuncData) (sp : Sp) (cs : List (Addr × Addr)), (∀ p ∈ cs, ∃ (y : PySem.Str) (e : DefRec), (PyProof.Rows.recsOf q).find? (fun e => e.name == y) = some e ∧ PySem.W.tabIn (KK w.params) y = some p) ∧ (∀ p ∈ cs, (KK w.params).lookup p.2 = none) ∧
        (∀ (s : Shared) (u : Value), BindsTo s fd ⟨[u], []⟩ [(x, u)]) ∧ (∀ base : Heap, (KK w.params).In base → base.Ns mainGlobals mg → (∀ p ∈ cs, TabB base mg p.1 p.2) → FnG l.prog w (KK w.params) mg base k fa fd [x] sp) ∧
        ∀ (H : Hp) (a : Addr) (ns : List Int), ns.length ≤ n → SqL (KK w.params) H a (ns.map V.int) → (∀ p ∈ cs, H p.2 = some (.tbl #[])) → (∀ b, b ≠ a → (∀ p ∈ cs, p.2 ≠ b) → H b = none) → sp [.ref a] H (fun v _ => v = .bl true) fun _ _ _ => False) :
    PySem.W.WalkO q loose XP YP l.row.toRowW d [] (fun f vs => PySem.call f vs) := by
  refine Att.attach_call hn nod ?_
  intro w s0 s1 mg mb fa o pm cd doc a vs ns T Y _ _ _ at_ obj intsA len nog
  have KX := hY w _ Y
  obtain ⟨fd, sp, cs, hcs, nT, bind, F, pr⟩ := G w mg fa _ KX T.T.g at_
  have tabs : ∀ p ∈ cs, PySem.W.CodeHd s1.heap p.1 p.2 ∧ s1.heap.get? p.2 = some tb0 := fun p hp => by
    obtain ⟨y, e, h1, h2⟩ := hcs p hp
    exact PySem.W.tab_of T.T KX h1 h2
  have size : (ns.map V.int).length ≤ sizeLine := by
    rw [List.length_map]
    exact Nat.le_trans len hn2
  have na : ∀ p ∈ cs, p.2 ≠ a := fun p hp z => by
    have e := (tabs p hp).2
    rw [z, obj] at e
    cases e
  let isT : Addr → Prop := fun b => ∃ p ∈ cs, p.2 = b
  have dT : ∀ b, Decidable (isT b) := fun b => Classical.propDecidable _
  cases z : (KK w.params).lookup a with
  | none =>
    let H : Hp := fun b => if b = a then some (.frz { cls := .type "list", data := .seq vs.toArray } (.lst (ns.map V.int))) else if isT b then some (.tbl #[]) else none
    have at1 : H a = some (HO.frz { cls := .type "list", data := .seq vs.toArray } (.lst (ns.map V.int))) := if_pos rfl
    have atT : ∀ p ∈ cs, H p.2 = some (.tbl #[]) := fun p hp => (if_neg (na p hp)).trans (if_pos ⟨p, hp, rfl⟩)
    have off : ∀ b, b ≠ a → ¬ isT b → H b = none := fun b n1 n2 => (if_neg n1).trans (if_neg n2)
    have split : ∀ b u, H b = some u → (b = a ∧ u = HO.frz { cls := .type "list", data := .seq vs.toArray } (.lst (ns.map V.int))) ∨ (isT b ∧ u = .tbl #[]) := fun b u e => by
      by_cases n1 : b = a
      · subst n1
        rw [at1] at e
        cases e
        exact .inl ⟨rfl, rfl⟩
      · by_cases n2 : isT b
        · have e2 : H b = some (.tbl #[]) := (if_neg n1).trans (if_pos n2)
          rw [e2] at e
          cases e
          exact .inr ⟨n2, rfl⟩
        · rw [off b n1 n2] at e
          cases e
    refine run_scriptT (H := H) (cs := cs) KX T.T.g T.T.b T.T.builtins T.T.nolimit nog T.T.bmain tabs room F bind ⟨fun b u o e ho => ?_, fun b u e => ?_⟩ ?_ ?_ ?_
    · rcases split b u e with ⟨rfl, _⟩ | ⟨⟨p, hp, rfl⟩, _⟩
      · rw [obj] at ho
        cases ho
        exact .inl ⟨_, _, rfl⟩
      · rw [(tabs p hp).2] at ho
        cases ho
        exact .inr rfl
    · rcases split b u e with ⟨rfl, _⟩ | ⟨⟨p, hp, rfl⟩, _⟩
      · exact z
      · exact nT p hp
    · intro b u e
      rcases split b u e with ⟨rfl, rfl⟩ | ⟨⟨p, hp, rfl⟩, rfl⟩
      · exact ⟨obj, size, vs, _, vals_ints intsA, obj⟩
      · exact (tabs p hp).2
    · intro b u e
      rcases split b u e with ⟨rfl, rfl⟩ | ⟨⟨p, hp, rfl⟩, rfl⟩
      · exact .inl ⟨_, _, rfl⟩
      · exact .inr ⟨rfl, p, hp, rfl⟩
    · exact pr H a ns len (.inl (.inr ⟨_, at1⟩)) atT fun b n1 n2 => off b n1 fun ⟨p, hp, e⟩ => n2 p hp e
  | some ob =>
    have e := KX a ob z
    rw [obj] at e
    cases e
    let H : Hp := fun b => if isT b then some (.tbl #[]) else none
    have atT : ∀ p ∈ cs, H p.2 = some (.tbl #[]) := fun p hp => if_pos ⟨p, hp, rfl⟩
    have split : ∀ b u, H b = some u → isT b ∧ u = .tbl #[] := fun b u e => by
      by_cases n2 : isT b
      · have e2 : H b = some (.tbl #[]) := if_pos n2
        rw [e2] at e
        cases e
        exact ⟨n2, rfl⟩
      · have e2 : H b = none := if_neg n2
        rw [e2] at e
        cases e
    refine run_scriptT (H := H) (cs := cs) KX T.T.g T.T.b T.T.builtins T.T.nolimit nog T.T.bmain tabs room F bind ⟨fun b u o e ho => ?_, fun b u e => ?_⟩ ?_ ?_ ?_
    · obtain ⟨⟨p, hp, rfl⟩, _⟩ := split b u e
      rw [(tabs p hp).2] at ho
      cases ho
      exact .inr rfl
    · obtain ⟨⟨p, hp, rfl⟩, _⟩ := split b u e
      exact nT p hp
    · intro b u e
      obtain ⟨⟨p, hp, rfl⟩, rfl⟩ := split b u e
      exact (tabs p hp).2
    · intro b u e
      obtain ⟨⟨p, hp, rfl⟩, rfl⟩ := split b u e
      exact .inr ⟨rfl, p, hp, rfl⟩
    · refine pr H a ns len (.inr ⟨_, vs.toArray, _, z, rfl, rfl, rfl, ?_, by simpa using vals_ints intsA⟩) atT fun b n1 n2 => if_neg fun ⟨p, hp, e⟩ => n2 p hp e
      rw [List.size_toArray, intsA.length]
      rw [List.length_map] at size
      exact size
end Gd

set_option maxRecDepth 100000
set_option maxHeartbeats 4000000
namespace Gd
open PySem PySem.Spec PyProof.Rows L2

/-! ### errors that were kept: whose class, which field -/
/-- what the written part says of an error class at C, so that its errors may be asked -/
structure ErC (K : PySem.W.Frag) (C : Addr) : Prop where
  here : (PySem.W.clsIn K C).isSome = true
  ga : PySem.W.findIn K (.ref C) "__getattribute__" = some (some (.builtin "BaseException.__getattribute__"))
  gg : PySem.W.findIn K (.ref C) "__getattr__" = some none
  ex : PySem.W.subIn K (.ref C) (.type "BaseException") = some true
  dict : PySem.W.hasDictIn K C = true
  cl : PySem.W.findIn K (.ref C) "__class__" = some (some (.builtin "object.__class__"))
  get : PySem.W.specialIn K (.builtin "object.__class__") "__get__" = some (some (.builtin "getset_descriptor.__get__"))
  tk : PySem.W.takesIn K (.builtin "object.__class__") = some true
  ob : PySem.W.mroIn K C (.type "object") = some true
/-- at a: an error of the class C, kept; its own names fs -/
def Err (H : Hp) (a C : Addr) (fs : List (PySem.Str × V)) : Prop := ∃ d, H a = some (ExK a (.ref C) (some d)) ∧ H d = some (.xd fs)
section
variable {X : Cx} {pins : List (Addr × Obj)} {σ : L2.St} {H : Hp} {s : Shared}
theorem Err.stands {a C : Addr} {fs : List (PySem.Str × V)} (I : Inv X pins σ H s) (e : Err H a C fs) :
    ∃ (ox od : Obj) (mA : PySem.Str → Option Value), PySem.W.InstAt s.heap a ox C (some od) ∧ (∀ n, PySem.W.lookIn n od = some (mA n)) ∧ ∀ f, RelO (fs.lookup f) (mA f) := by
  obtain ⟨d, ea, ed⟩ := e
  obtain ⟨⟨ox, vs, g, c1, c2, c3⟩, _, _⟩ := (show ObjOk X.prog X.w H s.heap a (ExK a (.ref C) (some d)) from I.hok a _ ea)
  obtain ⟨mA, hns, hr⟩ := (show ObjOk X.prog X.w H s.heap d (.xd fs) from I.hok d _ ed)
  obtain ⟨od, ho, hl⟩ := lookIn_ns hns
  exact ⟨ox, od, mA, ⟨g, c1, by unfold PySem.W.notCls; rw [c3], by rw [c2]; exact ho⟩, hl, hr⟩
/-- e.f of a kept error -/
def tErF (K : PySem.W.Frag) (f : PySem.Str) (te : TE) : TE := fun σ H Q => te σ H fun x H1 => ∃ (a C : Addr) (fs : List (PySem.Str × V)) (v : V), x = .ref a ∧ Err H1 a C fs ∧ ErC K C ∧ PySem.W.findIn K (.ref C) f = some none ∧ fs.lookup f = some v ∧ Q v H1
theorem pe_erf {e : Expr} {te : TE} {pos : Pos} {f : PySem.Str} (he : PE X e te) (hb : attributeBase e f X.env (eval e X.env) = eval e X.env := by rfl) : PE X (.Attribute e f pos) (tErF X.K f te) := by
  refine ⟨fun pins s σ H Q I h => attr_of hb (thn (he.run pins s σ H _ I h) fun u s1 hh => ?_)⟩
  obtain ⟨x, H1, I1, rx, a, C, fs, v, rfl, er, T, no, l, q⟩ := hh
  obtain rfl : u = Value.ref a := rx
  obtain ⟨ox, od, mA, J, hl, hr⟩ := er.stands I1
  obtain ⟨u, hu, ru⟩ := RelO.some_of (v := v) (o := mA f) (by rw [← l]; exact hr f)
  exact HandSPX.exc_get I1.kIn J T.ga T.gg T.ex (PySem.W.findObj_own T.dict no rfl (by rw [hl, hu])) (handed_of ru) ⟨v, H1, I1.tok _, ru, q⟩
/-- isinstance(e, c), e a kept error -/
def rIsK (K : PySem.W.Frag) : List V → Hp → VK → Prop := fun xs H Q => ∃ (a C : Addr) (fs : List (PySem.Str × V)) (c : V) (cv : Value) (b : Bool), xs = [.ref a, c] ∧ (∀ u, RelV c u → u = cv) ∧ Err H a C fs ∧ ErC K C ∧ PySem.W.kitOne K (.ref C) cv = some b ∧ Q (.bl b) H
theorem call_isK : CallR X (.builtin "isinstance") (rIsK X.K) := by
  intro pins s σ H xs us Q I r h
  obtain ⟨a, C, fs, c, cv, b, rfl, hc, er, T, e, q⟩ := h
  obtain ⟨u1, u2, rfl, r1, r2⟩ := vals2 r
  obtain rfl : u1 = Value.ref a := r1
  obtain rfl := hc _ r2
  obtain ⟨ox, od, mA, J, _, _⟩ := er.stands I
  exact PySem.W.kia_one (PySem.W.kitx_exc (ox := ox) (od := some od) T.here T.ga T.gg T.ex T.cl T.get T.tk T.ob) I.kIn J e (fun z => nomatch z) fun tk => ⟨.bl b, H, I.tok tk, rfl, q⟩
end
theorem Err.same {H H1 : Hp} {a C : Addr} {fs : List (PySem.Str × V)} (e : Err H a C fs) (h : Same H H1) : Err H1 a C fs := by
  obtain ⟨d, e1, e2⟩ := e
  exact ⟨d, h _ _ e1, h _ _ e2⟩
theorem Err.not_none {a C : Addr} {H : Hp} {fs : List (PySem.Str × V)} (e : Err H a C fs) : H a ≠ none := by
  obtain ⟨d, e1, _⟩ := e
  rw [e1]
  exact fun z => by cases z
end Gd

set_option maxRecDepth 100000
set_option maxHeartbeats 4000000
namespace Gd
open PySem PySem.Spec PyProof.Rows L2

/-! ### a dict of the module, its keys texts: d.get(k) -/
inductive WrE (prm : Params) : List (PySem.Str × V) → List DictEntry → Prop where
  | nil : WrE prm [] []
  | cons {x : PySem.Str} {v : V} {t : Tok} {u : Value} {l : List (PySem.Str × V)} {es : List DictEntry} (r : RelV v u) (rest : WrE prm l es) : WrE prm ((x, v) :: l) (⟨PyData.keyHash prm x, .str x t, u⟩ :: es)
theorem WrE.keys {prm : Params} : ∀ {l : List (PySem.Str × V)} {es : List DictEntry}, WrE prm l es → PySem.W.KeysLit prm es
  | _, _, .nil => trivial
  | _, _, .cons r rest => ⟨⟨_, _, rfl, rfl⟩, rest.keys⟩
theorem WrE.find {prm : Params} {z : PySem.Str} : ∀ {l : List (PySem.Str × V)} {es : List DictEntry}, WrE prm l es → RelO (l.lookup z) ((es.find? fun e => Value.isStrOf z e.key).map (·.val))
  | _, _, .nil => trivial
  | _, _, .cons (x := x) (v := v) (t := t) (u := u) (l := l) (es := es) r rest => by
    have ih := rest.find (z := z)
    have e1 : Value.isStrOf z (.str x t) = (x == z) := rfl
    rw [lookup_put x z v l, List.find?_cons, e1]
    by_cases h : z = x
    · subst h
      rw [if_pos rfl, show (z == z) = true from by simp]
      exact r
    · rw [if_neg h, show (x == z) = false from by simpa using fun q => h q.symm]
      exact ih
def WrD (K : PySem.W.Frag) (prm : Params) (a : Addr) (l : List (PySem.Str × V)) : Prop := ∃ es n, K.lookup a = some ⟨.type "dict", none, .dict es n, #[]⟩ ∧ (a == sysModules) = false ∧ WrE prm l es.toList
def tWGet (K : PySem.W.Frag) (w : World) (td ty : TE) : TE := fun σ H Q => td σ H fun x H1 => ∃ (a : Addr) (l : List (PySem.Str × V)), x = .ref a ∧ WrD K w.params a l ∧ ty σ H1 fun y H2 => ∃ z, y = .str z ∧ Q ((l.lookup z).getD .non) H2
section
variable {X : Cx} {o e : Expr} {apos cpos : Pos} {td ty : TE}
theorem pe_wget (ho : PE X o td) (he : PE X e ty) (m : M1 X o "get" apos e cpos) : PE X (.Call (.Attribute o "get" apos) [e] [] cpos) (tWGet X.K X.w td ty) := by
  refine ⟨fun pins s σ H Q I h => ?_⟩
  refine wpAny_Call_method m.base m.few m.line PySem.F.plainAttrs_dict PySem.F.slot_dict_get PySem.F.type_dict_get (thn (ho.run pins s σ H _ I h) fun u s1 ⟨x, H1, I1, rx, a, l, ex, ⟨es, n, lk, low, we⟩, q1⟩ => ?_)
  subst ex
  obtain rfl : u = Value.ref a := rx
  have there := I1.kIn _ _ lk
  have mp := PySem.W.mapOf_K (prog := X.prog) (w := X.w) I1.kIn lk we.keys
  refine ⟨mp.typeIs, fun b z => ?_, ?_⟩
  · cases z
    exact ⟨_, there, rfl⟩
  rw [m.trees]
  refine Calls.callWith_builtin rfl (Calls.evalArgs_plain (Calls.spliced_cons (thn (he.run pins s1 σ H1 _ I1 q1) fun iv s2 ⟨y, H2, I2, ry, z, ey, q2⟩ => Calls.spliced_nil ?_)))
  subst ey
  obtain ⟨t, rfl⟩ := (show ∃ t, iv = Value.str z t from ry)
  have mp2 := PySem.W.mapOf_K (prog := X.prog) (w := X.w) I2.kIn lk we.keys
  refine call_meetsIn PySem.F.slot_dict_get mp2.typeIs PySem.F.entry_dict_get (PySem.F.args_dict_get_2 _ _) (meets_dict_get (strKind X.prog X.w) a (strKind_is X.prog X.w z t) low) ⟨_, mp2, ?_⟩
  refine ⟨_, H2, I2.tok _, ?_, q2⟩
  have rel := we.find (z := z)
  have same : findBy Value.isStrOf es z = (es.toList.find? fun e => Value.isStrOf z e.key).map (·.val) := by
    unfold findBy
    rw [← Array.find?_toList]
  show RelV ((l.lookup z).getD .non) ((findBy Value.isStrOf es z).getD .none)
  rw [same]
  cases e1 : l.lookup z with
  | none =>
    rw [e1] at rel
    cases e2 : (es.toList.find? fun e => Value.isStrOf z e.key).map (·.val) with
    | none => rfl
    | some u =>
      rw [e2] at rel
      exact rel.elim
  | some v =>
    rw [e1] at rel
    cases e2 : (es.toList.find? fun e => Value.isStrOf z e.key).map (·.val) with
    | none =>
      rw [e2] at rel
      exact rel.elim
    | some u =>
      rw [e2] at rel
      exact rel
end
end Gd

set_option maxRecDepth 100000
set_option maxHeartbeats 4000000
namespace Gd
open PySem PySem.Spec PyProof.Rows L2

/-! ### type(x) in (t, ..) -/
/-- a class whose own class is type -/
def OfTy (T : String) : Prop := ∀ s' : Shared, s'.TypeIs (.type T) "type"
theorem eqAt_ty {A : Around} {s : Shared} {a b : String} (ha : OfTy a) (hb : OfTy b) : SeqAt.EqAt A s (.type a) (.type b) (decide (a = b)) := fun prog w E Q h => by
  unfold eqBool
  refine wpAny_holding ?_
  by_cases e : a = b
  · subst e
    rw [decide_eq_true rfl] at h
    rw [if_pos (by simp)]
    exact wpAny_bind (wpAny_rule (wpAny_pure h))
  · rw [decide_eq_false e] at h
    have ne : (Value.type a == Value.type b) = false := beq_eq_false_iff_ne.mpr fun z => e (Value.type.inj z)
    rw [if_neg (by rw [ne]; decide)]
    exact wpAny_bind (TypeEq.eq_type_other (Q := fun v s1 => wpAny (model prog w) A (truthOfDropped v) Q E s1) ha hb ne (wpAny_truthy_bool h))
def tyIs (T : String) : Value → Bool
  | .type n => decide (n = T)
  | _ => false
def rInT (K : PySem.W.Frag) (neg : Bool) : R2 := fun x y H Q => ∃ (T : String) (p : Addr) (ts : List String), x = .ty T ∧ y = .ref p ∧ SqT K H p (ts.map V.ty) ∧ OfTy T ∧ (∀ t ∈ ts, OfTy t) ∧ Q (.bl (if neg then !decide (T ∈ ts) else decide (T ∈ ts))) H
theorem vals_tys : ∀ {ts : List String} {us : List Value}, Vals (ts.map V.ty) us → us = ts.map Value.type
  | [], _, .nil => rfl
  | t :: ts, _, .cons r rest => by
    cases r
    rw [vals_tys rest]
    rfl
theorem any_tyIs {T : String} : ∀ ts : List String, (ts.map Value.type).any (tyIs T) = decide (T ∈ ts)
  | [] => rfl
  | t :: ts => by
    rw [List.map_cons, List.any_cons, any_tyIs ts]
    show (decide (t = T) || decide (T ∈ ts)) = _
    by_cases e : t = T
    · subst e
      simp
    · have e' : T ≠ t := fun z => e z.symm
      simp [e, e']
section
variable {X : Cx}
theorem seq_types {pins : List (Addr × Obj)} {σ : L2.St} {H : Hp} {s : Shared} {T : String} {p : Addr} {ts : List String} (I : Inv X pins σ H s) (hq : SqT X.K H p (ts.map V.ty)) (hT : OfTy T) (ht : ∀ t ∈ ts, OfTy t) :
    ∃ its : List Value, s.heap.IsTuple p its.toArray ∧ (∀ A, ∀ y ∈ its.toArray, SeqAt.EqAt A s y (.type T) (tyIs T y)) ∧ its.toArray.any (tyIs T) = decide (T ∈ ts) := by
  obtain ⟨its, r, pl, hz⟩ := I.tuple hq
  have e := vals_tys r
  refine ⟨its, pl, fun A w hw => ?_, ?_⟩
  · have hw' : w ∈ ts.map Value.type := by
      rw [← e]
      simpa using hw
    obtain ⟨t, m, rfl⟩ := List.mem_map.mp hw'
    exact eqAt_ty (ht t m) hT
  · rw [show its.toArray.any (tyIs T) = its.any (tyIs T) from by simp, e, any_tyIs]
theorem op_in_ty : OpR X (compareOp .In) (rInT X.K false) := by
  intro pins s σ H x y v u Q I rx ry h
  obtain ⟨T, p, ts, rfl, rfl, hq, hT, ht, q⟩ := h
  cases (show v = Value.type T from rx)
  cases (show u = Value.ref p from ry)
  obtain ⟨its, pl, at_, an⟩ := seq_types I hq hT ht
  exact SeqAt.in_tupleAt (tyIs T) pl (at_ _) ⟨.bl _, H, I, rfl, by rw [an]; exact q⟩
theorem op_notIn_ty : OpR X (compareOp .NotIn) (rInT X.K true) := by
  intro pins s σ H x y v u Q I rx ry h
  obtain ⟨T, p, ts, rfl, rfl, hq, hT, ht, q⟩ := h
  cases (show v = Value.type T from rx)
  cases (show u = Value.ref p from ry)
  obtain ⟨its, pl, at_, an⟩ := seq_types I hq hT ht
  exact SeqAt.notIn_tupleAt (tyIs T) pl (at_ _) ⟨.bl _, H, I, rfl, by rw [an]; exact q⟩
end
end Gd

set_option maxRecDepth 100000
set_option maxHeartbeats 4000000
namespace Gd
open PySem PySem.Spec PyProof.Rows L2

theorem Od.ktup {K : PySem.W.Frag} {H : Hp} {x : V} {T : String} (o : Od H x T) : PySem.W.kitOne K (.type T) (.type "tuple") = some (decide (T = "tuple")) := by
  cases o <;> exact kit_ty (by decide +kernel)
theorem Od.klst {K : PySem.W.Frag} {H : Hp} {x : V} {T : String} (o : Od H x T) : PySem.W.kitOne K (.type T) (.type "list") = some (decide (T = "list")) := by
  cases o <;> exact kit_ty (by decide +kernel)
/-- the statements of a class -/
def inCls : Stmt → List Stmt
  | .ClassDef (body := b) .. => b
  | _ => []

/-! ### len(o), o of an own class with a __len__ -/
section
variable {X : Cx} {k : Nat} {f : Addr} {fd : FuncData} {sp : Sp}
def rLenO (K : PySem.W.Frag) (f : Addr) (sp : Sp) : List V → Hp → VK → Prop := fun xs H Q => ∃ (a C dx : Addr) (fs : List (PySem.Str × V)), xs = [.ref a] ∧ H a = some (.ins C dx fs) ∧ PySem.W.findIn K (.ref C) "__len__" = some (some (.ref f)) ∧ PySem.W.typeIn K (.ref f) = some (.type "function") ∧
  sp [.ref a] H (fun v H1 => ∃ n : Nat, v = .int n ∧ n ≤ sizeLine ∧ Q (.int n) H1) (fun _ _ _ => False)
theorem call_lenO (F : FnOk X.prog X.w X.K X.mg X.base CX0 k f fd ["self"] sp) (hr : Room (k + 1) X.A) (b : Binds X.K fd ["self"] []) : CallR X (.builtin "len") (rLenO X.K f sp) := by
  intro pins s σ H xs us Q I r h
  obtain ⟨a, C, dx, fs, rfl, ea, fl, ft, pr⟩ := h
  obtain ⟨u, rfl, ru⟩ := vals1 r
  obtain rfl : u = Value.ref a := ru
  obtain ⟨_, _, _, hx, mA, hns, _⟩ := (show ObjOk X.prog X.w H s.heap a (.ins C dx fs) from I.hok a _ ea)
  have ty : PySem.W.Looks (model X.prog X.w) s.heap (typeOf (.ref a)) (.ref C) := fun A Q E s1 k1 q => wpAny_typeOf_ref (k1 _ _ hx) q
  refine Calls.call_function_entry kind_len plain_len entry_len (args_len1 _) ?_
  unfold Builtin.«len»
  refine wpAny_bind (m := oneArg "len" _) (wpAny_pure ?_)
  refine wpAny_bind (m := callSpecial? (.ref a) (Str.ofString "__len__")) ?_
  unfold callSpecial? specialOf
  refine wpAny_bind (wpAny_bind (ty.here ((PySem.W.looks_findIn I.kIn fl).here ?_)))
  refine wpAny_holding (wpAny_bind ((PySem.W.bind_fn I.kIn (.ref a) ft).here ?_))
  show wpAny _ _ (call (.ref f) [.ref a] [] >>= fun v => pure (some v)) _ _ s
  refine wpAny_bind (wpAny_call (codeAny_mono (F.run _ X.stack s H ⟨[.ref a], []⟩ [.ref a] [.ref a] _ _ hr.in1 ⟨I.env0.frames, I.env0.mod, I.env0.bs, I.env0.bsz, I.env0.funs, I.env0.frf, I.env0.hok, I.env0.bare⟩ (b s [.ref a] I.kIn rfl) (.cons rfl .nil) pr) fun res s' hq => ?_))
  obtain ⟨u, rfl, ce⟩ := cr_out hq
  obtain ⟨v, H1, I1, rv, n, rfl, hn, q⟩ := I.after ce
  obtain ⟨t, rfl⟩ := (show ∃ t, u = Value.int n t from rv)
  rw [sizeLine_eq] at hn
  refine wpAny_pure ?_
  refine wpAny_bind (wpAny_holding (wpAny_pure ?_))
  refine wpAny_bind (wpAny_letGo ?_)
  show wpAny _ _ (if ((n : Nat) : Int) < 0 then _ else _) _ _ _
  rw [if_neg (by omega)]
  show wpAny _ _ (if ((n : Nat) : Int) ≥ 2 ^ 63 then _ else _) _ _ _
  rw [if_neg (by omega)]
  exact wpAny_bind (wpAny_mkInt (wpAny_pure ⟨_, rfl, .int n, H1, I1.tok _, ⟨_, rfl⟩, q⟩))
end
end Gd

set_option maxRecDepth 100000
set_option maxHeartbeats 4000000
namespace Gd
open PySem PySem.Spec PyProof.Rows L2
variable {K : PySem.W.Frag} {C D : Addr}
/-- isinstance by an own class, what is known of it -/
theorem kit_cl {b : Bool} (T : ErC K D) (ty : PySem.W.typeIn K (.ref D) = some (.type "type")) (self : PySem.W.subIn K (.ref C) (.ref C) = some true) (sub : PySem.W.subIn K (.ref C) (.ref D) = some b) : PySem.W.kitOne K (.ref C) (.ref D) = some b := by
  by_cases e : C = D
  · subst e
    rw [self] at sub
    unfold PySem.W.kitOne
    rw [if_pos (by simp)]
    exact sub
  · unfold PySem.W.kitOne
    rw [if_neg (by simpa using e)]
    show (if ((PySem.W.clsIn K D).isSome && PySem.W.typeIn K (.ref D) == some (.type "type")) = true then PySem.W.subIn K (.ref C) (.ref D) else none) = some b
    rw [if_pos (by rw [T.here, ty]; rfl)]
    exact sub
theorem kit_bt {n : String} {b : Bool} (m : PySem.W.kitMeta n = true) (sub : PySem.W.subIn K (.ref C) (.type n) = some b) : PySem.W.kitOne K (.ref C) (.type n) = some b := by
  unfold PySem.W.kitOne
  rw [if_neg (by simp)]
  show (if PySem.W.kitMeta n = true then PySem.W.subIn K (.ref C) (.type n) else none) = some b
  rw [if_pos m]
  exact sub
theorem exm_cl {b : Bool} (T : ErC K D) (ty : PySem.W.typeIn K (.ref D) = some (.type "type")) (sub : PySem.W.subIn K (.ref C) (.ref D) = some b) : PySem.W.exmOne K (.ref C) (.ref D) = some b := PySem.W.exm_ref T.ex T.dict ty sub
theorem exm3 {c : Value} {c1 c2 c3 : Value} {b1 b2 b3 : Bool} (e1 : PySem.W.exmOne K c c1 = some b1) (e2 : PySem.W.exmOne K c c2 = some b2) (e3 : PySem.W.exmOne K c c3 = some b3) : PySem.W.exmAny K c [c1, c2, c3] = some (b1 || b2 || b3) := by
  simp [PySem.W.exmAny, e1, e2, e3, Bool.or_assoc]
theorem takes_len {X : Cx} {W : WX} (tk : Takes X W) : Takes X (fun cls d σ H => σ.length = X.N.length → W cls d σ H) := fun u s' ⟨a, B, sI, pins, σ, H, cls, d, e, I, nb, up, sky, na, os, ag, w⟩ =>
  tk u s' ⟨a, B, sI, pins, σ, H, cls, d, e, I, nb, up, sky, na, os, ag, w I.len⟩
end Gd

set_option maxRecDepth 100000
set_option maxHeartbeats 4000000
namespace K
open PySem PySem.Spec PyProof.Rows L2 Gd
def topS (i : Nat) : Stmt := PySem.Challenge.pw_bindbench_k02_steps_and_kinds.main.body.getD i (.Pass ⟨0, 0, 0, 0⟩)
abbrev s_is_whole : Stmt := topS 7
theorem sc_is_whole : FnScope ["thing", "least", "most"] ["thing", "least", "most"] (defScope s_is_whole) := ⟨rfl, rfl, rfl, by decide +kernel, rfl, by decide +kernel, by decide +kernel⟩
abbrev s_is_name : Stmt := topS 8
theorem sc_is_name : FnScope ["thing", "sign"] ["thing"] (defScope s_is_name) := ⟨rfl, rfl, rfl, by decide +kernel, rfl, by decide +kernel, by decide +kernel⟩
abbrev s_is_step : Stmt := topS 10
theorem sc_is_step : FnScope ["thing", "work", "hours", "rest"] ["thing"] (defScope s_is_step) := ⟨rfl, rfl, rfl, by decide +kernel, rfl, by decide +kernel, by decide +kernel⟩
abbrev s_kind_of : Stmt := topS 11
theorem sc_kind_of : FnScope ["work"] ["work"] (defScope s_kind_of) := ⟨rfl, rfl, rfl, by decide +kernel, rfl, by decide +kernel, by decide +kernel⟩
abbrev s_BadValue_init : Stmt := (inCls (topS 13)).getD 0 (.Pass ⟨0, 0, 0, 0⟩)
theorem sc_BadValue_init : FnScope ["self", "what"] ["self", "what"] (defScope s_BadValue_init) := ⟨rfl, rfl, rfl, by decide +kernel, rfl, by decide +kernel, by decide +kernel⟩
abbrev s_are_steps : Stmt := topS 19
theorem sc_are_steps : FnScope ["thing", "step"] ["thing"] (defScope s_are_steps) := ⟨rfl, rfl, rfl, by decide +kernel, rfl, by decide +kernel, by decide +kernel⟩
abbrev s_Style_init : Stmt := (inCls (topS 20)).getD 0 (.Pass ⟨0, 0, 0, 0⟩)
theorem sc_Style_init : FnScope ["self", "name", "steps"] ["self", "name", "steps"] (defScope s_Style_init) := ⟨rfl, rfl, rfl, by decide +kernel, rfl, by decide +kernel, by decide +kernel⟩
abbrev s_Style_step : Stmt := (inCls (topS 20)).getD 3 (.Pass ⟨0, 0, 0, 0⟩)
theorem sc_Style_step : FnScope ["self", "number"] ["self", "number"] (defScope s_Style_step) := ⟨rfl, rfl, rfl, by decide +kernel, rfl, by decide +kernel, by decide +kernel⟩
abbrev s_Style_len : Stmt := (inCls (topS 20)).getD 9 (.Pass ⟨0, 0, 0, 0⟩)
theorem sc_Style_len : FnScope ["self"] ["self"] (defScope s_Style_len) := ⟨rfl, rfl, rfl, by decide +kernel, rfl, by decide +kernel, by decide +kernel⟩
abbrev s_law_mixed : Stmt := topS 22
theorem sc_law_mixed : FnScope ["cell", "k", "turned"] ["cell", "k"] (defScope s_law_mixed) := ⟨rfl, rfl, rfl, by decide +kernel, rfl, by decide +kernel, by decide +kernel⟩
abbrev s_law_folded : Stmt := topS 23
theorem sc_law_folded : FnScope ["script", "found", "k", "cell"] ["script"] (defScope s_law_folded) := ⟨rfl, rfl, rfl, by decide +kernel, rfl, by decide +kernel, by decide +kernel⟩
abbrev s_law_draw : Stmt := topS 24
theorem sc_law_draw : FnScope ["m", "many", "k", "spot", "cell"] ["m", "many"] (defScope s_law_draw) := ⟨rfl, rfl, rfl, by decide +kernel, rfl, by decide +kernel, by decide +kernel⟩
abbrev s_law_begun : Stmt := topS 25
theorem sc_law_begun : FnScope ["script", "m", "cell"] ["script"] (defScope s_law_begun) := ⟨rfl, rfl, rfl, by decide +kernel, rfl, by decide +kernel, by decide +kernel⟩
abbrev s_law_called : Stmt := topS 26
theorem sc_law_called : FnScope ["m", "many", "letters", "found", "shift", "stride", "k", "said", "j"] ["m", "many"] (defScope s_law_called) := ⟨rfl, rfl, rfl, by decide +kernel, rfl, by decide +kernel, by decide +kernel⟩
abbrev s_law_step : Stmt := topS 27
theorem sc_law_step : FnScope ["m", "said", "few"] ["m"] (defScope s_law_step) := ⟨rfl, rfl, rfl, by decide +kernel, rfl, by decide +kernel, by decide +kernel⟩
abbrev s_law_class : Stmt := topS 28
theorem sc_law_class : FnScope ["error"] ["error"] (defScope s_law_class) := ⟨rfl, rfl, rfl, by decide +kernel, rfl, by decide +kernel, by decide +kernel⟩
abbrev s_law_told : Stmt := topS 29
theorem sc_law_told : FnScope ["deed", "error", "found", "e"] ["deed"] (defScope s_law_told) := ⟨rfl, rfl, rfl, by decide +kernel, rfl, by decide +kernel, by decide +kernel⟩
abbrev s_law_whole : Stmt := topS 30
theorem sc_law_whole : FnScope ["odd", "low", "high"] ["odd", "low", "high"] (defScope s_law_whole) := ⟨rfl, rfl, rfl, by decide +kernel, rfl, by decide +kernel, by decide +kernel⟩
abbrev s_law_signed : Stmt := topS 31
theorem sc_law_signed : FnScope ["m", "bit", "signs", "sign", "spot"] ["m", "bit"] (defScope s_law_signed) := ⟨rfl, rfl, rfl, by decide +kernel, rfl, by decide +kernel, by decide +kernel⟩
abbrev s_law_far : Stmt := topS 32
theorem sc_law_far : FnScope ["deep", "twice", "bout"] [] (defScope s_law_far) := ⟨rfl, rfl, rfl, by decide +kernel, rfl, by decide +kernel, by decide +kernel⟩
abbrev s_law_kind : Stmt := topS 33
theorem sc_law_kind : FnScope ["odd"] ["odd"] (defScope s_law_kind) := ⟨rfl, rfl, rfl, by decide +kernel, rfl, by decide +kernel, by decide +kernel⟩
abbrev s_law_is_step : Stmt := topS 34
theorem sc_law_is_step : FnScope ["odd"] ["odd"] (defScope s_law_is_step) := ⟨rfl, rfl, rfl, by decide +kernel, rfl, by decide +kernel, by decide +kernel⟩
abbrev s_law_bent_step : Stmt := topS 35
theorem sc_law_bent_step : FnScope ["m", "good", "way", "spot", "odd"] ["m", "good"] (defScope s_law_bent_step) := ⟨rfl, rfl, rfl, by decide +kernel, rfl, by decide +kernel, by decide +kernel⟩
abbrev s_law_right : Stmt := topS 36
theorem sc_law_right : FnScope ["odd", "found"] ["odd"] (defScope s_law_right) := ⟨rfl, rfl, rfl, by decide +kernel, rfl, by decide +kernel, by decide +kernel⟩
abbrev s_law : Stmt := topS 37
theorem sc_law : FnScope ["script", "m", "some", "odd", "odds", "bout", "good"] ["script"] (defScope s_law) := ⟨rfl, rfl, rfl, by decide +kernel, rfl, by decide +kernel, by decide +kernel⟩
structure Txt (mg : PySem.Str → Option Value) (K : PySem.W.Frag) (prm : Params) where
  n_KeyError : mg "KeyError" = none
  n_OverflowError : mg "OverflowError" = none
  n_ValueError : mg "ValueError" = none
  n_all : mg "all" = none
  n_bool : mg "bool" = none
  n_enumerate : mg "enumerate" = none
  n_int : mg "int" = none
  n_isinstance : mg "isinstance" = none
  n_len : mg "len" = none
  n_list : mg "list" = none
  n_range : mg "range" = none
  n_repr : mg "repr" = none
  n_str : mg "str" = none
  n_tuple : mg "tuple" = none
  n_type : mg "type" = none
  t_MOST_LETTERS : Tok
  c_MOST_LETTERS : mg "MOST_LETTERS" = some (.int 8 t_MOST_LETTERS)
  t_MOST_STEP_HOURS : Tok
  c_MOST_STEP_HOURS : mg "MOST_STEP_HOURS" = some (.int 240 t_MOST_STEP_HOURS)
  a_NO_NAMES : Addr
  c_NO_NAMES : mg "NO_NAMES" = some (.ref a_NO_NAMES)
  q_NO_NAMES : ∀ H : Hp, SqT K H a_NO_NAMES [.str "style", .str "job", .str "round", .str "sew", .str "glue", .str "cover", .str "letter", .str "press", .str "hand", .str "haste"]
  a_KIND_OF_WORK : Addr
  c_KIND_OF_WORK : mg "KIND_OF_WORK" = some (.ref a_KIND_OF_WORK)
  q_KIND_OF_WORK : WrD K prm a_KIND_OF_WORK [("sew", .str "hand"), ("glue", .str "hand"), ("cover", .str "hand"), ("letter", .str "hand"), ("press", .str "press")]
  t_MOST_STEPS : Tok
  c_MOST_STEPS : mg "MOST_STEPS" = some (.int 12 t_MOST_STEPS)
  f_is_whole : Addr
  fd_is_whole : FuncData
  F_is_whole : FunD K "is_whole" "is_whole" (defArgs s_is_whole) (defBody s_is_whole) (defScope s_is_whole) [.int 1000000] [] f_is_whole fd_is_whole
  g_is_whole : mg "is_whole" = some (.ref f_is_whole)
  f_is_name : Addr
  fd_is_name : FuncData
  F_is_name : Fun K "is_name" "is_name" s_is_name f_is_name fd_is_name
  g_is_name : mg "is_name" = some (.ref f_is_name)
  f_is_step : Addr
  fd_is_step : FuncData
  F_is_step : Fun K "is_step" "is_step" s_is_step f_is_step fd_is_step
  g_is_step : mg "is_step" = some (.ref f_is_step)
  f_kind_of : Addr
  fd_kind_of : FuncData
  F_kind_of : Fun K "kind_of" "kind_of" s_kind_of f_kind_of fd_kind_of
  g_kind_of : mg "kind_of" = some (.ref f_kind_of)
  f_BadValue_init : Addr
  fd_BadValue_init : FuncData
  F_BadValue_init : Fun K "__init__" "BadValue.__init__" s_BadValue_init f_BadValue_init fd_BadValue_init
  f_are_steps : Addr
  fd_are_steps : FuncData
  F_are_steps : Fun K "_are_steps" "_are_steps" s_are_steps f_are_steps fd_are_steps
  g_are_steps : mg "_are_steps" = some (.ref f_are_steps)
  f_Style_init : Addr
  fd_Style_init : FuncData
  F_Style_init : Fun K "__init__" "Style.__init__" s_Style_init f_Style_init fd_Style_init
  f_Style_step : Addr
  fd_Style_step : FuncData
  F_Style_step : Fun K "step" "Style.step" s_Style_step f_Style_step fd_Style_step
  f_Style_len : Addr
  fd_Style_len : FuncData
  F_Style_len : Fun K "__len__" "Style.__len__" s_Style_len f_Style_len fd_Style_len
  f_law_mixed : Addr
  fd_law_mixed : FuncData
  F_law_mixed : Fun K "_law_mixed" "_law_mixed" s_law_mixed f_law_mixed fd_law_mixed
  g_law_mixed : mg "_law_mixed" = some (.ref f_law_mixed)
  f_law_folded : Addr
  fd_law_folded : FuncData
  F_law_folded : Fun K "_law_folded" "_law_folded" s_law_folded f_law_folded fd_law_folded
  g_law_folded : mg "_law_folded" = some (.ref f_law_folded)
  f_law_draw : Addr
  fd_law_draw : FuncData
  F_law_draw : Fun K "_law_draw" "_law_draw" s_law_draw f_law_draw fd_law_draw
  g_law_draw : mg "_law_draw" = some (.ref f_law_draw)
  f_law_begun : Addr
  fd_law_begun : FuncData
  F_law_begun : Fun K "_law_begun" "_law_begun" s_law_begun f_law_begun fd_law_begun
  g_law_begun : mg "_law_begun" = some (.ref f_law_begun)
  f_law_called : Addr
  fd_law_called : FuncData
  F_law_called : Fun K "_law_called" "_law_called" s_law_called f_law_called fd_law_called
  g_law_called : mg "_law_called" = some (.ref f_law_called)
  f_law_step : Addr
  fd_law_step : FuncData
  F_law_step : Fun K "_law_step" "_law_step" s_law_step f_law_step fd_law_step
  g_law_step : mg "_law_step" = some (.ref f_law_step)
  f_law_class : Addr
  fd_law_class : FuncData
  F_law_class : Fun K "_law_class" "_law_class" s_law_class f_law_class fd_law_class
  g_law_class : mg "_law_class" = some (.ref f_law_class)
  f_law_told : Addr
  fd_law_told : FuncData
  F_law_told : Fun K "_law_told" "_law_told" s_law_told f_law_told fd_law_told
  g_law_told : mg "_law_told" = some (.ref f_law_told)
  f_law_whole : Addr
  fd_law_whole : FuncData
  F_law_whole : Fun K "_law_whole" "_law_whole" s_law_whole f_law_whole fd_law_whole
  g_law_whole : mg "_law_whole" = some (.ref f_law_whole)
  f_law_signed : Addr
  fd_law_signed : FuncData
  F_law_signed : Fun K "_law_signed" "_law_signed" s_law_signed f_law_signed fd_law_signed
  g_law_signed : mg "_law_signed" = some (.ref f_law_signed)
  f_law_far : Addr
  fd_law_far : FuncData
  F_law_far : Fun K "_law_far" "_law_far" s_law_far f_law_far fd_law_far
  g_law_far : mg "_law_far" = some (.ref f_law_far)
  f_law_kind : Addr
  fd_law_kind : FuncData
  F_law_kind : Fun K "_law_kind" "_law_kind" s_law_kind f_law_kind fd_law_kind
  g_law_kind : mg "_law_kind" = some (.ref f_law_kind)
  f_law_is_step : Addr
  fd_law_is_step : FuncData
  F_law_is_step : Fun K "_law_is_step" "_law_is_step" s_law_is_step f_law_is_step fd_law_is_step
  g_law_is_step : mg "_law_is_step" = some (.ref f_law_is_step)
  f_law_bent_step : Addr
  fd_law_bent_step : FuncData
  F_law_bent_step : Fun K "_law_bent_step" "_law_bent_step" s_law_bent_step f_law_bent_step fd_law_bent_step
  g_law_bent_step : mg "_law_bent_step" = some (.ref f_law_bent_step)
  f_law_right : Addr
  fd_law_right : FuncData
  F_law_right : Fun K "_law_right" "_law_right" s_law_right f_law_right fd_law_right
  g_law_right : mg "_law_right" = some (.ref f_law_right)
  f_law : Addr
  fd_law : FuncData
  F_law : Fun K "law" "law" s_law f_law fd_law
  g_law : mg "law" = some (.ref f_law)
  C_BadValue : Addr
  g_BadValue : mg "BadValue" = some (.ref C_BadValue)
  C_BadText : Addr
  g_BadText : mg "BadText" = some (.ref C_BadText)
  C_NoSuch : Addr
  g_NoSuch : mg "NoSuch" = some (.ref C_NoSuch)
  C_TooMany : Addr
  g_TooMany : mg "TooMany" = some (.ref C_TooMany)
  C_Style : Addr
  g_Style : mg "Style" = some (.ref C_Style)
  er_BadValue : ErC K C_BadValue
  tc_BadValue : PySem.W.typeIn K (.ref C_BadValue) = some (.type "type")
  sb_BadValue_BadValue : PySem.W.subIn K (.ref C_BadValue) (.ref C_BadValue) = some true
  sb_BadValue_BadText : PySem.W.subIn K (.ref C_BadValue) (.ref C_BadText) = some false
  sb_BadValue_NoSuch : PySem.W.subIn K (.ref C_BadValue) (.ref C_NoSuch) = some false
  sb_BadValue_TooMany : PySem.W.subIn K (.ref C_BadValue) (.ref C_TooMany) = some false
  sb_BadValue_ValueError : PySem.W.subIn K (.ref C_BadValue) (.type "ValueError") = some true
  sb_BadValue_KeyError : PySem.W.subIn K (.ref C_BadValue) (.type "KeyError") = some false
  sb_BadValue_OverflowError : PySem.W.subIn K (.ref C_BadValue) (.type "OverflowError") = some false
  no_BadValue_what : PySem.W.findIn K (.ref C_BadValue) "what" = some none
  ox_BadValue : OexC K C_BadValue
  in_BadValue : PySem.W.findIn K (.ref C_BadValue) "__init__" = some (some (.ref f_BadValue_init))
  ti_BadValue : PySem.W.typeIn K (.ref f_BadValue_init) = some (.type "function")
  vv_BadValue : PySem.W.findCls K (.type "ValueError") (.type "type") "__init__" = some (.val (.builtin "ValueError.__init__"))
  er_BadText : ErC K C_BadText
  tc_BadText : PySem.W.typeIn K (.ref C_BadText) = some (.type "type")
  sb_BadText_BadValue : PySem.W.subIn K (.ref C_BadText) (.ref C_BadValue) = some true
  sb_BadText_BadText : PySem.W.subIn K (.ref C_BadText) (.ref C_BadText) = some true
  sb_BadText_NoSuch : PySem.W.subIn K (.ref C_BadText) (.ref C_NoSuch) = some false
  sb_BadText_TooMany : PySem.W.subIn K (.ref C_BadText) (.ref C_TooMany) = some false
  sb_BadText_ValueError : PySem.W.subIn K (.ref C_BadText) (.type "ValueError") = some true
  sb_BadText_KeyError : PySem.W.subIn K (.ref C_BadText) (.type "KeyError") = some false
  sb_BadText_OverflowError : PySem.W.subIn K (.ref C_BadText) (.type "OverflowError") = some false
  no_BadText_what : PySem.W.findIn K (.ref C_BadText) "what" = some none
  no_BadText_row : PySem.W.findIn K (.ref C_BadText) "row" = some none
  no_BadText_word : PySem.W.findIn K (.ref C_BadText) "word" = some none
  er_NoSuch : ErC K C_NoSuch
  tc_NoSuch : PySem.W.typeIn K (.ref C_NoSuch) = some (.type "type")
  sb_NoSuch_BadValue : PySem.W.subIn K (.ref C_NoSuch) (.ref C_BadValue) = some false
  sb_NoSuch_BadText : PySem.W.subIn K (.ref C_NoSuch) (.ref C_BadText) = some false
  sb_NoSuch_NoSuch : PySem.W.subIn K (.ref C_NoSuch) (.ref C_NoSuch) = some true
  sb_NoSuch_TooMany : PySem.W.subIn K (.ref C_NoSuch) (.ref C_TooMany) = some false
  sb_NoSuch_ValueError : PySem.W.subIn K (.ref C_NoSuch) (.type "ValueError") = some false
  sb_NoSuch_KeyError : PySem.W.subIn K (.ref C_NoSuch) (.type "KeyError") = some true
  sb_NoSuch_OverflowError : PySem.W.subIn K (.ref C_NoSuch) (.type "OverflowError") = some false
  no_NoSuch_what : PySem.W.findIn K (.ref C_NoSuch) "what" = some none
  no_NoSuch_name : PySem.W.findIn K (.ref C_NoSuch) "name" = some none
  er_TooMany : ErC K C_TooMany
  tc_TooMany : PySem.W.typeIn K (.ref C_TooMany) = some (.type "type")
  sb_TooMany_BadValue : PySem.W.subIn K (.ref C_TooMany) (.ref C_BadValue) = some false
  sb_TooMany_BadText : PySem.W.subIn K (.ref C_TooMany) (.ref C_BadText) = some false
  sb_TooMany_NoSuch : PySem.W.subIn K (.ref C_TooMany) (.ref C_NoSuch) = some false
  sb_TooMany_TooMany : PySem.W.subIn K (.ref C_TooMany) (.ref C_TooMany) = some true
  sb_TooMany_ValueError : PySem.W.subIn K (.ref C_TooMany) (.type "ValueError") = some false
  sb_TooMany_KeyError : PySem.W.subIn K (.ref C_TooMany) (.type "KeyError") = some false
  sb_TooMany_OverflowError : PySem.W.subIn K (.ref C_TooMany) (.type "OverflowError") = some true
  no_TooMany_most : PySem.W.findIn K (.ref C_TooMany) "most" = some none
  cl_Style : Cls K C_Style
  no_Style__name : NoAttr K C_Style "_name"
  no_Style__steps : NoAttr K C_Style "_steps"
  mk_Style : Mk K C_Style f_Style_init
  m_Style_step : Meth K C_Style "step" f_Style_step
  m_Style_len : Meth K C_Style "__len__" f_Style_len
  ti_Style_len : PySem.W.typeIn K (.ref f_Style_len) = some (.type "function")
  cT_law_right : Addr
  pT_law_right : Addr
  in_law_right : PySem.W.nsIn K mainGlobals "_law_right" = some (some (.ref f_law_right))
  tb_law_right : PySem.W.tabIn K "_law_right" = some (cT_law_right, pT_law_right)
  np_law_right : K.lookup pT_law_right = none
local macro_rules | `(tactic| walk_at "mulok") => `(tactic| first | exact Or.inr ⟨by decide, by decide⟩ | exact Or.inl ⟨by decide, by decide⟩ | exact Or.inr ⟨by omega, by omega⟩ | exact Or.inl ⟨by omega, by omega⟩)
local macro_rules | `(tactic| walk_at "st") => `(tactic| first
  | refine ⟨_, rfl, ?_⟩
  | refine ⟨_, _, rfl, rfl, (by walk_at "mulok"), ?_⟩
  | refine ⟨_, _, rfl, rfl, (by show (0 : Int) < _; decide), ?_⟩
  | refine ⟨_, _, rfl, rfl, ⟨by decide, by decide⟩, ?_⟩
  | refine ⟨_, _, rfl, rfl, ?_⟩)
section
variable {P : Program} {w : World} {K : PySem.W.Frag} {mg : PySem.Str → Option Value} {base : Heap}
theorem b_is_name {prm : Params} (T : Txt mg K prm) : Binds K T.fd_is_name ["thing"] [] := T.F_is_name.binds (ps := ["thing"]) fun _ _ _ _ _ _ us hl => match us, hl with | [_], _ => rfl
theorem b_is_step {prm : Params} (T : Txt mg K prm) : Binds K T.fd_is_step ["thing"] [] := T.F_is_step.binds (ps := ["thing"]) fun _ _ _ _ _ _ us hl => match us, hl with | [_], _ => rfl
theorem b_kind_of {prm : Params} (T : Txt mg K prm) : Binds K T.fd_kind_of ["work"] [] := T.F_kind_of.binds (ps := ["work"]) fun _ _ _ _ _ _ us hl => match us, hl with | [_], _ => rfl
theorem b_BadValue_init {prm : Params} (T : Txt mg K prm) : Binds K T.fd_BadValue_init ["self", "what"] [] := T.F_BadValue_init.binds (ps := ["self", "what"]) fun _ _ _ _ _ _ us hl => match us, hl with | [_, _], _ => rfl
theorem b_are_steps {prm : Params} (T : Txt mg K prm) : Binds K T.fd_are_steps ["thing"] [] := T.F_are_steps.binds (ps := ["thing"]) fun _ _ _ _ _ _ us hl => match us, hl with | [_], _ => rfl
theorem b_Style_init {prm : Params} (T : Txt mg K prm) : Binds K T.fd_Style_init ["self", "name", "steps"] [] := T.F_Style_init.binds (ps := ["self", "name", "steps"]) fun _ _ _ _ _ _ us hl => match us, hl with | [_, _, _], _ => rfl
theorem b_Style_step {prm : Params} (T : Txt mg K prm) : Binds K T.fd_Style_step ["self", "number"] [] := T.F_Style_step.binds (ps := ["self", "number"]) fun _ _ _ _ _ _ us hl => match us, hl with | [_, _], _ => rfl
theorem b_Style_len {prm : Params} (T : Txt mg K prm) : Binds K T.fd_Style_len ["self"] [] := T.F_Style_len.binds (ps := ["self"]) fun _ _ _ _ _ _ us hl => match us, hl with | [_], _ => rfl
theorem b_law_mixed {prm : Params} (T : Txt mg K prm) : Binds K T.fd_law_mixed ["cell", "k"] [] := T.F_law_mixed.binds (ps := ["cell", "k"]) fun _ _ _ _ _ _ us hl => match us, hl with | [_, _], _ => rfl
theorem b_law_folded {prm : Params} (T : Txt mg K prm) : Binds K T.fd_law_folded ["script"] [] := T.F_law_folded.binds (ps := ["script"]) fun _ _ _ _ _ _ us hl => match us, hl with | [_], _ => rfl
theorem b_law_draw {prm : Params} (T : Txt mg K prm) : Binds K T.fd_law_draw ["m", "many"] [] := T.F_law_draw.binds (ps := ["m", "many"]) fun _ _ _ _ _ _ us hl => match us, hl with | [_, _], _ => rfl
theorem b_law_begun {prm : Params} (T : Txt mg K prm) : Binds K T.fd_law_begun ["script"] [] := T.F_law_begun.binds (ps := ["script"]) fun _ _ _ _ _ _ us hl => match us, hl with | [_], _ => rfl
theorem b_law_called {prm : Params} (T : Txt mg K prm) : Binds K T.fd_law_called ["m", "many"] [] := T.F_law_called.binds (ps := ["m", "many"]) fun _ _ _ _ _ _ us hl => match us, hl with | [_, _], _ => rfl
theorem b_law_step {prm : Params} (T : Txt mg K prm) : Binds K T.fd_law_step ["m"] [] := T.F_law_step.binds (ps := ["m"]) fun _ _ _ _ _ _ us hl => match us, hl with | [_], _ => rfl
theorem b_law_class {prm : Params} (T : Txt mg K prm) : Binds K T.fd_law_class ["error"] [] := T.F_law_class.binds (ps := ["error"]) fun _ _ _ _ _ _ us hl => match us, hl with | [_], _ => rfl
theorem b_law_told {prm : Params} (T : Txt mg K prm) : Binds K T.fd_law_told ["deed"] [] := T.F_law_told.binds (ps := ["deed"]) fun _ _ _ _ _ _ us hl => match us, hl with | [_], _ => rfl
theorem b_law_whole {prm : Params} (T : Txt mg K prm) : Binds K T.fd_law_whole ["odd", "low", "high"] [] := T.F_law_whole.binds (ps := ["odd", "low", "high"]) fun _ _ _ _ _ _ us hl => match us, hl with | [_, _, _], _ => rfl
theorem b_law_signed {prm : Params} (T : Txt mg K prm) : Binds K T.fd_law_signed ["m", "bit"] [] := T.F_law_signed.binds (ps := ["m", "bit"]) fun _ _ _ _ _ _ us hl => match us, hl with | [_, _], _ => rfl
theorem b_law_far {prm : Params} (T : Txt mg K prm) : Binds K T.fd_law_far [] [] := T.F_law_far.binds (ps := []) fun _ _ _ _ _ _ us hl => match us, hl with | [], _ => rfl
theorem b_law_kind {prm : Params} (T : Txt mg K prm) : Binds K T.fd_law_kind ["odd"] [] := T.F_law_kind.binds (ps := ["odd"]) fun _ _ _ _ _ _ us hl => match us, hl with | [_], _ => rfl
theorem b_law_is_step {prm : Params} (T : Txt mg K prm) : Binds K T.fd_law_is_step ["odd"] [] := T.F_law_is_step.binds (ps := ["odd"]) fun _ _ _ _ _ _ us hl => match us, hl with | [_], _ => rfl
theorem b_law_bent_step {prm : Params} (T : Txt mg K prm) : Binds K T.fd_law_bent_step ["m", "good"] [] := T.F_law_bent_step.binds (ps := ["m", "good"]) fun _ _ _ _ _ _ us hl => match us, hl with | [_, _], _ => rfl
theorem b_law_right {prm : Params} (T : Txt mg K prm) : Binds K T.fd_law_right ["odd"] [] := T.F_law_right.binds (ps := ["odd"]) fun _ _ _ _ _ _ us hl => match us, hl with | [_], _ => rfl
theorem b_law {prm : Params} (T : Txt mg K prm) : Binds K T.fd_law ["script"] [] := T.F_law.binds (ps := ["script"]) fun _ _ _ _ _ _ us hl => match us, hl with | [_], _ => rfl
theorem ok_law_mixed (T : Txt mg K w.params) : FnOk P w K mg base CX0 1 T.f_law_mixed T.fd_law_mixed ["cell", "k"] spMixed := by
  refine T.F_law_mixed.ok sc_law_mixed (fun vs H Q E h => ?_) (fun cdv A outer s H vs Q E hr h => ?_)
  · obtain ⟨_, _, rfl, _⟩ := h
    rfl
  · obtain ⟨cell, k, rfl, c0, c1, k0, k1, q⟩ := h
    refine ⟨_, pss_cons (ps_set (i := 2) sc_law_mixed.nd rfl (.inl rfl) (pe_op op_add (pe_op op_add (pe_op op_mod (pe_op op_mul (pe_op op_mul (pv 0) (pe_op op_add (pe_int) (pe_op op_mul (pe_int) (pv 1)))) (pe_int)) (pe_int)) (pe_op op_mul (pe_op op_mul (pe_int) (pv 1)) (pv 1))) (pe_op op_mul (pe_int) (pv 1))))
 (pss_one (ps_ret (pe_op op_fdiv (pe_op op_mod (pe_op op_mul (pv 2) (pe_int)) (pe_int)) (pe_int)))), ?_⟩
    have e1 : 0 ≤ cell * (1 + 2 * k) * 48271 % 2147483647 := Int.emod_nonneg _ (by decide)
    have e2 : 0 ≤ 7919 * k * k := Int.mul_nonneg (Int.mul_nonneg (by decide) k0) k0
    have e3 : 0 ≤ 104729 * k := Int.mul_nonneg (by decide) k0
    repeat walk_at "st"
    refine q _ ?_ ?_
    · exact Int.ediv_nonneg (Int.emod_nonneg _ (by decide)) (by decide)
    · show _ % 2147483629 / 7 < 2147483648
      omega
theorem ok_law_folded (T : Txt mg K w.params) : FnOk P w K mg base CX0 1 T.f_law_folded T.fd_law_folded ["script"] (spFolded K) := by
  refine T.F_law_folded.ok sc_law_folded (fun vs H Q E h => ?_) (fun cdv A outer s H vs Q E hr h => ?_)
  · obtain ⟨_, _, rfl, _⟩ := h
    rfl
  · obtain ⟨a, ns, rfl, hS, hlen, q⟩ := h
    refine ⟨_, pss_cons (ps_setLc (i := 1) (own := [("k", 2)]) (g := gName 2) (tt := tYes) (by rfl) sc_law_folded.nd rfl rfl (sw_true rfl rfl rfl (by decide +kernel)) (pi_range1 (by rfl) T.n_range (pa_cons (pe_int) pa_nil)) (blkOk_by (own := [("k", 2)]) (N := ["script", "found", "k", "cell"]) (sc := defScope s_law_folded) (by decide +kernel)) (fun _ _ _ _ _ => pg_name (i := 2) sc_law_folded.nd rfl (Or.inl rfl)) (fun _ _ _ _ _ => pts_nil) (fun _ _ _ _ _ => pe_op op_add (pe_int) (pv 2)))
 (pss_cons (ps_for PassesOwn.never rfl (pi_enum (by rfl) T.n_enumerate (pa_cons (pv 0) pa_nil)) (pg_tup rfl (pgs_cons (pg_name (i := 2) sc_law_folded.nd rfl (.inl rfl)) (pgs_cons (pg_name (i := 3) sc_law_folded.nd rfl (.inl rfl)) (pgs_nil)))) (pss_one (ps_asg (pe_op op_mod (pe_op op_add (pe_op op_mul (pe_ix ix_list (pv 1) (pe_op op_mod (pv 2) (pe_int)) (fun _ _ => rfl)) (pe_int)) (pv 3)) (pe_int)) (pg_sub (pv 1) (pe_op op_mod (pv 2) (pe_int)) set_list))))
 (pss_cons (ps_for PassesOwn.never rfl (pi_range2 (by rfl) T.n_range (pa_cons (pe_int) (pa_cons (pe_int) pa_nil))) (pg_name (i := 2) sc_law_folded.nd rfl (.inl rfl)) (pss_one (ps_asg (pe_op op_mod (pe_op op_add (pe_ix ix_list (pv 1) (pv 2) (fun _ _ => rfl)) (pe_op op_mul (pe_ix ix_list (pv 1) (pe_op op_sub (pv 2) (pe_int)) (fun _ _ => rfl)) (pe_int))) (pe_int)) (pg_sub (pv 1) (pv 2) set_list))))
 (pss_one (ps_ret (pv 1))))), ?_⟩
    refine ⟨64, rfl, by decide, by decide, fun p fresh => lc_range (lo := 0) (n := 64) (fun i H1 => Same H H1 ∧ H1 p = some (.lst (((List.range i).map fun j : Nat => (17 : Int) + (0 + (j : Int))).map V.int))) ⟨same_new fresh, upd_same⟩ ?_ ?_⟩
    · rintro i H1 lt ⟨sm, e⟩
      refine ⟨rfl, ?_⟩
      repeat walk_at "st"
      refine ⟨_, e, ?_, same_put sm fresh, ?_⟩
      · simp only [List.length_map, List.length_range]
        exact small1000 (by omega)
      · rw [upd_same, List.range_succ]
        simp only [List.map_append, List.map_cons, List.map_nil]
    · rintro H1 ⟨sm, e⟩
      refine ⟨_, rfl, a, _, rfl, sm.seq hS, for_enum (K := K) (a := a) (xs := ns.map V.int) (fun i σ H2 => ∃ (v2 v3 : Option V) (cs : List Int), σ = [some (.ref a), some (.ref p), v2, v3] ∧ Same H H2 ∧ H2 p = some (.lst (cs.map V.int)) ∧ cs.length = 64 ∧ ∀ c ∈ cs, 0 ≤ c ∧ c < 2147483647)
        ⟨none, none, _, rfl, sm, e, by simp, ?_⟩ (fun i σ H2 ⟨_, _, _, _, sm2, _⟩ => sm2.seq hS) ?_ ?_⟩
      · intro c hc
        obtain ⟨j, hj, rfl⟩ := List.mem_map.mp hc
        have := List.mem_range.mp hj
        omega
      · rintro i x σ H2 T2 lt hx ⟨v2, v3, cs, rfl, sm2, e2, l2, b2⟩ fr
        obtain ⟨z, rfl⟩ := int_of hx
        have ep : (upd H2 T2 (.tup [.int (i : Nat), .int z])) p = some (.lst (cs.map V.int)) := by
          rw [upd_ne (ne_of_none e2 fr)]
          exact e2
        refine ⟨T2, _, rfl, .inl (.inl upd_same), rfl, _, _, rfl, _, _, rfl, rfl, ?_⟩
        have i0 : (0 : Int) ≤ (i : Int) % 64 := Int.emod_nonneg _ (by decide)
        have i1 : (i : Int) % 64 < cs.length := by
          rw [l2]
          exact Int.emod_lt_of_pos _ (by decide)
        obtain ⟨c, hc, ac, ax⟩ := at_int i0 i1
        repeat walk_at "st"
        refine ⟨p, _, _, _, rfl, rfl, .inl (.inl ep), ac, ?_⟩
        repeat walk_at "st"
        refine ⟨p, _, _, _, rfl, rfl, ep, ax, ?_⟩
        rw [set_int]
        refine ⟨_, _, _, rfl, ?_, upd_same, by rw [List.length_set]; exact l2, all_set b2 ⟨Int.emod_nonneg _ (by decide), Int.emod_lt_of_pos _ (by decide)⟩⟩
        exact same_put (sm2.trans (same_new fr)) fresh
      · rintro σ H2 ⟨v2, v3, cs, rfl, sm2, e2, l2, b2⟩
        refine ⟨1, 64, rfl, by decide, for_range (lo := 1) (n := 63) (fun i σ H3 => ∃ (v2 v3 : Option V) (cs : List Int), σ = [some (.ref a), some (.ref p), v2, v3] ∧ Same H H3 ∧ H3 p = some (.lst (cs.map V.int)) ∧ cs.length = 64 ∧ ∀ c ∈ cs, 0 ≤ c ∧ c < 2147483647)
          ⟨v2, v3, cs, rfl, sm2, e2, l2, b2⟩ ?_ ?_⟩
        · rintro i σ H3 lt ⟨v2, v3, cs, rfl, sm3, e3, l3, b3⟩
          obtain ⟨c, hc, ac, ax⟩ := at_int (cs := cs) (i := 1 + (i : Int)) (by omega) (by omega)
          obtain ⟨c', hc', ac', _⟩ := at_int (cs := cs) (i := 1 + (i : Int) - 1) (by omega) (by omega)
          have := b3 c' hc'
          repeat walk_at "st"
          refine ⟨p, _, _, _, rfl, rfl, .inl (.inl e3), ac, ?_⟩
          repeat walk_at "st"
          refine ⟨p, _, _, _, rfl, rfl, .inl (.inl e3), ac', ?_⟩
          repeat walk_at "st"
          refine ⟨p, _, _, _, rfl, rfl, e3, ax, ?_⟩
          rw [set_int]
          exact ⟨_, _, _, rfl, same_put sm3 fresh, upd_same, by rw [List.length_set]; exact l3, all_set b3 ⟨Int.emod_nonneg _ (by decide), Int.emod_lt_of_pos _ (by decide)⟩⟩
        · rintro σ H3 ⟨v2, v3, cs, rfl, sm3, e3, l3, b3⟩
          exact ⟨_, rfl, q p cs H3 fresh l3 b3 sm3 e3⟩
theorem ok_law_draw (T : Txt mg K w.params) : FnOk P w K mg base CX0 2 T.f_law_draw T.fd_law_draw ["m", "many"] spDraw := by
  refine T.F_law_draw.ok sc_law_draw (fun vs H Q E h => ?_) (fun cdv A outer s H vs Q E hr h => ?_)
  · obtain ⟨_, _, _, _, rfl, _⟩ := h
    rfl
  · obtain ⟨d, many, H0, n, rfl, m0, m1, ⟨⟨lc, ll, cs, ls, k, hd, hc, hl, ne, c64, cb, l63, k0, kn, f1, f2⟩, sm, fr⟩, q⟩ := h
    have ndc : d ≠ lc := ne_of hd hc (by intro z; cases z)
    have ndl : d ≠ ll := ne_of hd hl (by intro z; cases z)
    refine ⟨_, pss_cons (ps_set (i := 2) sc_law_draw.nd rfl (.inl rfl) (pe_dget (hu_of hr) (pv 0) (pe_str) (fun _ _ => rfl)))
 (pss_cons (ps_dput (hu_of hr) (pv 0) (pe_str) (pe_op op_add (pv 2) (pe_int)) rfl)
 (pss_cons (ps_if (pt_cmpR (op_neD hr.units) (pe_dget (hu_of hr) (pv 0) (pe_str) (fun _ _ => rfl)) (pe_lst (pa_nil)) (by first | rfl | exact nomark _)) (pss_cons (ps_set (i := 3) sc_law_draw.nd rfl (.inl rfl) (pe_op op_mod (pv 2) (pe_callB call_len_seq (by rfl) T.n_len (by decide +kernel) (pa_cons (pe_dget (hu_of hr) (pv 0) (pe_str) (fun _ _ => rfl)) pa_nil))))
 (pss_cons (ps_set (i := 4) sc_law_draw.nd rfl (.inl rfl) (pe_ix ix_list (pe_dget (hu_of hr) (pv 0) (pe_str) (fun _ _ => rfl)) (pv 3) (fun _ _ => rfl)))
 (pss_one (ps_if (pt_cmpR op_gt (pv 4) (pe_int) (by first | rfl | exact nomark _)) (pss_cons (ps_asg (pe_op op_fdivN (pv 4) (pv 1)) (pg_sub (pe_dget (hu_of hr) (pv 0) (pe_str) (fun _ _ => rfl)) (pv 3) set_list))
 (pss_one (ps_ret (pe_op op_mod (pv 4) (pv 1))))) (pss_nil))))) (pss_nil))
 (pss_one (ps_ret (pe_op op_mod (pe_call (ok_law_mixed T) (hr.mono (by decide)) (by rfl) T.g_law_mixed T.F_law_mixed.kp (b_law_mixed T) .nil pass0 (pa_cons (pe_call (ok_law_mixed T) (hr.mono (by decide)) (by rfl) T.g_law_mixed T.F_law_mixed.kp (b_law_mixed T) .nil pass0 (pa_cons (pe_op op_add (pe_ix ix_list (pe_dget (hu_of hr) (pv 0) (pe_str) (fun _ _ => rfl)) (pe_op op_mod (pv 2) (pe_int)) (fun _ _ => rfl)) (pe_op op_mul (pe_int) (pe_op op_fdiv (pv 2) (pe_int)))) (pa_cons (pv 2) pa_nil))) (pa_cons (pe_op op_add (pv 2) (pe_int)) pa_nil))) (pv 1)))))), ?_⟩
    -- k = m["spot"]; m["spot"] = k + 1
    refine ⟨_, rfl, d, _, rfl, mK_S ▸ DGet.k (k := kS) hd, ?_⟩
    refine ⟨_, rfl, _, _, rfl, rfl, _, rfl, d, _, rfl, DPut.k (k := kS) hd (small1000 (by show 3 ≤ 1000; decide)), ?_⟩
    rw [mK_put]
    have hd1 : (upd H d (.dK (mK lc ll (k + 1)))) d = some (.dK (mK lc ll (k + 1))) := upd_same
    have hc1 : (upd H d (.dK (mK lc ll (k + 1)))) lc = some (.lst (cs.map V.int)) := by rw [upd_ne ndc.symm]; exact hc
    have hl1 : (upd H d (.dK (mK lc ll (k + 1)))) ll = some (.lst (ls.map V.int)) := by rw [upd_ne ndl.symm]; exact hl
    have sm1 : Same H0 (upd H d (.dK (mK lc ll (k + 1)))) := same_put sm fr
    -- if m["left"] != []
    refine ⟨_, rfl, d, _, rfl, mK_L ▸ DGet.k (k := kL) hd1, Nat.zero_le _, fun e fe => ?_⟩
    obtain ⟨H1, eH1⟩ : ∃ H1, H1 = upd H d (.dK (mK lc ll (k + 1))) := ⟨_, rfl⟩
    rw [← eH1] at hd1 hc1 hl1 sm1 fe ⊢
    have nde : d ≠ e := ne_of_none hd1 fe
    have nce : lc ≠ e := ne_of_none hc1 fe
    have nle : ll ≠ e := ne_of_none hl1 fe
    obtain ⟨H2, eH2⟩ : ∃ H2, H2 = upd H1 e (.lst []) := ⟨_, rfl⟩
    rw [← eH2]
    have he2 : H2 e = some (.lst []) := by rw [eH2, upd_same]
    have hd2 : H2 d = some (.dK (mK lc ll (k + 1))) := by rw [eH2, upd_ne nde]; exact hd1
    have hc2 : H2 lc = some (.lst (cs.map V.int)) := by rw [eH2, upd_ne nce]; exact hc1
    have hl2 : H2 ll = some (.lst (ls.map V.int)) := by rw [eH2, upd_ne nle]; exact hl1
    have sm2 : Same H0 H2 := by rw [eH2]; exact fun b u z => by rw [upd_ne (ne_of_none (sm1 b u z) fe)]; exact sm1 b u z
    refine ⟨_, _, .lst (.inl (.inl hl2)) (dp_ints ls), .lst (.inl (.inl he2)) .nil, shaped_ints ls, shaped_nil, _, rfl, ?_⟩
    have dr2 : Dr H0 H2 d n := ⟨⟨lc, ll, cs, ls, k + 1, hd2, hc2, hl2, ne, c64, cb, l63, by omega, by omega, f1, f2⟩, sm2, fr⟩
    have i0 : (0 : Int) ≤ k % 64 := Int.emod_nonneg _ (by decide)
    obtain ⟨c, hcc, ac, _⟩ := at_int (cs := cs) i0 (by rw [c64]; exact Int.emod_lt_of_pos _ (by decide))
    have cbb := cb c hcc
    rw [eqv_nil]
    cases ls with
    | nil =>
      refine ⟨_, rfl, d, _, rfl, mK_C ▸ DGet.k (k := kC) hd2, ?_⟩
      repeat walk_at "st"
      refine ⟨lc, _, _, _, rfl, rfl, .inl (.inl hc2), ac, ?_⟩
      repeat walk_at "st"
      refine ⟨_, k, rfl, by omega, by omega, k0, by omega, fun v v0 v1 => ?_⟩
      repeat walk_at "st"
      refine ⟨v, k + 7, rfl, v0, by omega, by omega, by omega, fun u u0 u1 => ?_⟩
      refine ⟨_, rfl, _, _, rfl, rfl, m0, ?_⟩
      exact q _ _ (Int.emod_nonneg _ (by omega)) (Int.emod_lt_of_pos _ m0) dr2
    | cons x r =>
      refine ⟨_, rfl, _, rfl, d, _, rfl, mK_L ▸ DGet.k (k := kL) hd2, ll, _, rfl, .inl (.inl (.inl hl2)), ?_⟩
      have n0 : (0 : Int) < ((((x :: r).map V.int).length : Nat) : Int) := by
        rw [List.length_map, List.length_cons]
        omega
      refine ⟨_, _, rfl, rfl, n0, ?_⟩
      obtain ⟨y, hy, ay, ix⟩ := at_int (cs := x :: r) (i := k % ((((x :: r).map V.int).length : Nat) : Int)) (Int.emod_nonneg _ (by omega)) (by
        have z := Int.emod_lt_of_pos k n0
        rw [List.length_map] at z
        rw [List.length_map]
        exact z)
      refine ⟨_, rfl, d, _, rfl, mK_L ▸ DGet.k (k := kL) hd2, ?_⟩
      repeat walk_at "st"
      refine ⟨ll, _, _, _, rfl, rfl, .inl (.inl hl2), ay, ?_⟩
      repeat walk_at "st"
      refine ite2 (fun _ => ?_) (fun _ => ?_)
      · refine ⟨_, rfl, _, rfl, _, _, rfl, rfl, ⟨by omega, by omega⟩, ?_⟩
        refine ⟨_, rfl, d, _, rfl, mK_L ▸ DGet.k (k := kL) hd2, _, rfl, ll, _, _, _, rfl, rfl, hl2, ix, ?_⟩
        rw [set_int]
        refine ⟨_, rfl, _, rfl, _, _, rfl, rfl, m0, ?_⟩
        refine q _ _ (Int.emod_nonneg _ (by omega)) (Int.emod_lt_of_pos _ m0) ⟨⟨lc, ll, cs, _, k + 1, by rw [upd_ne ndl]; exact hd2, by rw [upd_ne ne]; exact hc2, upd_same, ne, c64, cb, by rw [List.length_set]; exact l63, by omega, by omega, f1, f2⟩, same_put sm2 f2, fr⟩
      · refine ⟨_, rfl, d, _, rfl, mK_C ▸ DGet.k (k := kC) hd2, ?_⟩
        repeat walk_at "st"
        refine ⟨lc, _, _, _, rfl, rfl, .inl (.inl hc2), ac, ?_⟩
        repeat walk_at "st"
        refine ⟨_, k, rfl, by omega, by omega, k0, by omega, fun v v0 v1 => ?_⟩
        repeat walk_at "st"
        refine ⟨v, k + 7, rfl, v0, by omega, by omega, by omega, fun u u0 u1 => ?_⟩
        refine ⟨_, rfl, _, _, rfl, rfl, m0, ?_⟩
        exact q _ _ (Int.emod_nonneg _ (by omega)) (Int.emod_lt_of_pos _ m0) dr2
theorem ok_law_begun (T : Txt mg K w.params) : FnOk P w K mg base CX0 2 T.f_law_begun T.fd_law_begun ["script"] (spBegun K) := by
  refine T.F_law_begun.ok sc_law_begun (fun vs H Q E h => ?_) (fun cdv A outer s H vs Q E hr h => ?_)
  · obtain ⟨_, _, rfl, _⟩ := h
    rfl
  · obtain ⟨a, ns, rfl, hS, l63, q⟩ := h
    refine ⟨_, pss_cons (ps_set (i := 1) sc_law_begun.nd rfl (.inl rfl) (pe_disp (pps_cons (pe_str) (pe_call (ok_law_folded T) (hr.mono (by decide)) (by rfl) T.g_law_folded T.F_law_folded.kp (b_law_folded T) .nil pass0 (pa_cons (pv 0) pa_nil)) (pps_cons (pe_str) (pe_lst (pa_nil)) (pps_cons (pe_str) (pe_int) (pps_nil)))) (by rfl) (by rfl) (fun z => by cases z) (by decide)))
 (pss_cons (ps_dput (hu_of hr) (pv 1) (pe_str) (pe_lc (own := [("cell", 2)]) (g := gName 2) (tt := tYes) (by rfl) sc_law_begun.nd (pi_list (pv 0)) (blkOk_by (own := [("cell", 2)]) (N := ["script", "m", "cell"]) (sc := defScope s_law_begun) (by decide +kernel)) (fun _ _ _ _ _ => pg_name (i := 2) sc_law_begun.nd rfl (Or.inl rfl)) (fun _ _ _ _ _ => pts_nil) (fun _ _ _ _ _ => pe_ifExp (pt_cmpR op_ge (pv 2) (pe_op op_pow (pe_int) (pe_int)) (by first | rfl | exact nomark _)) (pv 2) (pe_int))) rfl)
 (pss_one (ps_ret (pv 1)))), ?_⟩
    -- the dict
    intro d fd
    have s0 : Same H (upd H d (.dK [])) := same_new fd
    refine ⟨_, rfl, a, ns, rfl, s0.seq hS, l63, fun p cs H1 fp c64 cb s1 e1 => ?_⟩
    have hd1 : H1 d = some (.dK []) := s1 _ _ upd_same
    refine ⟨Nat.zero_le _, fun l fl => ?_⟩
    have ndl : d ≠ l := ne_of_none hd1 fl
    have npl : p ≠ l := ne_of_none e1 fl
    have npd : p ≠ d := ne_of e1 hd1 (by intro z; cases z)
    refine ⟨by rw [upd_ne ndl]; exact hd1, [(kC, V.ref p), (kL, V.ref l), (kS, V.int 0)], rfl, by show 3 ≤ 15; decide, ?_⟩
    have em : mergeK [] [(kC, V.ref p), (kL, V.ref l), (kS, V.int 0)] = mK p l 0 := by
      show putK (putK (putK [] kC (V.ref p)) kL (V.ref l)) kS (V.int 0) = _
      rw [putK_new (kvs := []) _ valV_nil]
      rw [putK_new (kvs := [] ++ [(kC, V.ref p)]) _ ((valV_neg nCL).trans valV_nil)]
      rw [putK_new (kvs := [] ++ [(kC, V.ref p)] ++ [(kL, V.ref l)]) _ ((valV_neg nCS).trans ((valV_neg nLS).trans valV_nil))]
      rfl
    rw [em]
    obtain ⟨H2, eH2⟩ : ∃ H2, H2 = upd (upd H1 l (.lst [])) d (.dK (mK p l 0)) := ⟨_, rfl⟩
    rw [← eH2]
    have hd2 : H2 d = some (.dK (mK p l 0)) := by rw [eH2, upd_same]
    have hp2 : H2 p = some (.lst (cs.map V.int)) := by rw [eH2, upd_ne npd, upd_ne npl]; exact e1
    have s2 : Same H H2 := by
      intro b u z
      rw [eH2, upd_ne (ne_of_none z fd), upd_ne (ne_of_none (s1 b u (s0 b u z)) fl)]
      exact s1 b u (s0 b u z)
    -- m["left"] = [.. for cell in script]
    refine ⟨_, rfl, a, rfl, ⟨_, s2.seq hS⟩, fun D fD => lc_list (K := K) (a := a) (xs := ns.map V.int) (fun i H3 => Same H2 H3 ∧ ∃ ls : List Int, H3 D = some (.lst (ls.map V.int)) ∧ ls.length = i) ⟨same_new fD, [], upd_same, rfl⟩ (fun i H3 _ hw => hw.1.seq (s2.seq hS)) ?_ ?_⟩
    · rintro i x H3 hx ⟨s3, ls, e3, l3⟩
      obtain ⟨z, rfl⟩ := int_of hx
      have il : i < ns.length := by
        have := (List.getElem?_eq_some_iff.mp hx).1
        rw [List.length_map] at this
        exact this
      refine ⟨rfl, ?_⟩
      have fin : ∀ y : Int, ∃ acc, H3 D = some (.lst acc) ∧ acc.length < sizeLine ∧ (Same H2 (upd H3 D (.lst (acc ++ [V.int y]))) ∧ ∃ ls : List Int, (upd H3 D (.lst (acc ++ [V.int y]))) D = some (.lst (ls.map V.int)) ∧ ls.length = i + 1) := fun y =>
        ⟨_, e3, small1000 (by rw [List.length_map]; omega), same_put s3 fD, ls ++ [y], by rw [upd_same, List.map_append]; rfl, by rw [List.length_append, l3]; rfl⟩
      refine ⟨_, rfl, _, _, rfl, rfl, ⟨by decide, by decide, by decide⟩, _, _, rfl, rfl, _, rfl, ite2 (fun _ => ?_) (fun _ => ?_)⟩
      · exact ⟨_, rfl, fin z⟩
      · exact fin 0
    · rintro H3 ⟨s3, ls, e3, l3⟩
      have hd3 := s3 _ _ hd2
      have hp3 := s3 _ _ hp2
      rw [List.length_map] at l3
      refine ⟨_, rfl, d, _, rfl, DPut.k (k := kL) hd3 (small1000 (by show 3 ≤ 1000; decide)), ?_⟩
      rw [mK_putL]
      refine ⟨_, rfl, q d _ ⟨⟨p, D, cs, ls, 0, upd_same, ?_, ?_, ?_, c64, cb, by omega, by decide, by decide, ?_, ?_⟩, ?_, fd⟩⟩
      · rw [upd_ne npd]; exact hp3
      · rw [upd_ne (fun z => by rw [z] at e3; rw [e3] at hd3; cases hd3)]; exact e3
      · intro z; subst z; rw [hp2] at fD; cases fD
      · exact s0.free fp
      · exact s2.free fD
      · exact same_put (s2.trans s3) fd
end
end K

set_option maxRecDepth 100000
set_option maxHeartbeats 4000000
namespace K
open PySem PySem.Spec PyProof.Rows L2 Gd
local macro_rules | `(tactic| walk_at "mulok") => `(tactic| first | exact Or.inr ⟨by decide, by decide⟩ | exact Or.inl ⟨by decide, by decide⟩ | exact Or.inr ⟨by omega, by omega⟩ | exact Or.inl ⟨by omega, by omega⟩)
local macro_rules | `(tactic| walk_at "st") => `(tactic| first
  | refine ⟨_, rfl, ?_⟩
  | refine ⟨_, _, rfl, rfl, (by walk_at "mulok"), ?_⟩
  | refine ⟨_, _, rfl, rfl, (by show (0 : Int) < _; decide), ?_⟩
  | refine ⟨_, _, rfl, rfl, ⟨by decide, by decide⟩, ?_⟩
  | refine ⟨_, _, rfl, rfl, ?_⟩)
def abc : PySem.Str := "abcdefghijklmnopqrstuvwxyz"
theorem abc_tx : Tx 26 abc := ⟨by decide +kernel, by decide +kernel⟩
theorem abc_len : abc.cps.toList.length = 26 := by decide +kernel
def vow : PySem.Str := "aeiou"
theorem vow_tx : Tx 5 vow := ⟨by decide +kernel, by decide +kernel⟩
theorem vow_len : vow.cps.toList.length = 5 := by decide +kernel
section
variable {P : Program} {w : World} {K : PySem.W.Frag} {mg : PySem.Str → Option Value} {base : Heap}
theorem ok_law_called (T : Txt mg K w.params) : FnOk P w K mg base CX0 3 T.f_law_called T.fd_law_called ["m", "many"] spCalled := by
  refine T.F_law_called.ok sc_law_called (fun vs H Q E h => ?_) (fun cdv A outer s H vs Q E hr h => ?_)
  · obtain ⟨_, _, _, _, rfl, _⟩ := h
    rfl
  · obtain ⟨d, M, H0, n, rfl, m100, dr, q⟩ := h
    refine ⟨_, pss_cons (ps_par (i := 2) (j := 3) (by rfl) sc_law_called.nd rfl rfl (by decide) rfl rfl (pa_cons (pe_str) (pa_cons (pe_lst (pa_nil)) pa_nil)) (by rfl))
 (pss_cons (ps_set (i := 4) sc_law_called.nd rfl (.inl rfl) (pe_call (ok_law_draw T) (hr.mono (by decide)) (by rfl) T.g_law_draw T.F_law_draw.kp (b_law_draw T) .nil pass0 (pa_cons (pv 0) (pa_cons (pe_int) pa_nil))))
 (pss_cons (ps_set (i := 5) sc_law_called.nd rfl (.inl rfl) (pe_ix ix_list (pe_lst (pa_cons (pe_int) (pa_cons (pe_int) (pa_cons (pe_int) (pa_cons (pe_int) (pa_cons (pe_int) (pa_cons (pe_int) (pa_cons (pe_int) (pa_cons (pe_int) (pa_cons (pe_int) (pa_cons (pe_int) (pa_cons (pe_int) (pa_cons (pe_int) pa_nil))))))))))))) (pe_call (ok_law_draw T) (hr.mono (by decide)) (by rfl) T.g_law_draw T.F_law_draw.kp (b_law_draw T) .nil pass0 (pa_cons (pv 0) (pa_cons (pe_int) pa_nil))) (fun _ _ => rfl)))
 (pss_cons (ps_for PassesOwn.never rfl (pi_range1 (by rfl) T.n_range (pa_cons (pv 1) pa_nil)) (pg_name (i := 6) sc_law_called.nd rfl (.inl rfl)) (pss_cons (ps_set (i := 7) sc_law_called.nd rfl (.inl rfl) (pe_ix ix_str (pv 2) (pe_op op_mod (pe_op op_add (pv 4) (pe_op op_mul (pv 5) (pv 6))) (pe_int)) (fun _ _ => rfl)))
 (pss_cons (ps_set (i := 7) sc_law_called.nd rfl (.inl rfl) (pe_op op_add_str (pv 7) (pe_ix ix_str (pv 2) (pe_op op_mod (pe_op op_add (pv 4) (pe_op op_fdiv (pv 6) (pe_int))) (pe_int)) (fun _ _ => rfl))))
 (pss_cons (ps_for PassesOwn.never rfl (pi_range1 (by rfl) T.n_range (pa_cons (pe_ix ix_list (pe_lst (pa_cons (pe_int) (pa_cons (pe_int) (pa_cons (pe_int) (pa_cons (pe_call (ok_law_draw T) (hr.mono (by decide)) (by rfl) T.g_law_draw T.F_law_draw.kp (b_law_draw T) .nil pass0 (pa_cons (pv 0) (pa_cons (pe_int) pa_nil))) pa_nil))))) (pe_call (ok_law_draw T) (hr.mono (by decide)) (by rfl) T.g_law_draw T.F_law_draw.kp (b_law_draw T) .nil pass0 (pa_cons (pv 0) (pa_cons (pe_int) pa_nil))) (fun _ _ => rfl)) pa_nil)) (pg_name (i := 8) sc_law_called.nd rfl (.inl rfl)) (pss_one (ps_set (i := 7) sc_law_called.nd rfl (.inl rfl) (pe_op op_add_str (pv 7) (pe_ix ix_str (pe_str) (pe_call (ok_law_draw T) (hr.mono (by decide)) (by rfl) T.g_law_draw T.F_law_draw.kp (b_law_draw T) .nil pass0 (pa_cons (pv 0) (pa_cons (pe_int) pa_nil))) (fun _ _ => rfl))))))
 (pss_cons (ps_if (pt_cmpR op_eq (pv 7) (pe_str) (by first | rfl | exact nomark _)) (pss_one (ps_set (i := 7) sc_law_called.nd rfl (.inl rfl) (pe_str))) (pss_nil))
 (pss_cons (ps_if (PW.pt (pw_and (pt_cmpR op_eq (pe_op op_mod (pv 6) (pe_int)) (pe_int) (by first | rfl | exact nomark _)) (pw_and1 (pt_cmpR op_eq (pe_call (ok_law_draw T) (hr.mono (by decide)) (by rfl) T.g_law_draw T.F_law_draw.kp (b_law_draw T) .nil pass0 (pa_cons (pv 0) (pa_cons (pe_int) pa_nil))) (pe_int) (by first | rfl | exact nomark _))))) (pss_one (ps_set (i := 7) sc_law_called.nd rfl (.inl rfl) (pe_op op_add_str (pe_slice sl_str (pe_ix ix_list (pv 3) (pe_un un_neg (pe_int)) (fun _ _ => rfl)) po_none (po_some (pe_int))) (pe_str)))) (pss_nil))
 (pss_one (ps_expr (pe_bm PySem.F.plainAttrs_list PySem.F.slot_list_append PySem.F.type_list_append mt_append (pv 3) (pa_cons (pv 7) pa_nil))))))))))
 (pss_one (ps_ret (pv 3)))))), ?_⟩
    refine ⟨Nat.zero_le _, fun p fp => ⟨_, _, rfl, ?_⟩⟩
    have fp0 : H0 p = none := dr.same.free fp
    have drA := dr.new (.lst []) fp
    -- shift
    refine ⟨_, rfl, d, 26, upd H0 p (.lst []), n + 1 + 8 * M, rfl, by decide, by decide, drA.less (by omega), fun shift H1 s0 s1 dr1 => ?_⟩
    -- stride
    refine ⟨by show 12 ≤ sizeLine; decide, fun e fe => ?_⟩
    have fe0 := dr1.same.free fe
    refine ⟨_, rfl, d, 12, _, n + 8 * M, rfl, by decide, by decide, (dr1.new _ fe).less (by omega), fun i H2 i0 i1 dr2 => ?_⟩
    obtain ⟨stride, hs, as, _⟩ := at_int (cs := [1, 3, 5, 7, 9, 11, 15, 17, 19, 21, 23, 25]) i0 i1
    have sb : ∀ c ∈ ([1, 3, 5, 7, 9, 11, 15, 17, 19, 21, 23, 25] : List Int), 0 ≤ c ∧ c ≤ 25 := by decide
    have := sb _ hs
    refine ⟨e, _, _, _, rfl, rfl, .inl (.inl dr2.told), as, ?_⟩
    have dr3 := dr2.drop fe0
    -- for k in range(many)
    refine ⟨_, rfl, (M : Int), rfl, by omega, by omega, for_range (lo := 0) (n := ((M : Int)).toNat) (fun k σ H3 => ∃ (zs : List PySem.Str) (v6 v7 v8 : Option V), σ = [some (.ref d), some (.int (M : Int)), some (.str abc), some (.ref p), some (.int shift), some (.int stride), v6, v7, v8] ∧ zs.length = k ∧ (∀ z ∈ zs, Tx 10 z) ∧ Dr (upd H0 p (.lst (zs.map V.str))) H3 d (n + 8 * (M - k)))
      ⟨[], none, none, none, rfl, rfl, fun z hz => absurd hz List.not_mem_nil, dr3⟩ ?_ ?_⟩
    · rintro k σ H3 kM ⟨zs, v6, v7, v8, rfl, lz, bz, drk⟩
      have kM' : k < M := by omega
      have x0 : 0 ≤ (shift + stride * (0 + (k : Int))) % 26 := Int.emod_nonneg _ (by decide)
      have x1 : (shift + stride * (0 + (k : Int))) % 26 < (abc.cps.toList.length : Nat) := by rw [abc_len]; exact Int.emod_lt_of_pos _ (by decide)
      obtain ⟨c, hc, ac, tc⟩ := at_str abc_tx x0 x1
      have y0 : 0 ≤ (shift + (0 + (k : Int)) / 26) % 26 := Int.emod_nonneg _ (by decide)
      have y1 : (shift + (0 + (k : Int)) / 26) % 26 < (abc.cps.toList.length : Nat) := by rw [abc_len]; exact Int.emod_lt_of_pos _ (by decide)
      obtain ⟨c2, hc2, ac2, tc2⟩ := at_str abc_tx y0 y1
      repeat walk_at "st"
      refine ⟨abc, _, _, rfl, rfl, abc_tx.line (by decide), ac, ?_⟩
      repeat walk_at "st"
      refine ⟨abc, _, _, rfl, rfl, abc_tx.line (by decide), ac2, ?_⟩
      refine ⟨_, _, rfl, rfl, tc.line2 tc2 (by decide), ?_⟩
      -- range([0, 0, 1, draw][draw])
      refine ⟨_, rfl, d, 6, _, n + 7 + 8 * (M - k - 1), rfl, by decide, by decide, drk.less (by omega), fun v H4 v0 v1 dr4 => ?_⟩
      refine ⟨by show 4 ≤ sizeLine; decide, fun e4 fe4 => ?_⟩
      have fe40 := dr4.same.free fe4
      refine ⟨_, rfl, d, 4, _, n + 6 + 8 * (M - k - 1), rfl, by decide, by decide, (dr4.new _ fe4).less (by omega), fun i4 H5 i40 i41 dr5 => ?_⟩
      obtain ⟨j, hj, aj, _⟩ := at_int (cs := [0, 0, 1, v]) i40 i41
      have jb : 0 ≤ j ∧ j ≤ 5 := by
        simp only [List.mem_cons, List.not_mem_nil, or_false] at hj
        omega
      refine ⟨e4, _, _, _, rfl, rfl, .inl (.inl dr5.told), aj, ?_⟩
      have dr6 := dr5.drop fe40
      refine ⟨j, rfl, by omega, by omega, for_range (lo := 0) (n := j.toNat) (fun i σ H6 => ∃ (said : PySem.Str) (v8 : Option V), σ = [some (.ref d), some (.int (M : Int)), some (.str abc), some (.ref p), some (.int shift), some (.int stride), some (.int (0 + (k : Int))), some (.str said), v8] ∧ Tx (2 + i) said ∧ Dr (upd H0 p (.lst (zs.map V.str))) H6 d (n + 1 + (5 - i) + 8 * (M - k - 1)))
        ⟨_, _, rfl, tc.add tc2, dr6.less (by omega)⟩ ?_ ?_⟩
      · rintro i σ H6 ij ⟨said, v8, rfl, ts, drj⟩
        refine ⟨_, rfl, _, rfl, d, 5, _, n + 1 + (5 - (i + 1)) + 8 * (M - k - 1), rfl, by decide, by decide, drj.less (by omega), fun u H7 u0 u1 dr7 => ?_⟩
        obtain ⟨c5, hc5, ac5, tc5⟩ := at_str vow_tx u0 (by rw [vow_len]; exact u1)
        refine ⟨vow, _, _, rfl, rfl, vow_tx.line (by decide), ac5, _, _, rfl, rfl, ts.line2 tc5 (by omega), ?_⟩
        exact ⟨_, _, rfl, (ts.add tc5).mono (by omega), dr7⟩
      · rintro σ H6 ⟨said, v8, rfl, ts, drj⟩
        have ts' : Tx 10 said := ts.mono (by omega)
        have fin : ∀ (said2 : PySem.Str) (H8 : Hp), Tx 10 said2 → Dr (upd H0 p (.lst (zs.map V.str))) H8 d (n + 8 * (M - k - 1)) →
            ∃ (zs' : List PySem.Str) (v6 v7 v8' : Option V), [some (V.ref d), some (.int (M : Int)), some (.str abc), some (.ref p), some (.int shift), some (.int stride), some (.int (0 + (k : Int))), some (.str said2), v8] = [some (.ref d), some (.int (M : Int)), some (.str abc), some (.ref p), some (.int shift), some (.int stride), v6, v7, v8'] ∧ zs'.length = k + 1 ∧ (∀ z ∈ zs', Tx 10 z) ∧ Dr (upd H0 p (.lst (zs'.map V.str))) (upd H8 p (.lst (zs.map V.str ++ [.str said2]))) d (n + 8 * (M - (k + 1))) := by
          intro said2 H8 t2 d8
          refine ⟨zs ++ [said2], _, _, _, rfl, by rw [List.length_append, lz]; rfl, fun z hz => ?_, ?_⟩
          · rcases List.mem_append.mp hz with h1 | h1
            · exact bz z h1
            · rw [List.mem_singleton.mp h1]
              exact t2
          · rw [List.map_append, List.map_cons, List.map_nil]
            have d9 := d8.put (.lst (zs.map V.str ++ [.str said2])) (.inr ⟨_, upd_same⟩)
            rw [upd_upd] at d9
            exact d9.less (by omega)
        have app : ∀ (said2 : PySem.Str) (H8 : Hp), Tx 10 said2 → Dr (upd H0 p (.lst (zs.map V.str))) H8 d (n + 8 * (M - k - 1)) → (zs.map V.str).length < sizeLine := fun _ _ _ _ => small1000 (by rw [List.length_map]; omega)
        -- if said == "glue"
        refine ⟨_, rfl, rfl, _, rfl, ite2 (fun _ => ?_) (fun _ => ?_)⟩
        · have tg : Tx 10 "gluea" := ⟨by decide +kernel, by decide +kernel⟩
          -- if k % 2 == 1 and draw == 0
          repeat walk_at "st"
          refine ⟨rfl, _, rfl, ?_⟩
          refine ite2 (fun odd => ?_) (fun _ => ?_)
          · refine ⟨_, rfl, d, 5, _, n + 8 * (M - k - 1), rfl, by decide, by decide, drj.less (by omega), fun u H7 u0 u1 dr7 => ?_⟩
            refine ⟨rfl, _, rfl, ite2 (fun _ => ?_) (fun _ => ?_)⟩
            · have ne : zs ≠ [] := by
                intro z
                rw [z] at lz
                have lz0 : k = 0 := lz.symm
                subst lz0
                simp at odd
              obtain ⟨x, hx, ax⟩ := at_last (l := zs.map V.str) (by simpa using ne)
              obtain ⟨y, hy, rfl⟩ := List.mem_map.mp hx
              refine ⟨_, rfl, 1, rfl, p, _, _, _, rfl, rfl, .inl (.inl dr7.told), ax, ?_⟩
              refine ⟨_, rfl, _, rfl, ((bz y hy).line (by decide)), ?_⟩
              have ty : Tx 10 (cutS y none (some 7) ++ "y") := (((bz y hy).cutTo 7).add (m := 1) ⟨by decide +kernel, by decide +kernel⟩).mono (by decide)
              refine ⟨_, _, rfl, rfl, ((bz y hy).cutTo 7).line2 (m := 1) ⟨by decide +kernel, by decide +kernel⟩ (by decide), ?_⟩
              refine ⟨_, rfl, .inl ⟨rfl, _, SqL.of dr7.told⟩, _, rfl, p, _, _, rfl, rfl, dr7.told, app _ _ ty dr7, ?_⟩
              exact fin _ _ ty dr7
            · refine ⟨_, rfl, .inl ⟨rfl, _, SqL.of dr7.told⟩, _, rfl, p, _, _, rfl, rfl, dr7.told, app _ _ tg dr7, ?_⟩
              exact fin _ _ tg dr7
          · refine ⟨_, rfl, .inl ⟨rfl, _, SqL.of drj.told⟩, _, rfl, p, _, _, rfl, rfl, drj.told, app _ _ tg (drj.less (by omega)), ?_⟩
            exact fin _ _ tg (drj.less (by omega))
        · skip
          -- if k % 2 == 1 and draw == 0
          repeat walk_at "st"
          refine ⟨rfl, _, rfl, ?_⟩
          refine ite2 (fun odd => ?_) (fun _ => ?_)
          · refine ⟨_, rfl, d, 5, _, n + 8 * (M - k - 1), rfl, by decide, by decide, drj.less (by omega), fun u H7 u0 u1 dr7 => ?_⟩
            refine ⟨rfl, _, rfl, ite2 (fun _ => ?_) (fun _ => ?_)⟩
            · have ne : zs ≠ [] := by
                intro z
                rw [z] at lz
                have lz0 : k = 0 := lz.symm
                subst lz0
                simp at odd
              obtain ⟨x, hx, ax⟩ := at_last (l := zs.map V.str) (by simpa using ne)
              obtain ⟨y, hy, rfl⟩ := List.mem_map.mp hx
              refine ⟨_, rfl, 1, rfl, p, _, _, _, rfl, rfl, .inl (.inl dr7.told), ax, ?_⟩
              refine ⟨_, rfl, _, rfl, ((bz y hy).line (by decide)), ?_⟩
              have ty : Tx 10 (cutS y none (some 7) ++ "y") := (((bz y hy).cutTo 7).add (m := 1) ⟨by decide +kernel, by decide +kernel⟩).mono (by decide)
              refine ⟨_, _, rfl, rfl, ((bz y hy).cutTo 7).line2 (m := 1) ⟨by decide +kernel, by decide +kernel⟩ (by decide), ?_⟩
              refine ⟨_, rfl, .inl ⟨rfl, _, SqL.of dr7.told⟩, _, rfl, p, _, _, rfl, rfl, dr7.told, app _ _ ty dr7, ?_⟩
              exact fin _ _ ty dr7
            · refine ⟨_, rfl, .inl ⟨rfl, _, SqL.of dr7.told⟩, _, rfl, p, _, _, rfl, rfl, dr7.told, app _ _ ts' dr7, ?_⟩
              exact fin _ _ ts' dr7
          · refine ⟨_, rfl, .inl ⟨rfl, _, SqL.of drj.told⟩, _, rfl, p, _, _, rfl, rfl, drj.told, app _ _ ts' (drj.less (by omega)), ?_⟩
            exact fin _ _ ts' (drj.less (by omega))
    · rintro σ H3 ⟨zs, v6, v7, v8, rfl, lz, bz, drk⟩
      exact ⟨_, rfl, q p zs H3 fp0 (by omega) bz (drk.less (by omega))⟩
theorem ok_law_signed (T : Txt mg K w.params) : FnOk P w K mg base CX0 3 T.f_law_signed T.fd_law_signed ["m", "bit"] spSigned := by
  refine T.F_law_signed.ok sc_law_signed (fun vs H Q E h => ?_) (fun cdv A outer s H vs Q E hr h => ?_)
  · obtain ⟨_, _, _, _, rfl, _⟩ := h
    rfl
  · obtain ⟨d, bit, H0, n, rfl, tb, dr, q⟩ := h
    refine ⟨_, pss_cons (ps_set (i := 2) sc_law_signed.nd rfl (.inl rfl) (pe_str))
 (pss_cons (ps_set (i := 2) sc_law_signed.nd rfl (.inl rfl) (pe_op op_add_str (pv 2) (pe_str)))
 (pss_cons (ps_par (i := 3) (j := 4) (by rfl) sc_law_signed.nd rfl rfl (by decide) rfl rfl (pa_cons (pe_ix ix_str (pv 2) (pe_call (ok_law_draw T) (hr.mono (by decide)) (by rfl) T.g_law_draw T.F_law_draw.kp (b_law_draw T) .nil pass0 (pa_cons (pv 0) (pa_cons (pe_callB call_len_str (by rfl) T.n_len (by decide +kernel) (pa_cons (pv 2) pa_nil)) pa_nil))) (fun _ _ => rfl)) (pa_cons (pe_call (ok_law_draw T) (hr.mono (by decide)) (by rfl) T.g_law_draw T.F_law_draw.kp (b_law_draw T) .nil pass0 (pa_cons (pv 0) (pa_cons (pe_op op_add (pe_callB call_len_str (by rfl) T.n_len (by decide +kernel) (pa_cons (pv 1) pa_nil)) (pe_int)) pa_nil))) pa_nil)) (by rfl))
 (pss_one (ps_ret (pe_ix ix_list (pe_lst (pa_cons (pe_op op_add_str (pe_op op_add_str (pe_slice sl_str (pv 1) po_none (po_some (pv 4))) (pv 3)) (pe_slice sl_str (pv 1) (po_some (pv 4)) po_none)) (pa_cons (pe_op op_add_str (pe_op op_add_str (pe_slice sl_str (pv 1) po_none (po_some (pv 4))) (pv 3)) (pe_slice sl_str (pv 1) (po_some (pe_op op_add (pv 4) (pe_int))) po_none)) (pa_cons (pe_op op_add_str (pv 1) (pv 3)) (pa_cons (pv 3) pa_nil))))) (pe_call (ok_law_draw T) (hr.mono (by decide)) (by rfl) T.g_law_draw T.F_law_draw.kp (b_law_draw T) .nil pass0 (pa_cons (pv 0) (pa_cons (pe_int) pa_nil))) (fun _ _ => rfl)))))), ?_⟩
    have t1 : Tx 62 "abcdefghijklmnopqrstuvwxyzABCDEFGHIJKLMNOPQRSTUVWXYZ0123456789" := ⟨by decide +kernel, by decide +kernel⟩
    have t2 : Tx 40 " _-+*/.,:;<>[](){}=?!#&@^|~`$\"'\\\n" := ⟨by decide +kernel, by decide +kernel⟩
    refine ⟨_, rfl, _, _, rfl, rfl, t1.line2 t2 (by decide), ?_⟩
    obtain ⟨z, ez⟩ : ∃ z : PySem.Str, z = ("abcdefghijklmnopqrstuvwxyzABCDEFGHIJKLMNOPQRSTUVWXYZ0123456789" : PySem.Str) ++ (" _-+*/.,:;<>[](){}=?!#&@^|~`$\"'\\\n" : PySem.Str) := ⟨_, rfl⟩
    rw [← ez]
    have tz : Tx 102 z := by rw [ez]; exact t1.add t2
    have lz : 0 < z.cps.toList.length := by rw [ez]; decide +kernel
    have ln : z.length = z.cps.toList.length := by show z.cps.size = _; simp
    have lb : bit.length = bit.cps.toList.length := by show bit.cps.size = _; simp
    refine ⟨_, rfl, _, rfl, _, rfl, z, rfl, tz.line (by decide), d, _, H0, n + 2, rfl, by omega, by have := tz.1; omega, dr, fun i H1 i0 i1 dr1 => ?_⟩
    obtain ⟨c, hc, ac, tc⟩ := at_str tz i0 (by rw [← ln]; exact i1)
    refine ⟨z, _, _, rfl, rfl, tz.line (by decide), ac, ?_⟩
    refine ⟨_, rfl, _, rfl, bit, rfl, tb.line (by decide), _, _, rfl, rfl, d, _, H0, n + 1, rfl, by omega, by have := tb.1; omega, dr1, fun sp H2 s0 s1 dr2 => ⟨_, _, rfl, ?_⟩⟩
    have a1 := (tb.cut none (some sp)).add tc
    have a2 := a1.add (tb.cut (some sp) none)
    have a3 := a1.add (tb.cut (some (sp + 1)) none)
    have a4 := tb.add tc
    refine ⟨_, rfl, _, rfl, _, rfl, _, rfl, tb.line (by decide), _, rfl, _, _, rfl, rfl, (tb.cut none (some sp)).line2 tc (by decide), ?_⟩
    refine ⟨_, rfl, _, rfl, _, rfl, _, rfl, tb.line (by decide), _, _, rfl, rfl, a1.line2 (tb.cut (some sp) none) (by decide), ?_⟩
    refine ⟨_, rfl, _, rfl, _, rfl, _, rfl, tb.line (by decide), _, rfl, _, _, rfl, rfl, (tb.cut none (some sp)).line2 tc (by decide), ?_⟩
    refine ⟨_, rfl, _, rfl, _, _, rfl, rfl, _, rfl, _, rfl, tb.line (by decide), _, _, rfl, rfl, a1.line2 (tb.cut (some (sp + 1)) none) (by decide), ?_⟩
    refine ⟨_, rfl, _, rfl, _, _, rfl, rfl, tb.line2 tc (by decide), ?_⟩
    refine ⟨_, rfl, by show 4 ≤ sizeLine; decide, fun e fe => ?_⟩
    have fe0 := dr2.same.free fe
    refine ⟨_, rfl, d, 4, _, n, rfl, by decide, by decide, dr2.new _ fe, fun j H3 j0 j1 dr3 => ?_⟩
    obtain ⟨v, hv, _, av⟩ := at_in (l := [V.str (cutS bit none (some sp) ++ ⟨#[c]⟩ ++ cutS bit (some sp) none), V.str (cutS bit none (some sp) ++ ⟨#[c]⟩ ++ cutS bit (some (sp + 1)) none), V.str (bit ++ ⟨#[c]⟩), V.str ⟨#[c]⟩]) j0 j1
    refine ⟨e, _, _, v, rfl, rfl, .inl (.inl dr3.told), av, ?_⟩
    have done := dr3.drop fe0
    simp only [List.mem_cons, List.not_mem_nil, or_false] at hv
    rcases hv with rfl | rfl | rfl | rfl
    · exact q _ _ (a2.mono (by decide)) done
    · exact q _ _ (a3.mono (by decide)) done
    · exact q _ _ (a4.mono (by decide)) done
    · exact q _ _ (tc.mono (by decide)) done
end
end K

set_option maxRecDepth 100000
set_option maxHeartbeats 4000000
namespace K
open PySem PySem.Spec PyProof.Rows L2 Gd
local macro_rules | `(tactic| walk_at "mulok") => `(tactic| first | exact Or.inr ⟨by decide, by decide⟩ | exact Or.inl ⟨by decide, by decide⟩ | exact Or.inr ⟨by omega, by omega⟩ | exact Or.inl ⟨by omega, by omega⟩)
local macro_rules | `(tactic| walk_at "st") => `(tactic| first
  | refine ⟨_, rfl, ?_⟩
  | refine ⟨_, _, rfl, rfl, (by walk_at "mulok"), ?_⟩
  | refine ⟨_, _, rfl, rfl, (by show (0 : Int) < _; decide), ?_⟩
  | refine ⟨_, _, rfl, rfl, ⟨by decide, by decide⟩, ?_⟩
  | refine ⟨_, _, rfl, rfl, ?_⟩)
def banW : List V := [.str "style", .str "job", .str "round", .str "sew", .str "glue", .str "cover", .str "letter", .str "press", .str "hand", .str "haste"]
def small (c : Nat) : Bool := decide (97 ≤ c) && decide (c ≤ 122)
def nm : V → Bool
  | .str z => (decide ((1 : Int) ≤ (z.length : Nat)) && decide (((z.length : Nat) : Int) ≤ 8)) && z.cps.toList.all small && !inV (.str z) banW
  | _ => false
theorem nm_not {H : Hp} {x : V} {ty : String} (o : Od H x ty) (e : ty ≠ "str") : nm x = false := by
  cases o with
  | str t => exact absurd rfl e
  | non => rfl
  | bl b => rfl
  | int i => rfl
  | lst _ => rfl
  | tup _ => rfl
  | dK _ => rfl
def spName : Sp := fun vs H Q _ => ∃ (x : V) (ty : String), vs = [x] ∧ Od H x ty ∧ ∀ H', Same H H' → Q (.bl (nm x)) H'
def wh : V → Int → Int → Bool
  | .int i, lo, hi => decide (lo ≤ i) && decide (i ≤ hi)
  | _, _, _ => false
theorem wh_not {H : Hp} {x : V} {ty : String} (o : Od H x ty) (e : ty ≠ "int") (lo hi : Int) : wh x lo hi = false := by
  cases o with
  | int i => exact absurd rfl e
  | non => rfl
  | bl b => rfl
  | str t => rfl
  | lst _ => rfl
  | tup _ => rfl
  | dK _ => rfl
def spWhole : Sp := fun vs H Q _ => ∃ (x : V) (ty : String) (lo hi : Int), vs = [x, .int lo, .int hi] ∧ Od H x ty ∧ Q (.bl (wh x lo hi)) H
/-! ### kinds and steps -/
def kindL : List (PySem.Str × V) := [("sew", .str "hand"), ("glue", .str "hand"), ("cover", .str "hand"), ("letter", .str "hand"), ("press", .str "press")]
def kd : V → V
  | .str z => (kindL.lookup z).getD .non
  | _ => .non
theorem kd_not {H : Hp} {x : V} {ty : String} (o : Od H x ty) (e : ty ≠ "str") : kd x = .non := by
  cases o with
  | str t => exact absurd rfl e
  | non => rfl
  | bl b => rfl
  | int i => rfl
  | lst _ => rfl
  | tup _ => rfl
  | dK _ => rfl
def stp : List V → Bool
  | [u, v, x] => !decide (kd u = .non) && (wh v 1 240 && wh x 0 240)
  | _ => false
theorem stp_len {xs : List V} (h : xs.length ≠ 3) : stp xs = false := by
  match xs with
  | [] => rfl
  | [_] => rfl
  | [_, _] => rfl
  | [_, _, _] => exact absurd rfl h
  | _ :: _ :: _ :: _ :: _ => rfl
/-- x is a step, or it is none: b -/
structure Stp (H : Hp) (x : V) (ty : String) (b : Bool) : Prop where
  od : Od H x ty
  no : ty ≠ "tuple" → b = false
  tup : ∀ a xs, x = .ref a → H a = some (.tup xs) → b = stp xs ∧ (xs.length = 3 → ∃ u v w tu tv tw, xs = [u, v, w] ∧ Od H u tu ∧ Od H v tv ∧ Od H w tw)
theorem Od.isTup {H : Hp} {x : V} {T : String} (o : Od H x T) (e : T = "tuple") : ∃ a xs, x = .ref a ∧ H a = some (.tup xs) := by
  cases o with
  | tup h => exact ⟨_, _, rfl, h⟩
  | str t => exact absurd e (by decide)
  | non => exact absurd e (by decide)
  | bl b => exact absurd e (by decide)
  | int i => exact absurd e (by decide)
  | lst _ => exact absurd e (by decide)
  | dK _ => exact absurd e (by decide)
theorem Stp.mono {H H' : Hp} {x : V} {ty : String} {b : Bool} (s : Same H H') (h : Stp H x ty b) : Stp H' x ty b := by
  refine ⟨h.od.mono s, h.no, fun a xs e ea => ?_⟩
  by_cases t : ty = "tuple"
  · obtain ⟨a', xs', e', ea'⟩ := Od.isTup h.od t
    subst e
    cases e'
    have := s _ _ ea'
    rw [ea] at this
    cases this
    obtain ⟨r, k⟩ := h.tup _ _ rfl ea'
    refine ⟨r, fun l => ?_⟩
    obtain ⟨u, v, w, tu, tv, tw, e, a1, a2, a3⟩ := k l
    exact ⟨u, v, w, tu, tv, tw, e, a1.mono s, a2.mono s, a3.mono s⟩
  · subst e
    cases h.od with
    | tup _ => exact absurd rfl t
    | lst hl =>
      have := s _ _ hl
      rw [ea] at this
      cases this
    | dK hl =>
      have := s _ _ hl
      rw [ea] at this
      cases this
def spKind : Sp := fun vs H Q _ => ∃ (x : V) (ty : String), vs = [x] ∧ Od H x ty ∧ ∀ H', Same H H' → Q (kd x) H'
def spStep : Sp := fun vs H Q _ => ∃ (x : V) (ty : String) (b : Bool), vs = [x] ∧ Stp H x ty b ∧ ∀ H', Same H H' → Q (.bl b) H'
section
variable {P : Program} {w : World} {K : PySem.W.Frag} {mg : PySem.Str → Option Value} {base : Heap}
theorem ok_is_name (T : Txt mg K w.params) : FnOk P w K mg base CX0 1 T.f_is_name T.fd_is_name ["thing"] spName := by
  refine T.F_is_name.ok sc_is_name (fun vs H Q E h => ?_) (fun cdv A outer s H vs Q E hr h => ?_)
  · obtain ⟨_, _, rfl, _⟩ := h
    rfl
  · obtain ⟨x, ty, rfl, o, q⟩ := h
    refine ⟨_, pss_cons (ps_if (PW.pt (pw_or (pt_cmpR op_notTyB (pe_callTy call_type1 (by rfl) T.n_type (by decide +kernel) (pa_cons (pv 0) pa_nil)) (pe_bltn (v := .ty "str") (by rfl) T.n_str (by decide +kernel) rfl) (by first | rfl | exact nomark _)) (pw_or1 (pt_not (pt_chain op_le op_le (pe_int) (pe_callB call_len_str (by rfl) T.n_len (by decide +kernel) (pa_cons (pv 0) pa_nil)) (pe_glob (v := .int 8) (by rfl) T.c_MOST_LETTERS (by first | exact rfl | exact ⟨_, rfl⟩))))))) (pss_one (ps_ret (pe_bl))) (pss_nil))
 (pss_one (ps_ret (pe_and (pe_callB (cr_all rfl) (by rfl) T.n_all (by decide +kernel) (pa_cons (pe_lc (own := [("sign", 1)]) (g := gName 1) (tt := tYes) (by rfl) sc_is_name.nd (pi_str (pv 0)) (blkOk_by (own := [("sign", 1)]) (N := ["thing", "sign"]) (sc := defScope s_is_name) (by decide +kernel)) (fun _ _ _ _ _ => pg_name (i := 1) sc_is_name.nd rfl (Or.inl rfl)) (fun _ _ _ _ _ => pts_nil) (fun _ _ _ _ _ => pe_chain op_le_str op_le_str (pe_str) (pv 1) (pe_str))) pa_nil)) (pe_one (pe_cmpR op_notIn_seq (pv 0) (pe_glob (v := .ref T.a_NO_NAMES) (by rfl) T.c_NO_NAMES (by first | exact rfl | exact ⟨_, rfl⟩)) (by first | rfl | exact nomark _)))))), ?_⟩
    refine ⟨_, rfl, x, ty, rfl, o.ty, _, _, rfl, rfl, _, rfl, iteTy (fun ne => ?_) (fun is => ?_)⟩
    · have k := q H (Same.refl H)
      rw [nm_not o ne] at k
      exact k
    · obtain ⟨z, rfl, tz⟩ := o.is is
      have q' : ∀ H', Same H H' → Q (.bl ((decide ((1 : Int) ≤ (z.length : Nat)) && decide (((z.length : Nat) : Int) ≤ 8)) && z.cps.toList.all small && !inV (.str z) banW)) H' := q
      refine ⟨_, rfl, z, rfl, tz.line (by decide), _, _, rfl, rfl, _, rfl, ite2 (fun h1 => ?_) (fun h1 => ?_)⟩
      · rw [h1] at q'
        refine ⟨_, _, rfl, rfl, _, rfl, ?_⟩
        by_cases h8 : ((z.length : Nat) : Int) ≤ 8
        · rw [decide_eq_true h8] at q' ⊢
          -- all([..]) and thing not in NO_NAMES
          refine ⟨_, rfl, z, rfl, fun D fD => lc_truths (j := 1) tz small fD (fun c H1 Q1 h => ?_) (fun c => by rfl) fun H1 s1 e1 => ?_⟩
          · refine ⟨_, rfl, _, _, rfl, rfl, _, rfl, ?_⟩
            rw [le_sign (d := 97) (by decide +kernel)]
            refine ite2 (fun g => ?_) (fun g => ?_)
            · refine ⟨_, _, rfl, rfl, ?_⟩
              rw [ge_sign (d := 122) (by decide +kernel)]
              unfold small at h
              rw [g, Bool.true_and] at h
              exact h
            · unfold small at h
              rw [Bool.eq_false_iff.mpr g, Bool.false_and] at h
              exact h
          · refine ⟨D, _, rfl, .inl (.inl e1), _, rfl, ?_⟩
            have ea : (List.map small z.cps.toList).all id = z.cps.toList.all small := by rw [List.all_map]; rfl
            rw [ea]
            cases hb : z.cps.toList.all small with
            | false =>
              rw [hb] at q'
              exact q' H1 s1
            | true =>
              rw [hb] at q'
              exact ⟨_, rfl, T.a_NO_NAMES, banW, rfl, .inr (T.q_NO_NAMES H1), rfl, by decide +kernel, q' H1 s1⟩
        · rw [decide_eq_false h8] at q' ⊢
          exact q' H (Same.refl H)
      · have h1' : decide ((1 : Int) ≤ (z.length : Nat)) = false := by simpa using h1
        rw [h1'] at q'
        exact ⟨_, rfl, q' H (Same.refl H)⟩
theorem b_is_whole (T : Txt mg K w.params) : Binds K T.fd_is_whole ["thing", "least", "most"] [] := by
  obtain ⟨ds, rv, b⟩ := FunD.binds1 (ps := ["thing", "least", "most"]) T.F_is_whole 3 1 (by simp) rfl (fun D kV doc pm an cdv ct us its h1 h2 => by
    match us, h1, its, h2 with
    | [a, b, c], _, [d], _ => exact ⟨_, rfl, rfl⟩)
  cases rv
  exact b
theorem ok_is_whole (T : Txt mg K w.params) : FnOk P w K mg base CX0 1 T.f_is_whole T.fd_is_whole ["thing", "least", "most"] spWhole := by
  refine T.F_is_whole.ok sc_is_whole (fun vs H Q E h => ?_) (fun cdv A outer s H vs Q E hr h => ?_)
  · obtain ⟨_, _, _, _, rfl, _⟩ := h
    rfl
  · obtain ⟨x, ty, lo, hi, rfl, o, q⟩ := h
    refine ⟨_, pss_one (ps_ret (pe_and (pe_cmpR op_isTyB (pe_callTy call_type1 (by rfl) T.n_type (by decide +kernel) (pa_cons (pv 0) pa_nil)) (pe_bltn (v := .ty "int") (by rfl) T.n_int (by decide +kernel) rfl) (by first | rfl | exact nomark _)) (pe_one (pe_chain op_le op_le (pv 1) (pv 0) (pv 2))))), ?_⟩
    refine ⟨_, rfl, x, ty, rfl, o.ty, _, _, rfl, rfl, _, rfl, ?_⟩
    refine iteIs (fun ne => ?_) (fun is => ?_)
    · rw [wh_not o ne] at q
      exact q
    · obtain ⟨i, rfl⟩ := o.isI is
      have q' : Q (.bl (decide (lo ≤ i) && decide (i ≤ hi))) H := q
      refine ⟨_, rfl, _, rfl, _, _, rfl, rfl, _, rfl, ite2 (fun h1 => ?_) (fun h1 => ?_)⟩
      · rw [h1] at q'
        exact ⟨_, rfl, _, _, rfl, rfl, q'⟩
      · rw [Bool.eq_false_iff.mpr h1] at q'
        exact q'
theorem ok_law_whole (T : Txt mg K w.params) : FnOk P w K mg base CX0 1 T.f_law_whole T.fd_law_whole ["odd", "low", "high"] spWhole := by
  refine T.F_law_whole.ok sc_law_whole (fun vs H Q E h => ?_) (fun cdv A outer s H vs Q E hr h => ?_)
  · obtain ⟨_, _, _, _, rfl, _⟩ := h
    rfl
  · obtain ⟨x, ty, lo, hi, rfl, o, q⟩ := h
    refine ⟨_, pss_one (ps_ret (pe_and (pe_callB call_isi (by rfl) T.n_isinstance (by decide +kernel) (pa_cons (pv 0) (pa_cons (pe_bltn (v := .ty "int") (by rfl) T.n_int (by decide +kernel) rfl) pa_nil))) (pe_and (pe_not (pe_callB call_isi (by rfl) T.n_isinstance (by decide +kernel) (pa_cons (pv 0) (pa_cons (pe_bltn (v := .ty "bool") (by rfl) T.n_bool (by decide +kernel) rfl) pa_nil)))) (pe_one (pe_chain op_le op_le (pv 1) (pv 0) (pv 2)))))), ?_⟩
    refine ⟨_, rfl, x, .ty "int", _, _, _, rfl, .ty "int", o.tx, o.kint, _, rfl, ?_⟩
    by_cases ei : ty = "int"
    · obtain ⟨i, rfl⟩ := o.isI ei
      have q' : Q (.bl (decide (lo ≤ i) && decide (i ≤ hi))) H := q
      rw [decide_eq_true (Or.inl ei : ty = "int" ∨ ty = "bool")]
      refine ⟨_, rfl, V.int i, .ty "bool", _, _, _, rfl, .ty "bool", o.tx, o.kbool, _, rfl, _, rfl, ?_⟩
      rw [decide_eq_false (show ¬ ty = "bool" by rw [ei]; decide)]
      refine ⟨_, rfl, _, rfl, _, _, rfl, rfl, _, rfl, ite2 (fun h1 => ?_) (fun h1 => ?_)⟩
      · rw [h1] at q'
        exact ⟨_, rfl, _, _, rfl, rfl, q'⟩
      · rw [Bool.eq_false_iff.mpr h1] at q'
        exact q'
    · rw [wh_not o ei] at q
      by_cases eb : ty = "bool"
      · rw [decide_eq_true (Or.inr eb : ty = "int" ∨ ty = "bool")]
        refine ⟨_, rfl, x, .ty "bool", _, _, _, rfl, .ty "bool", o.tx, o.kbool, _, rfl, _, rfl, ?_⟩
        rw [decide_eq_true eb]
        exact q
      · rw [decide_eq_false (fun z : ty = "int" ∨ ty = "bool" => z.elim ei eb)]
        exact q
theorem ok_kind_of (T : Txt mg K w.params) : FnOk P w K mg base CX0 1 T.f_kind_of T.fd_kind_of ["work"] spKind := by
  refine T.F_kind_of.ok sc_kind_of (fun vs H Q E h => ?_) (fun cdv A outer s H vs Q E hr h => ?_)
  · obtain ⟨_, _, rfl, _⟩ := h
    rfl
  · obtain ⟨x, ty, rfl, o, q⟩ := h
    refine ⟨_, pss_cons (ps_if (pt_cmpR op_notTyB (pe_callTy call_type1 (by rfl) T.n_type (by decide +kernel) (pa_cons (pv 0) pa_nil)) (pe_bltn (v := .ty "str") (by rfl) T.n_str (by decide +kernel) rfl) (by first | rfl | exact nomark _)) (pss_one (ps_ret (pe_non))) (pss_nil))
 (pss_one (ps_ret (pe_wget (pe_glob (v := .ref T.a_KIND_OF_WORK) (by rfl) T.c_KIND_OF_WORK (by first | exact rfl | exact ⟨_, rfl⟩)) (pv 0) ⟨rfl, rfl, rfl, rfl⟩))), ?_⟩
    refine ⟨_, rfl, x, ty, rfl, o.ty, _, _, rfl, rfl, _, rfl, iteTy (fun ne => ?_) (fun is => ?_)⟩
    · have k := q H (Same.refl H)
      rw [kd_not o ne] at k
      exact k
    · obtain ⟨z, rfl, tz⟩ := o.is is
      exact ⟨_, _, rfl, T.q_KIND_OF_WORK, _, rfl, z, rfl, q H (Same.refl H)⟩
theorem ok_is_step (T : Txt mg K w.params) : FnOk P w K mg base CX0 2 T.f_is_step T.fd_is_step ["thing"] spStep := by
  refine T.F_is_step.ok sc_is_step (fun vs H Q E h => ?_) (fun cdv A outer s H vs Q E hr h => ?_)
  · obtain ⟨_, _, _, rfl, _⟩ := h
    rfl
  · obtain ⟨x, ty, b, rfl, st, q⟩ := h
    have o := st.od
    refine ⟨_, pss_cons (ps_if (PW.pt (pw_or (pt_cmpR op_notTyB (pe_callTy call_type1 (by rfl) T.n_type (by decide +kernel) (pa_cons (pv 0) pa_nil)) (pe_bltn (v := .ty "tuple") (by rfl) T.n_tuple (by decide +kernel) rfl) (by first | rfl | exact nomark _)) (pw_or1 (pt_cmpR op_ne (pe_callB call_len_seq (by rfl) T.n_len (by decide +kernel) (pa_cons (pv 0) pa_nil)) (pe_int) (by first | rfl | exact nomark _))))) (pss_one (ps_ret (pe_bl))) (pss_nil))
 (pss_cons (ps_asg (pv 0) (pg_tup (by rfl) (pgs_cons (pg_name (i := 1) sc_is_step.nd rfl (.inl rfl)) (pgs_cons (pg_name (i := 2) sc_is_step.nd rfl (.inl rfl)) (pgs_cons (pg_name (i := 3) sc_is_step.nd rfl (.inl rfl)) (pgs_nil))))))
 (pss_cons (ps_if (pt_cmpR op_isN (pe_call (ok_kind_of T) (hr.mono (by decide)) (by rfl) T.g_kind_of T.F_kind_of.kp (b_kind_of T) .nil pass0 (pa_cons (pv 1) pa_nil)) (pe_non) (by first | rfl | exact nomark _)) (pss_one (ps_ret (pe_bl))) (pss_nil))
 (pss_one (ps_ret (pe_and (pe_call (ok_is_whole T) (hr.mono (by decide)) (by rfl) T.g_is_whole T.F_is_whole.kp (b_is_whole T) .nil pass0 (pa_cons (pv 2) (pa_cons (pe_int) (pa_cons (pe_glob (v := .int 240) (by rfl) T.c_MOST_STEP_HOURS (by first | exact rfl | exact ⟨_, rfl⟩)) pa_nil)))) (pe_one (pe_call (ok_is_whole T) (hr.mono (by decide)) (by rfl) T.g_is_whole T.F_is_whole.kp (b_is_whole T) .nil pass0 (pa_cons (pv 3) (pa_cons (pe_int) (pa_cons (pe_glob (v := .int 240) (by rfl) T.c_MOST_STEP_HOURS (by first | exact rfl | exact ⟨_, rfl⟩)) pa_nil)))))))))), ?_⟩
    refine ⟨_, rfl, x, ty, rfl, o.ty, _, _, rfl, rfl, _, rfl, iteTy (fun ne => ?_) (fun is => ?_)⟩
    · have k := q H (Same.refl H)
      rw [st.no ne] at k
      exact k
    · obtain ⟨a, xs, rfl, ea⟩ := Od.isTup o is
      obtain ⟨eb, items⟩ := st.tup a xs rfl ea
      refine ⟨_, rfl, a, xs, rfl, .inr (SqT.of ea), rfl, _, rfl, ?_⟩
      refine ite2 (fun h => ?_) (fun h => ?_)
      · have l : xs.length ≠ 3 := fun l => by simp [l] at h
        have k := q H (Same.refl H)
        rw [eb, stp_len l] at k
        exact k
      · have l : xs.length = 3 := by
          have h' : ¬ ¬ (xs.length : Int) = 3 := fun z => h (by simpa using z)
          omega
        obtain ⟨u, v, x3, tu, tv, tw, rfl, ou, ov, ow⟩ := items l
        refine ⟨.ref a, rfl, a, _, rfl, SqT.of ea, rfl, u, _, rfl, v, _, rfl, x3, _, rfl, rfl, _, rfl, u, tu, rfl, ou, fun H1 s1 => ⟨rfl, _, rfl, ?_⟩⟩
        have k := q H1 s1
        rw [eb] at k
        have k' : ∀ H', Same H H' → Q (.bl (!decide (kd u = .non) && (wh v 1 240 && wh x3 0 240))) H' := fun H' s' => by
          have z := q H' s'
          rw [eb] at z
          exact z
        by_cases en : kd u = .non
        · rw [decide_eq_true en] at k' ⊢
          exact k' H1 s1
        · rw [decide_eq_false en] at k' ⊢
          refine ⟨_, rfl, v, tv, _, _, rfl, ov.mono s1, ?_⟩
          have k2 : Q (.bl (wh v 1 240 && wh x3 0 240)) H1 := k' H1 s1
          cases hv : wh v 1 240 with
          | false =>
            rw [hv] at k2
            exact ⟨false, rfl, k2⟩
          | true =>
            rw [hv] at k2
            exact ⟨true, rfl, x3, rfl, x3, tw, _, _, rfl, ow.mono s1, k2⟩
end
end K

set_option maxRecDepth 100000
set_option maxHeartbeats 4000000
namespace K
open PySem PySem.Spec PyProof.Rows L2 Gd
local macro_rules | `(tactic| walk_at "mulok") => `(tactic| first | exact Or.inr ⟨by decide, by decide⟩ | exact Or.inl ⟨by decide, by decide⟩ | exact Or.inr ⟨by omega, by omega⟩ | exact Or.inl ⟨by omega, by omega⟩)
local macro_rules | `(tactic| walk_at "st") => `(tactic| first
  | refine ⟨_, rfl, ?_⟩
  | refine ⟨_, _, rfl, rfl, (by walk_at "mulok"), ?_⟩
  | refine ⟨_, _, rfl, rfl, (by show (0 : Int) < _; decide), ?_⟩
  | refine ⟨_, _, rfl, rfl, ⟨by decide, by decide⟩, ?_⟩
  | refine ⟨_, _, rfl, rfl, ?_⟩)
def kinds : List V := [.str "sew", .str "glue", .str "cover", .str "letter", .str "press"]
theorem kd_in {z : PySem.Str} : kd (.str z) = if inV (.str z) kinds = true then (if z = "press" then .str "press" else .str "hand") else .non := by
  have e : inV (.str z) kinds = (("sew" == z) || ("glue" == z) || ("cover" == z) || ("letter" == z) || ("press" == z)) := by
    simp [inV, kinds, eqV, Bool.or_assoc]
  rw [e]
  unfold kd kindL
  by_cases h1 : z = "sew"
  · subst h1; decide +kernel
  by_cases h2 : z = "glue"
  · subst h2; decide +kernel
  by_cases h3 : z = "cover"
  · subst h3; decide +kernel
  by_cases h4 : z = "letter"
  · subst h4; decide +kernel
  by_cases h5 : z = "press"
  · subst h5; decide +kernel
  have n : ∀ y : PySem.Str, z ≠ y → (y == z) = false := fun y h => by simpa using fun q => h q.symm
  rw [n _ h1, n _ h2, n _ h3, n _ h4, n _ h5]
  show ((kindL.lookup z).getD V.non) = _
  unfold kindL
  rw [lookup_put, if_neg h1, lookup_put, if_neg h2, lookup_put, if_neg h3, lookup_put, if_neg h4, lookup_put, if_neg h5]
  rfl
section
variable {P : Program} {w : World} {K : PySem.W.Frag} {mg : PySem.Str → Option Value} {base : Heap}
theorem ok_law_kind (T : Txt mg K w.params) : FnOk P w K mg base CX0 1 T.f_law_kind T.fd_law_kind ["odd"] spKind := by
  refine T.F_law_kind.ok sc_law_kind (fun vs H Q E h => ?_) (fun cdv A outer s H vs Q E hr h => ?_)
  · obtain ⟨_, _, rfl, _⟩ := h
    rfl
  · obtain ⟨x, ty, rfl, o, q⟩ := h
    refine ⟨_, pss_cons (ps_if (PW.pt (pw_or (pt_not (pt_val (pe_callB call_isi (by rfl) T.n_isinstance (by decide +kernel) (pa_cons (pv 0) (pa_cons (pe_bltn (v := .ty "str") (by rfl) T.n_str (by decide +kernel) rfl) pa_nil))))) (pw_or1 (pt_cmpR op_notIn_seq (pv 0) (pe_lst (pa_cons (pe_str) (pa_cons (pe_str) (pa_cons (pe_str) (pa_cons (pe_str) (pa_cons (pe_str) pa_nil)))))) (by first | rfl | exact nomark _))))) (pss_one (ps_ret (pe_non))) (pss_nil))
 (pss_one (ps_ret (pe_ifExp (pt_cmpR op_eq (pv 0) (pe_str) (by first | rfl | exact nomark _)) (pe_str) (pe_str)))), ?_⟩
    refine ⟨_, rfl, x, .ty "str", _, _, _, rfl, .ty "str", o.tx, o.kstr, _, rfl, ?_⟩
    show if (!decide (ty = "str")) = true then _ else _
    refine iteTy (fun ne => ?_) (fun is => ?_)
    · have k := q _ (Same.refl H)
      rw [kd_not o ne] at k
      exact k
    · obtain ⟨z, rfl, tz⟩ := o.is is
      refine ⟨_, rfl, by show 5 ≤ sizeLine; decide, fun e fe => ?_⟩
      have s0 : Same H (upd H e (.lst kinds)) := same_new fe
      refine ⟨e, kinds, rfl, .inl (SqL.of upd_same), rfl, by decide +kernel, _, rfl, ?_⟩
      have k := q _ s0
      rw [kd_in] at k
      cases hb : inV (.str z) kinds with
      | false =>
        rw [hb] at k
        exact k
      | true =>
        rw [hb] at k
        refine ⟨_, rfl, rfl, _, rfl, ?_⟩
        have k' : Q (if z = "press" then .str "press" else .str "hand") (upd H e (.lst kinds)) := k
        by_cases e5 : z = "press"
        · rw [if_pos e5] at k'
          rw [e5, decide_eq_true rfl]
          exact k'
        · rw [if_neg e5] at k'
          rw [decide_eq_false fun q => e5 (V.str.inj q)]
          exact k'
theorem ok_law_is_step (T : Txt mg K w.params) : FnOk P w K mg base CX0 2 T.f_law_is_step T.fd_law_is_step ["odd"] spStep := by
  refine T.F_law_is_step.ok sc_law_is_step (fun vs H Q E h => ?_) (fun cdv A outer s H vs Q E hr h => ?_)
  · obtain ⟨_, _, _, rfl, _⟩ := h
    rfl
  · obtain ⟨x, ty, b, rfl, st, q⟩ := h
    have o := st.od
    refine ⟨_, pss_cons (ps_if (PW.pt (pw_or (pt_not (pt_val (pe_callB call_isi (by rfl) T.n_isinstance (by decide +kernel) (pa_cons (pv 0) (pa_cons (pe_bltn (v := .ty "tuple") (by rfl) T.n_tuple (by decide +kernel) rfl) pa_nil))))) (pw_or (pt_cmpR op_ne (pe_callB call_len_seq (by rfl) T.n_len (by decide +kernel) (pa_cons (pv 0) pa_nil)) (pe_int) (by first | rfl | exact nomark _)) (pw_or1 (pt_cmpR op_isN (pe_call (ok_law_kind T) (hr.mono (by decide)) (by rfl) T.g_law_kind T.F_law_kind.kp (b_law_kind T) .nil pass0 (pa_cons (pe_ix ix_tup (pv 0) (pe_int) (fun _ _ => rfl)) pa_nil)) (pe_non) (by first | rfl | exact nomark _)))))) (pss_one (ps_ret (pe_bl))) (pss_nil))
 (pss_one (ps_ret (pe_and (pe_call (ok_law_whole T) (hr.mono (by decide)) (by rfl) T.g_law_whole T.F_law_whole.kp (b_law_whole T) .nil pass0 (pa_cons (pe_ix ix_tup (pv 0) (pe_int) (fun _ _ => rfl)) (pa_cons (pe_int) (pa_cons (pe_int) pa_nil)))) (pe_one (pe_call (ok_law_whole T) (hr.mono (by decide)) (by rfl) T.g_law_whole T.F_law_whole.kp (b_law_whole T) .nil pass0 (pa_cons (pe_ix ix_tup (pv 0) (pe_int) (fun _ _ => rfl)) (pa_cons (pe_int) (pa_cons (pe_int) pa_nil)))))))), ?_⟩
    refine ⟨_, rfl, x, .ty "tuple", _, _, _, rfl, .ty "tuple", o.tx, o.ktup, _, rfl, ?_⟩
    show if (!decide (ty = "tuple")) = true then _ else _
    refine iteTy (fun ne => ?_) (fun is => ?_)
    · have k := q H (Same.refl H)
      rw [st.no ne] at k
      exact k
    · obtain ⟨a, xs, rfl, ea⟩ := Od.isTup o is
      obtain ⟨eb, items⟩ := st.tup a xs rfl ea
      refine ⟨_, rfl, a, xs, rfl, .inr (SqT.of ea), rfl, _, rfl, ?_⟩
      refine ite2 (fun h => ?_) (fun h => ?_)
      · have l : xs.length ≠ 3 := fun l => by simp [l] at h
        have k := q H (Same.refl H)
        rw [eb, stp_len l] at k
        exact k
      · have l : xs.length = 3 := by
          have h' : ¬ ¬ (xs.length : Int) = 3 := fun z => h (by simpa using z)
          omega
        obtain ⟨u, v, x3, tu, tv, tw, rfl, ou, ov, ow⟩ := items l
        refine ⟨_, rfl, a, _, _, _, rfl, rfl, SqT.of ea, rfl, u, tu, rfl, ou, fun H1 s1 => ⟨rfl, _, rfl, ?_⟩⟩
        have k' : ∀ H', Same H H' → Q (.bl (!decide (kd u = .non) && (wh v 1 240 && wh x3 0 240))) H' := fun H' s' => by
          have z := q H' s'
          rw [eb] at z
          exact z
        have ea1 := s1 _ _ ea
        by_cases en : kd u = .non
        · rw [decide_eq_true en] at k' ⊢
          exact k' H1 s1
        · rw [decide_eq_false en] at k' ⊢
          refine ⟨_, rfl, a, _, _, _, rfl, rfl, SqT.of ea1, rfl, v, tv, _, _, rfl, ov.mono s1, ?_⟩
          have k2 : Q (.bl (wh v 1 240 && wh x3 0 240)) H1 := k' H1 s1
          cases hv : wh v 1 240 with
          | false =>
            rw [hv] at k2
            exact ⟨false, rfl, k2⟩
          | true =>
            rw [hv] at k2
            exact ⟨true, rfl, _, rfl, a, _, _, _, rfl, rfl, SqT.of ea1, rfl, x3, tw, _, _, rfl, ow.mono s1, k2⟩

end
end K

set_option maxRecDepth 100000
set_option maxHeartbeats 4000000
namespace K
open PySem PySem.Spec PyProof.Rows L2 Gd
local macro_rules | `(tactic| walk_at "mulok") => `(tactic| first | exact Or.inr ⟨by decide, by decide⟩ | exact Or.inl ⟨by decide, by decide⟩ | exact Or.inr ⟨by omega, by omega⟩ | exact Or.inl ⟨by omega, by omega⟩)
local macro_rules | `(tactic| walk_at "st") => `(tactic| first
  | refine ⟨_, rfl, ?_⟩
  | refine ⟨_, _, rfl, rfl, (by walk_at "mulok"), ?_⟩
  | refine ⟨_, _, rfl, rfl, (by show (0 : Int) < _; decide), ?_⟩
  | refine ⟨_, _, rfl, rfl, ⟨by decide, by decide⟩, ?_⟩
  | refine ⟨_, _, rfl, rfl, ?_⟩)
/-- the things xs are steps, or none, as bs tells -/
structure Stps (H : Hp) (xs : List V) (bs : List Bool) : Prop where
  len : bs.length = xs.length
  at_ : ∀ (i : Nat) (x : V), xs[i]? = some x → ∃ b ty, bs[i]? = some b ∧ Stp H x ty b
theorem Stps.mono {H H' : Hp} {xs : List V} {bs : List Bool} (s : Same H H') (h : Stps H xs bs) : Stps H' xs bs :=
  ⟨h.len, fun i x e => let ⟨b, ty, e1, e2⟩ := h.at_ i x e; ⟨b, ty, e1, e2.mono s⟩⟩
def stpsOk (bs : List Bool) : Bool := (decide ((1 : Int) ≤ (bs.length : Nat)) && decide (((bs.length : Nat) : Int) ≤ 12)) && bs.all id
def spAre : Sp := fun vs H Q _ => ∃ (p : Addr) (xs : List V) (bs : List Bool), vs = [.ref p] ∧ H p = some (.lst xs) ∧ Stps H xs bs ∧ ∀ H', Same H H' → Q (.bl (stpsOk bs)) H'
def spBV (C : Addr) : Sp := fun vs H Q _ => ∃ (a : Addr) (x : V), vs = [.ref a, x] ∧ H a = some (exo a C none) ∧ ∀ dx, H dx = none → dx ≠ a → Q .non (upd (upd H dx (exd dx [("what", x)])) a (exo a C (some dx)))
/-- the heap behind C(what): the error is let go, its dict stands -/
theorem bv_same {H : Hp} {a d : Addr} {C : Addr} {x : V} (na : H a = none) (nd : upd H a (exo a C none) d = none) (ne : d ≠ a) :
    Same H (upd (del (upd (upd (upd H a (exo a C none)) d (exd d [("what", x)])) a (exo a C (some d))) a) d (.xd [("what", x)])) := by
  have ndH : H d = none := by rw [upd_ne ne] at nd; exact nd
  intro b u e
  have b1 : b ≠ a := ne_of_none e na
  have b2 : b ≠ d := ne_of_none e ndH
  rw [upd_ne b2, del_ne b1, upd_ne b1, upd_ne b2, upd_ne b1]
  exact e
section
variable {P : Program} {w : World} {K : PySem.W.Frag} {mg : PySem.Str → Option Value} {base : Heap}
theorem ok_are_steps (T : Txt mg K w.params) : FnOk P w K mg base CX0 3 T.f_are_steps T.fd_are_steps ["thing"] spAre := by
  refine T.F_are_steps.ok sc_are_steps (fun vs H Q E h => ?_) (fun cdv A outer s H vs Q E hr h => ?_)
  · obtain ⟨_, _, _, rfl, _⟩ := h
    rfl
  · obtain ⟨p, xs, bs, rfl, ep, ss, q⟩ := h
    refine ⟨_, pss_cons (ps_if (PW.pt (pw_or (pt_cmpR op_notIn_ty (pe_callTy call_type1 (by rfl) T.n_type (by decide +kernel) (pa_cons (pv 0) pa_nil)) (pe_tup (pa_cons (pe_bltn (v := .ty "list") (by rfl) T.n_list (by decide +kernel) rfl) (pa_cons (pe_bltn (v := .ty "tuple") (by rfl) T.n_tuple (by decide +kernel) rfl) pa_nil))) (by first | rfl | exact nomark _)) (pw_or1 (pt_not (pt_chain op_le op_le (pe_int) (pe_callB call_len_seq (by rfl) T.n_len (by decide +kernel) (pa_cons (pv 0) pa_nil)) (pe_glob (v := .int 12) (by rfl) T.c_MOST_STEPS (by first | exact rfl | exact ⟨_, rfl⟩))))))) (pss_one (ps_ret (pe_bl))) (pss_nil))
 (pss_one (ps_ret (pe_callB (cr_all rfl) (by rfl) T.n_all (by decide +kernel) (pa_cons (pe_lc (own := [("step", 1)]) (g := gName 1) (tt := tYes) (by rfl) sc_are_steps.nd (pi_list (pv 0)) (blkOk_by (own := [("step", 1)]) (N := ["thing", "step"]) (sc := defScope s_are_steps) (by decide +kernel)) (fun _ _ _ _ _ => pg_name (i := 1) sc_are_steps.nd rfl (Or.inl rfl)) (fun _ _ _ _ _ => pts_nil) (fun _ _ _ _ _ => pe_call (ok_is_step T) (hr.mono (by decide)) (by rfl) T.g_is_step T.F_is_step.kp (b_is_step T) .nil pass0 (pa_cons (pv 1) pa_nil))) pa_nil)))), ?_⟩
    refine ⟨_, rfl, .ref p, "list", rfl, .lst (SqL.of ep), by show 2 ≤ sizeLine; decide, fun t ft => ⟨"list", t, ["list", "tuple"], rfl, rfl, SqT.of upd_same, TypeEq.meta_list, fun y hy => ?_, _, rfl, ?_⟩⟩
    · rcases List.mem_cons.mp hy with rfl | hy
      · exact TypeEq.meta_list
      · rcases List.mem_cons.mp hy with rfl | hy
        · exact TypeEq.meta_tuple
        · cases hy
    have s0 : Same H (upd H t (.tup [.ty "list", .ty "tuple"])) := same_new ft
    have ep0 := s0 _ _ ep
    have no : ¬ (!decide ("list" ∈ ["list", "tuple"])) = true := by decide
    refine iteNS no ?_
    refine ⟨_, rfl, p, xs, rfl, .inl (SqL.of ep0), _, _, rfl, rfl, _, rfl, ite2 (fun h1 => ?_) (fun h1 => ?_)⟩
    · have n1 : (1 : Int) ≤ (xs.length : Nat) := of_decide_eq_true h1
      refine ⟨_, _, rfl, rfl, _, rfl, ?_⟩
      by_cases h12 : ((xs.length : Nat) : Int) ≤ 12
      · rw [decide_eq_true h12]
        refine ⟨_, rfl, p, rfl, ⟨_, SqL.of ep0⟩, fun D fD => lc_list (K := K) (xs := xs) (fun i H1 => Same (upd H t (.tup [.ty "list", .ty "tuple"])) H1 ∧ H1 D = some (.lst ((bs.take i).map V.bl))) ⟨same_new fD, upd_same⟩ (fun i H1 _ h => SqL.of (h.1 _ _ ep0)) ?_ ?_⟩
        · rintro i x H1 hx ⟨sm, e⟩
          obtain ⟨b, ty, hb, st⟩ := ss.at_ i x hx
          refine ⟨rfl, _, rfl, x, ty, b, rfl, (st.mono s0).mono sm, fun H2 s2 => ⟨_, s2 _ _ e, ?_, ?_, ?_⟩⟩
          · simp only [List.length_map, List.length_take]
            have := ss.len
            exact small1000 (by omega)
          · exact same_put (sm.trans s2) fD
          · rw [upd_same, all_take hb, List.map_append]
            rfl
        · rintro H1 ⟨sm, e⟩
          rw [← ss.len, List.take_length] at e
          refine ⟨D, _, rfl, .inl (.inl e), ?_⟩
          have k := q H1 (s0.trans sm)
          have e2 : stpsOk bs = bs.all id := by
            unfold stpsOk
            rw [ss.len, decide_eq_true h12, decide_eq_true n1]
            rfl
          rw [e2] at k
          exact k
      · rw [decide_eq_false h12]
        have k := q _ s0
        have e : stpsOk bs = false := by
          unfold stpsOk
          rw [ss.len, decide_eq_false h12, Bool.and_false, Bool.false_and]
        rw [e] at k
        exact k
    · have k := q _ s0
      have e : stpsOk bs = false := by
        unfold stpsOk
        rw [ss.len, Bool.eq_false_iff.mpr h1]
        rfl
      rw [e] at k
      exact ⟨_, rfl, k⟩
theorem ok_BadValue_init (T : Txt mg K w.params) : FnOk P w K mg base CX0 1 T.f_BadValue_init T.fd_BadValue_init ["self", "what"] (spBV T.C_BadValue) := by
  refine T.F_BadValue_init.ok sc_BadValue_init (fun vs H Q E h => ?_) (fun cdv A outer s H vs Q E hr h => ?_)
  · obtain ⟨_, _, rfl, _⟩ := h
    rfl
  · obtain ⟨a, x, rfl, ea, q⟩ := h
    refine ⟨_, pss_cons (ps_expr (pe_veinit (by rfl) T.n_ValueError T.vv_BadValue (pa_cons (pv 0) (pa_cons (pv 1) pa_nil))))
 (pss_one (ps_ost (pv 0) (pv 1))), ?_⟩
    refine ⟨_, rfl, _, rfl, a, _, [x], rfl, by show 1 ≤ 1000; decide, T.ox_BadValue, ea, ?_⟩
    exact ⟨_, rfl, _, rfl, a, _, rfl, T.ox_BadValue, T.no_BadValue_what, .inl ⟨ea, fun dx n ne => q dx n ne⟩⟩
end
end K

set_option maxRecDepth 100000
set_option maxHeartbeats 4000000
namespace K
open PySem PySem.Spec PyProof.Rows L2 Gd
local macro_rules | `(tactic| walk_at "mulok") => `(tactic| first | exact Or.inr ⟨by decide, by decide⟩ | exact Or.inl ⟨by decide, by decide⟩ | exact Or.inr ⟨by omega, by omega⟩ | exact Or.inl ⟨by omega, by omega⟩)
local macro_rules | `(tactic| walk_at "st") => `(tactic| first
  | refine ⟨_, rfl, ?_⟩
  | refine ⟨_, _, rfl, rfl, (by walk_at "mulok"), ?_⟩
  | refine ⟨_, _, rfl, rfl, (by show (0 : Int) < _; decide), ?_⟩
  | refine ⟨_, _, rfl, rfl, ⟨by decide, by decide⟩, ?_⟩
  | refine ⟨_, _, rfl, rfl, ?_⟩)
def spInit (C CB : Addr) : Sp := fun vs H Q E => ∃ (o dx p : Addr) (n : PySem.Str) (xs : List V) (bs : List Bool), vs = [.ref o, .str n, .ref p] ∧ H o = some (.ins C dx []) ∧ Tx 5000 n ∧ H p = some (.lst xs) ∧ Stps H xs bs ∧
  ((nm (.str n) && stpsOk bs) = true → ∀ H' t, (∀ b u, b ≠ o → H b = some u → H' b = some u) → H' o = some (.ins C dx [("_name", .str n), ("_steps", .ref t)]) → H' t = some (.tup xs) → Q .non H') ∧
  ((nm (.str n) && stpsOk bs) = false → ∀ H' d, Same H H' → H' d = some (.xd [("what", .str (if nm (.str n) = true then "steps" else "name"))]) → E (.ref CB) (some d) H')
/-- at o: a style -/
def Sty (H : Hp) (C o : Addr) (n : PySem.Str) (xs : List V) : Prop := ∃ dx t, H o = some (.ins C dx [("_name", .str n), ("_steps", .ref t)]) ∧ H t = some (.tup xs)
theorem Sty.mono {H H' : Hp} {C o : Addr} {n : PySem.Str} {xs : List V} (s : Same H H') (h : Sty H C o n xs) : Sty H' C o n xs := let ⟨dx, t, e1, e2⟩ := h; ⟨dx, t, s _ _ e1, s _ _ e2⟩
def spGet (C : Addr) : Sp := fun vs H Q _ => ∃ (o : Addr) (n : PySem.Str) (xs : List V) (i : Nat) (x : V), vs = [.ref o, .int i] ∧ Sty H C o n xs ∧ 1 ≤ i ∧ xs[i - 1]? = some x ∧ xs.length ≤ 12 ∧ Q x H
def spLen (C : Addr) : Sp := fun vs H Q _ => ∃ (o : Addr) (n : PySem.Str) (xs : List V), vs = [.ref o] ∧ Sty H C o n xs ∧ Q (.int (xs.length : Nat)) H
section
variable {P : Program} {w : World} {K : PySem.W.Frag} {mg : PySem.Str → Option Value} {base : Heap}
theorem ok_Style_init (T : Txt mg K w.params) : FnOk P w K mg base (L2.CX P w) 4 T.f_Style_init T.fd_Style_init ["self", "name", "steps"] (spInit T.C_Style T.C_BadValue) := by
  refine T.F_Style_init.okX sc_Style_init (fun vs H Q E h => ?_) (fun cdv A outer s H vs Q E hr h => ?_)
  · obtain ⟨_, _, _, _, _, _, rfl, _⟩ := h
    rfl
  · obtain ⟨o, dx, p, n, xs, bs, rfl, eo, tn, ep, ss, good, bad⟩ := h
    refine ⟨_, pss_cons (ps_if (pt_not (pt_val (pe_call (ok_is_name T) (hr.mono (by decide)) (by rfl) T.g_is_name T.F_is_name.kp (b_is_name T) .nil pass0 (pa_cons (pv 1) pa_nil)))) (pss_one (ps_raise rfl (takes_of rfl rfl rfl rfl) (pmk_oex T.ox_BadValue T.in_BadValue T.ti_BadValue (ok_BadValue_init T) (hr.mono (by decide)) (b_BadValue_init T) .nil pass0 (by rfl) T.g_BadValue (pa_cons (pe_str) pa_nil)))) (pss_nil))
 (pss_cons (ps_if (pt_not (pt_val (pe_call (ok_are_steps T) (hr.mono (by decide)) (by rfl) T.g_are_steps T.F_are_steps.kp (b_are_steps T) .nil pass0 (pa_cons (pv 2) pa_nil)))) (pss_one (ps_raise rfl (takes_of rfl rfl rfl rfl) (pmk_oex T.ox_BadValue T.in_BadValue T.ti_BadValue (ok_BadValue_init T) (hr.mono (by decide)) (b_BadValue_init T) .nil pass0 (by rfl) T.g_BadValue (pa_cons (pe_str) pa_nil)))) (pss_nil))
 (pss_cons (ps_fld (pv 0) (pv 1) rfl)
 (pss_one (ps_fld (pv 0) (pe_callTy call_tuple_of (by rfl) T.n_tuple (by decide +kernel) (pa_cons (pv 2) pa_nil)) rfl)))), ?_⟩
    refine ⟨_, rfl, .str n, "str", rfl, .str tn, fun H1 s1 => ?_⟩
    refine ⟨_, rfl, ?_⟩
    cases hn : nm (.str n) with
    | false =>
      rw [hn] at bad
      refine ⟨by show 1 ≤ 1000; decide, fun a na => ⟨a, _, rfl, upd_same, fun d nd ne => ⟨rfl, d, [("what", .str "name")], upd_same, ?_, ?_, ?_⟩⟩⟩
      · rw [upd_ne ne, upd_same]
      · rw [upd_ne ne] at nd
        exact nd
      · exact bad rfl _ d (s1.trans (bv_same na nd ne)) upd_same
    | true =>
      rw [hn] at bad good
      refine ⟨_, rfl, p, xs, bs, rfl, s1 _ _ ep, ss.mono s1, fun H2 s2 => ⟨_, rfl, ?_⟩⟩
      cases hs : stpsOk bs with
      | false =>
        rw [hs] at bad
        refine ⟨by show 1 ≤ 1000; decide, fun a na => ⟨a, _, rfl, upd_same, fun d nd ne => ⟨rfl, d, [("what", .str "steps")], upd_same, ?_, ?_, ?_⟩⟩⟩
        · rw [upd_ne ne, upd_same]
        · rw [upd_ne ne] at nd
          exact nd
        · exact bad rfl _ d ((s1.trans s2).trans (bv_same na nd ne)) upd_same
      | true =>
        rw [hs] at good
        have eo2 := s2 _ _ (s1 _ _ eo)
        have ep2 := s2 _ _ (s1 _ _ ep)
        have op : p ≠ o := fun z => by
          subst z
          rw [eo] at ep
          cases ep
        refine ⟨_, rfl, _, rfl, o, _, dx, [], rfl, eo2, T.cl_Style, T.no_Style__name, by show 0 < 1000; decide, ?_⟩
        refine ⟨_, rfl, p, xs, rfl, .inl ⟨SqL.of (by rw [upd_ne op]; exact ep2), fun t ft => ⟨_, rfl, o, _, dx, [("_name", .str n)], rfl, ?_, T.cl_Style, T.no_Style__steps, by show 1 < 1000; decide, ?_⟩⟩⟩
        · rw [upd_ne (fun z => by rw [← z, upd_same] at ft; cases ft), upd_same]
          rfl
        · have to : t ≠ o := fun z => by rw [z, upd_same] at ft; cases ft
          refine good rfl _ t (fun b u ne e => ?_) upd_same ?_
          · have bt : b ≠ t := fun z => by
              rw [z] at e
              rw [upd_ne to] at ft
              rw [s2 _ _ (s1 _ _ e)] at ft
              cases ft
            rw [upd_ne ne, upd_ne bt, upd_ne ne]
            exact s2 _ _ (s1 _ _ e)
          · rw [upd_ne to, upd_same]
theorem ok_Style_step (T : Txt mg K w.params) : FnOk P w K mg base CX0 2 T.f_Style_step T.fd_Style_step ["self", "number"] (spGet T.C_Style) := by
  refine T.F_Style_step.ok sc_Style_step (fun vs H Q E h => ?_) (fun cdv A outer s H vs Q E hr h => ?_)
  · obtain ⟨_, _, _, _, _, rfl, _⟩ := h
    rfl
  · obtain ⟨o, n, xs, i, x, rfl, ⟨dx, t, eo, et⟩, i1, ex, l12, q⟩ := h
    refine ⟨_, pss_cons (ps_if (pt_not (pt_val (pe_call (ok_is_whole T) (hr.mono (by decide)) (by rfl) T.g_is_whole T.F_is_whole.kp (b_is_whole T) .nil pass0 (pa_cons (pv 1) (pa_cons (pe_int) (pa_cons (pe_callB call_len_seq (by rfl) T.n_len (by decide +kernel) (pa_cons (pe_fld (pv 0) rfl) pa_nil)) pa_nil)))))) (pss_one (ps_never)) (pss_nil))
 (pss_one (ps_ret (pe_ix ix_tup (pe_fld (pv 0) rfl) (pe_op op_sub (pv 1) (pe_int)) (fun _ _ => rfl)))), ?_⟩
    have lt : i - 1 < xs.length := (List.getElem?_eq_some_iff.mp ex).1
    have wi : wh (.int i) 1 (xs.length : Nat) = true := by
      show (decide ((1 : Int) ≤ (i : Int)) && decide ((i : Int) ≤ (xs.length : Nat))) = true
      rw [decide_eq_true (by omega), decide_eq_true (by omega)]
      rfl
    refine ⟨_, rfl, _, rfl, o, _, _, _, _, rfl, eo, T.cl_Style, T.no_Style__steps, rfl, t, xs, rfl, .inr (SqT.of et), .int i, "int", _, _, rfl, .int _, ?_⟩
    rw [wi]
    refine ⟨_, rfl, _, rfl, o, _, _, _, _, rfl, eo, T.cl_Style, T.no_Style__steps, rfl, _, rfl, _, _, rfl, rfl, t, xs, (i : Int) - 1, x, rfl, rfl, SqT.of et, ?_, q⟩
    rw [show ((i : Int) - 1) = ((i - 1 : Nat) : Int) from by omega]
    exact atI_nat ex
theorem ok_Style_len (T : Txt mg K w.params) : FnOk P w K mg base CX0 1 T.f_Style_len T.fd_Style_len ["self"] (spLen T.C_Style) := by
  refine T.F_Style_len.ok sc_Style_len (fun vs H Q E h => ?_) (fun cdv A outer s H vs Q E hr h => ?_)
  · obtain ⟨_, _, _, rfl, _⟩ := h
    rfl
  · obtain ⟨o, n, xs, rfl, ⟨dx, t, eo, et⟩, q⟩ := h
    refine ⟨_, pss_one (ps_ret (pe_callB call_len_seq (by rfl) T.n_len (by decide +kernel) (pa_cons (pe_fld (pv 0) rfl) pa_nil))), ?_⟩
    exact ⟨_, rfl, o, _, _, _, _, rfl, eo, T.cl_Style, T.no_Style__steps, rfl, t, xs, rfl, .inr (SqT.of et), q⟩
end
end K

set_option maxRecDepth 100000
set_option maxHeartbeats 4000000
namespace K
open PySem PySem.Spec PyProof.Rows L2 Gd
local macro_rules | `(tactic| walk_at "mulok") => `(tactic| first | exact Or.inr ⟨by decide, by decide⟩ | exact Or.inl ⟨by decide, by decide⟩ | exact Or.inr ⟨by omega, by omega⟩ | exact Or.inl ⟨by omega, by omega⟩)
local macro_rules | `(tactic| walk_at "st") => `(tactic| first
  | refine ⟨_, rfl, ?_⟩
  | refine ⟨_, _, rfl, rfl, (by walk_at "mulok"), ?_⟩
  | refine ⟨_, _, rfl, rfl, (by show (0 : Int) < _; decide), ?_⟩
  | refine ⟨_, _, rfl, rfl, ⟨by decide, by decide⟩, ?_⟩
  | refine ⟨_, _, rfl, rfl, ?_⟩)
def spClass (CB : Addr) : Sp := fun vs H Q _ => ∃ (a : Addr) (x : V) (fs : List (PySem.Str × V)), vs = [.ref a] ∧ Err H a CB fs ∧ fs.lookup ("what" : PySem.Str) = some x ∧ ∀ t, H t = none → Q (.ref t) (upd H t (.tup [.str "value", x]))
/-- what _law_told makes of what is handed to it -/
def TTk (K : PySem.W.Frag) (C1 C2 C3 : Addr) : (XK → Hp → VK → Prop) → Hp → VK → Prop := fun tl H Q => ∀ p, H p = none → ∀ (Q' : VK) (E' : XK), (∀ v H1, (∀ l, H1 l = none → Q (.ref l) (upd H1 l (.lst [v]))) → Q' v H1) →
  (∀ cls d H1, (PySem.W.exmAny K cls [.ref C1, .ref C2, .ref C3] = some true ∧ ∀ a, H1 a = none → spClass C1 [.ref a] (upd H1 a (ExK a cls d)) Q (fun _ _ _ => False)) → E' cls d H1) → tl E' (upd H p (.lst [])) Q'
section
variable {P : Program} {w : World} {K : PySem.W.Frag} {mg : PySem.Str → Option Value} {base : Heap}
theorem ok_law_class (T : Txt mg K w.params) : FnOk P w K mg base CX0 1 T.f_law_class T.fd_law_class ["error"] (spClass T.C_BadValue) := by
  refine T.F_law_class.ok sc_law_class (fun vs H Q E h => ?_) (fun cdv A outer s H vs Q E hr h => ?_)
  · obtain ⟨_, _, _, rfl, _⟩ := h
    rfl
  · obtain ⟨a, x, fs, rfl, er, el, q⟩ := h
    refine ⟨_, pss_cons (ps_if (pt_val (pe_callB call_isK (by rfl) T.n_isinstance (by decide +kernel) (pa_cons (pv 0) (pa_cons (pe_glob (v := .ref T.C_BadText) (by rfl) T.g_BadText rfl) pa_nil)))) (pss_one (ps_ret (pe_ifExp (PW.pt (pw_and (pt_val (pe_callB call_isK (by rfl) T.n_isinstance (by decide +kernel) (pa_cons (pv 0) (pa_cons (pe_glob (v := .ref T.C_BadValue) (by rfl) T.g_BadValue rfl) pa_nil)))) (pw_and1 (pt_cmpR op_eq (pe_erf (pv 0)) (pe_str) (by first | rfl | exact nomark _))))) (pe_tup (pa_cons (pe_str) (pa_cons (pe_erf (pv 0)) (pa_cons (pe_erf (pv 0)) pa_nil)))) (pe_tup (pa_cons (pe_str) pa_nil))))) (pss_nil))
 (pss_cons (ps_if (pt_val (pe_callB call_isK (by rfl) T.n_isinstance (by decide +kernel) (pa_cons (pv 0) (pa_cons (pe_glob (v := .ref T.C_BadValue) (by rfl) T.g_BadValue rfl) pa_nil)))) (pss_one (ps_ret (pe_ifExp (pt_val (pe_callB call_isK (by rfl) T.n_isinstance (by decide +kernel) (pa_cons (pv 0) (pa_cons (pe_bltn (v := .ty "ValueError") (by rfl) T.n_ValueError (by decide +kernel) rfl) pa_nil)))) (pe_tup (pa_cons (pe_str) (pa_cons (pe_erf (pv 0)) pa_nil))) (pe_tup (pa_cons (pe_str) pa_nil))))) (pss_nil))
 (pss_cons (ps_if (pt_val (pe_callB call_isK (by rfl) T.n_isinstance (by decide +kernel) (pa_cons (pv 0) (pa_cons (pe_glob (v := .ref T.C_NoSuch) (by rfl) T.g_NoSuch rfl) pa_nil)))) (pss_one (ps_ret (pe_ifExp (pt_val (pe_callB call_isK (by rfl) T.n_isinstance (by decide +kernel) (pa_cons (pv 0) (pa_cons (pe_bltn (v := .ty "KeyError") (by rfl) T.n_KeyError (by decide +kernel) rfl) pa_nil)))) (pe_tup (pa_cons (pe_str) (pa_cons (pe_erf (pv 0)) (pa_cons (pe_erf (pv 0)) pa_nil)))) (pe_tup (pa_cons (pe_str) pa_nil))))) (pss_nil))
 (pss_one (ps_ret (pe_ifExp (pt_val (pe_callB call_isK (by rfl) T.n_isinstance (by decide +kernel) (pa_cons (pv 0) (pa_cons (pe_bltn (v := .ty "OverflowError") (by rfl) T.n_OverflowError (by decide +kernel) rfl) pa_nil)))) (pe_tup (pa_cons (pe_str) (pa_cons (pe_erf (pv 0)) pa_nil))) (pe_tup (pa_cons (pe_str) pa_nil))))))), ?_⟩
    refine ⟨_, rfl, a, _, fs, _, _, false, rfl, fun u h => h, er, T.er_BadValue, kit_cl T.er_BadText T.tc_BadText T.sb_BadValue_BadValue T.sb_BadValue_BadText, ?_⟩
    refine ⟨_, rfl, ?_⟩
    refine ⟨_, rfl, a, _, fs, _, _, true, rfl, fun u h => h, er, T.er_BadValue, kit_cl T.er_BadValue T.tc_BadValue T.sb_BadValue_BadValue T.sb_BadValue_BadValue, ?_⟩
    refine ⟨_, rfl, ?_⟩
    refine ⟨_, rfl, a, _, fs, _, _, true, rfl, fun u h => h, er, T.er_BadValue, kit_bt (by decide +kernel) T.sb_BadValue_ValueError, ?_⟩
    refine ⟨_, rfl, ?_⟩
    exact ⟨_, rfl, a, _, fs, x, rfl, er, T.er_BadValue, T.no_BadValue_what, el, by show 2 ≤ sizeLine; decide, q⟩
end
theorem gives_told {X : Cx} (T : Txt X.mg X.K X.w.params) (hr0 : Room 6 X.A) {q : PySem.Str} {g : Addr} {cdg : Value} : LamX.GivesTo X ["deed", "error", "found", "e"] "_law_told" (defScope s_law_told) g cdg (defBody s_law_told) "deed" q (TTk X.K T.C_BadValue T.C_NoSuch T.C_TooMany) := by
  intro f c' s H Q tl act hc h
  have hr : Room 5 (X.A.deeper (envOfC "_law_told" (defScope s_law_told) s.heap.objs.size g cdg)) := hr0.deeper _
  refine ⟨_, pss_cons (ps_set (i := 1) sc_law_told.nd rfl (.inl rfl) (pe_non))
    (pss_cons (ps_set (i := 2) sc_law_told.nd rfl (.inl rfl) (pe_lst (pa_nil)))
    (pss_cons (ps_try_keep (i := 3) (tb := fun W D σ H => ∃ Ech : XK, (∀ cls d σ' H', σ'.length = 4 → Ech cls d H' → W cls d σ' H') ∧ σ[0]? = some (some (.ref f)) ∧ H c' = some (LamX.CodeO c' q) ∧ tl Ech H (fun v H1 => [v].length ≤ sizeLine ∧ ∀ l, H1 l = none → D.nx (σ.set 2 (some (.ref l))) (upd H1 l (.lst [v]))))
      rfl rfl sc_law_told.nd rfl rfl rfl (by rfl) T.g_BadValue (by rfl) T.g_NoSuch (by rfl) T.g_TooMany (by decide) (by decide) (by decide) takes0 (fun W pn xe tk _ => ?_) (fun a oe cls d pn hz hf => pss_one (ps_set (i := 1) sc_law_told.nd rfl (.inl rfl) (pv 3))))
    (pss_one (ps_ret (pe_ifExp (pt_cmpR op_isN (pv 1) (pe_non) (by first | rfl | exact nomark _)) (pv 2) (pe_call (ok_law_class T) (hr.mono (by decide)) (by rfl) T.g_law_class T.F_law_class.kp (b_law_class T) .nil pass0 (pa_cons (pv 1) pa_nil))))))), ?_⟩
  · refine ⟨fun pins s' σ H' D I h' => ?_⟩
    obtain ⟨Ech, hW, h1, h2, h3⟩ := h'
    refine (pss_one (ps_set (i := 2) sc_law_told.nd rfl (.inl rfl) (pe_lst (pa_cons (act (fun cls d σ H => σ.length = 4 → W cls d σ H) pn xe Ech _ _ (takes_len tk) (fun cls d σ' H2 e l => hW cls d σ' H2 l e)) pa_nil)))).run pins s' σ H' D I ?_
    exact ⟨h1, h2, h3⟩
  · refine ⟨by show 0 ≤ sizeLine; decide, fun p fp => ⟨_, ?_, rfl, ?_, h p fp _ _ (fun v H1 z => ⟨by show 1 ≤ sizeLine; decide, fun l fl => ?_⟩) (fun cls d H1 z => z)⟩⟩
    · intro cls d σ' H1 l4 ⟨em, z⟩
      refine ⟨true, em, fun _ a na => ?_, fun q => Bool.noConfusion q⟩
      match σ', l4 with
      | [b0, b1, b2, b3], _ =>
        refine ⟨.ref a, rfl, .ref a, rfl, rfl, _, rfl, ?_⟩
        exact ⟨_, rfl, z a na⟩
    · rw [upd_ne (ne_of_none hc fp)]
      exact hc
    · exact ⟨.non, rfl, rfl, _, rfl, .ref l, rfl, z l fl⟩
end K

set_option maxRecDepth 100000
set_option maxHeartbeats 4000000
namespace K
open PySem PySem.Spec PyProof.Rows L2 Gd
local macro_rules | `(tactic| walk_at "mulok") => `(tactic| first | exact Or.inr ⟨by decide, by decide⟩ | exact Or.inl ⟨by decide, by decide⟩ | exact Or.inr ⟨by omega, by omega⟩ | exact Or.inl ⟨by omega, by omega⟩)
local macro_rules | `(tactic| walk_at "st") => `(tactic| first
  | refine ⟨_, rfl, ?_⟩
  | refine ⟨_, _, rfl, rfl, (by walk_at "mulok"), ?_⟩
  | refine ⟨_, _, rfl, rfl, (by show (0 : Int) < _; decide), ?_⟩
  | refine ⟨_, _, rfl, rfl, ⟨by decide, by decide⟩, ?_⟩
  | refine ⟨_, _, rfl, rfl, ?_⟩)
def g1 {α : Type} : List α → List α → List α
  | [], [a] => [a]
  | _, _ => []
theorem g1_rel {vs : List V} {us : List Value} {zs : List V} {ws : List Value} (r : Vals vs us) (rz : Vals zs ws) : Vals (g1 vs zs) (g1 us ws) := by
  cases r with
  | cons _ _ => exact .nil
  | nil =>
    cases rz with
    | nil => exact .nil
    | cons a b =>
      cases b with
      | nil => exact .cons a .nil
      | cons _ _ => exact .nil
theorem kb1 {x : PySem.Str} {st : Stmt} {f : Addr} {fd : FuncData} {p : PySem.Str} {K : PySem.W.Frag} (F : Fun K x x st f fd)
    (h : ∀ (kV doc pm : Value) (an : Option Addr) (cdv ct v : Value), bindArgs (PySem.W.fnOf x x (defArgs st) (defBody st) (defScope st) .none kV doc pm an cdv ct) ⟨[], [(p, v)]⟩ = pure [(p, v)]) : KBinds K fd [p] [p] g1 g1 := by
  obtain ⟨oc, od, kV, doc, pm, an, cdv, ct, osl, rfl, _, _⟩ := F.ex
  refine ⟨fun s us ws _ hl => ?_, fun r rz => g1_rel r rz⟩
  match us, ws, hl with
  | [], [a], _ => exact .of_eq (h _ _ _ _ _ _ a)
theorem shw_of {d : PyData} (h1 : d.showable = true) (h2 : d.hasDict = false) (h3 : d.depth ≤ 60) (h4 : d.leavesShort 30 = true) (h5 : d.bulk ≤ 100000) : Shw d := by
  refine ⟨h1, h2, h3, ?_⟩
  have := PyData.shown_le_bulk 30 (by decide) d h4
  rw [sizeLine_eq]
  omega

theorem stp_tup {H : Hp} {a : Addr} {xs : List V} (e : H a = some (.tup xs)) (l : xs.length ≠ 3) : Stp H (.ref a) "tuple" false := by
  refine ⟨.tup e, fun h => rfl, fun a' xs' h1 h2 => ?_⟩
  cases h1
  rw [e] at h2
  cases h2
  exact ⟨(stp_len l).symm, fun q => absurd q l⟩
theorem stp_three {H : Hp} {a : Addr} {u v w : V} {tu tv tw : String} (e : H a = some (.tup [u, v, w])) (ou : Od H u tu) (ov : Od H v tv) (ow : Od H w tw) : Stp H (.ref a) "tuple" (stp [u, v, w]) := by
  refine ⟨.tup e, fun h => absurd rfl h, fun a' xs' h1 h2 => ?_⟩
  cases h1
  rw [e] at h2
  cases h2
  exact ⟨rfl, fun _ => ⟨u, v, w, tu, tv, tw, rfl, ou, ov, ow⟩⟩
theorem stp_od {H : Hp} {x : V} {ty : String} (o : Od H x ty) (ne : ty ≠ "tuple") : Stp H x ty false := by
  refine ⟨o, fun _ => rfl, fun a xs h1 h2 => ?_⟩
  subst h1
  cases o with
  | lst e =>
    rw [e] at h2
    cases h2
  | tup e => exact absurd rfl ne
  | dK e =>
    rw [e] at h2
    cases h2
theorem Od.monoN {H H' : Hp} {x : V} {T : String} (s : LamX.ExtN H H') (o : Od H x T) : Od H' x T := by
  cases o with
  | non => exact .non
  | bl b => exact .bl b
  | int i => exact .int i
  | str t => exact .str t
  | lst e => exact .lst (s _ _ e fun ps z => by cases z)
  | tup e => exact .tup (s _ _ e fun ps z => by cases z)
  | dK e => exact .dK (s _ _ e fun ps z => by cases z)
theorem Stp.monoN {H H' : Hp} {x : V} {ty : String} {b : Bool} (s : LamX.ExtN H H') (h : Stp H x ty b) : Stp H' x ty b := by
  refine ⟨Od.monoN s h.od, h.no, fun a xs e ea => ?_⟩
  subst e
  cases h.od with
  | tup e0 =>
    have e1 := s _ _ e0 fun ps z => by cases z
    rw [ea] at e1
    cases e1
    obtain ⟨r, k⟩ := h.tup _ _ rfl e0
    refine ⟨r, fun l => ?_⟩
    obtain ⟨u, v, w, tu, tv, tw, e, a1, a2, a3⟩ := k l
    exact ⟨u, v, w, tu, tv, tw, e, Od.monoN s a1, Od.monoN s a2, Od.monoN s a3⟩
  | lst e0 =>
    have e1 := s _ _ e0 fun ps z => by cases z
    rw [ea] at e1
    cases e1
  | dK e0 =>
    have e1 := s _ _ e0 fun ps z => by cases z
    rw [ea] at e1
    cases e1
def spFar : Sp := fun vs H Q _ => vs = [] ∧ ∀ (p : Addr) (xs : List V) (H' : Hp), Same H H' → H p = none → H' p = some (.lst xs) → xs.length ≤ 20 → (∀ x ∈ xs, ∃ ty, Stp H' x ty false) → Q (.ref p) H'
section
variable {P : Program} {w : World} {K : PySem.W.Frag} {mg : PySem.Str → Option Value} {base : Heap}
theorem kb_is_step_0_thing (T : Txt mg K w.params) : KBinds K T.fd_is_step ["thing"] ["thing"] g1 g1 := kb1 T.F_is_step fun _ _ _ _ _ _ _ => rfl
theorem kb_kind_of_0_work (T : Txt mg K w.params) : KBinds K T.fd_kind_of ["work"] ["work"] g1 g1 := kb1 T.F_kind_of fun _ _ _ _ _ _ _ => rfl
theorem ok_law_far (T : Txt mg K w.params) : FnOk P w K mg base CX0 1 T.f_law_far T.fd_law_far [] spFar := by
  refine T.F_law_far.ok sc_law_far (fun vs H Q E h => ?_) (fun cdv A outer s H vs Q E hr h => ?_)
  · obtain ⟨rfl, _⟩ := h
    rfl
  · obtain ⟨rfl, q⟩ := h
    refine ⟨_, pss_cons (ps_asg (pe_tup (pa_cons (pe_int) (pa_cons (pe_tup (pa_cons (pe_int) (pa_cons (pe_int) pa_nil))) pa_nil))) (pg_tup (by rfl) (pgs_cons (pg_name (i := 0) sc_law_far.nd rfl (.inl rfl)) (pgs_cons (pg_name (i := 1) sc_law_far.nd rfl (.inl rfl)) (pgs_nil)))))
 (pss_cons (ps_for PassesOwn.never rfl (pi_range1 (by rfl) T.n_range (pa_cons (pe_int) pa_nil)) (pg_name (i := 2) sc_law_far.nd rfl (.inl rfl)) (pss_one (ps_set (i := 0) sc_law_far.nd rfl (.inl rfl) (pe_tup (pa_cons (pv 0) pa_nil)))))
 (pss_cons (ps_for PassesOwn.never rfl (pi_range1 (by rfl) T.n_range (pa_cons (pe_int) pa_nil)) (pg_name (i := 2) sc_law_far.nd rfl (.inl rfl)) (pss_one (ps_set (i := 1) sc_law_far.nd rfl (.inl rfl) (pe_tup (pa_cons (pv 1) (pa_cons (pv 1) pa_nil))))))
 (pss_one (ps_ret (pe_lst (pa_cons (pv 0) (pa_cons (pv 1) (pa_cons (pe_op op_repTW (pe_tup (pa_cons (pe_int) pa_nil)) (pe_int)) (pa_cons (pe_op op_rep_str (pe_str) (pe_int)) (pa_cons (pe_lst (pa_cons (pe_str) pa_nil)) (pa_cons (pe_dnewK) (pa_cons (pe_non) (pa_cons (pe_bl) (pa_cons (pe_int) (pa_cons (pe_op op_pow (pe_int) (pe_int)) pa_nil))))))))))))))), ?_⟩
    refine ⟨by show 2 ≤ sizeLine; decide, fun t0 ft0 => ⟨by show 2 ≤ sizeLine; decide, fun t ft => ?_⟩⟩
    refine ⟨t, _, rfl, .inl (.inl upd_same), rfl, _, _, rfl, _, _, rfl, rfl, ?_⟩
    have st0 : Same H (upd (upd H t0 (.tup [V.int 1, V.int 1])) t (.tup [V.int 1, V.ref t0])) := (same_new ft0).trans (same_new ft)
    refine ⟨3000, rfl, by decide, by decide, for_range (lo := 0) (n := 3000) (fun i σ H1 => ∃ (a b : V) (ta tb : String) (v : Option V), σ = [some a, some b, v] ∧ Same H H1 ∧ Stp H1 a ta false ∧ Stp H1 b tb false) ⟨_, _, _, _, none, rfl, st0, stp_od (.int 1) (by decide), (stp_tup upd_same (by decide)).mono (same_new ft)⟩ ?_ ?_⟩
    · rintro i σ H1 lt ⟨a, b, ta, tb, v, rfl, s1, oa, ob⟩
      refine ⟨_, rfl, by show 1 ≤ sizeLine; decide, fun e fe => ?_⟩
      exact ⟨_, b, _, _, _, rfl, s1.trans (same_new fe), stp_tup upd_same (by simp), ob.mono (same_new fe)⟩
    · rintro σ H1 ⟨a, b, ta, tb, v, rfl, s1, oa, ob⟩
      refine ⟨60, rfl, by decide, by decide, for_range (lo := 0) (n := 60) (fun i σ H1 => ∃ (a b : V) (ta tb : String) (v : Option V), σ = [some a, some b, v] ∧ Same H H1 ∧ Stp H1 a ta false ∧ Stp H1 b tb false) ⟨_, _, _, _, _, rfl, s1, oa, ob⟩ ?_ ?_⟩
      · rintro i σ H1 lt ⟨a, b, ta, tb, v, rfl, s1, oa, ob⟩
        refine ⟨_, rfl, _, rfl, by show 2 ≤ sizeLine; decide, fun e fe => ?_⟩
        exact ⟨a, _, _, _, _, rfl, s1.trans (same_new fe), oa.mono (same_new fe), stp_tup upd_same (by simp)⟩
      · rintro σ H2 ⟨a, b, ta, tb, v, rfl, s2, oa, ob⟩
        refine ⟨_, rfl, _, rfl, by show 1 ≤ sizeLine; decide, fun t1 f1 => ?_⟩
        have c1 := same_new (o := .tup [V.int 1]) f1
        refine ⟨t1, 5000, _, rfl, rfl, upd_same, by simp, by decide, by decide, fun t2 f2 => ?_⟩
        have c2 := same_new (o := .tup (List.replicate (5000 : Int).toNat [V.int 1]).flatten) f2
        have ta5 : Tx 1 "a" := ⟨by decide +kernel, by decide +kernel⟩
        refine ⟨_, _, rfl, rfl, PyProof.Rows.mulOk_of 1 5000 (by rw [Gd.len_tl]; exact ta5.1) (by decide) (by decide) (by decide) (by decide), ?_⟩
        refine ⟨by show 1 ≤ sizeLine; decide, fun l1 g1 => ?_⟩
        have c3 := same_new (o := .lst [V.str "a"]) g1
        intro d1 g2
        have c4 := same_new (o := .dK []) g2
        refine ⟨_, _, rfl, rfl, ⟨by decide, by decide, by decide⟩, by show 10 ≤ sizeLine; decide, fun p fp => ?_⟩
        have c5 := same_new (o := .lst [a, b, V.ref t2, V.str (Txt.mul "a" 5000), V.ref l1, V.ref d1, V.non, V.bl true, V.int 5, V.int (10 ^ (30 : Int).toNat)]) fp
        have all := (((c1.trans c2).trans c3).trans c4).trans c5
        refine q p _ _ (s2.trans all) ?_ upd_same (show 10 ≤ 20 by decide) ?_
        · exact s2.free ((((c1.trans c2).trans c3).trans c4).free fp)
        · intro x hx
          simp only [List.mem_cons, List.not_mem_nil, or_false] at hx
          rcases hx with rfl | rfl | rfl | rfl | rfl | rfl | rfl | rfl | rfl | rfl
          · exact ⟨_, oa.mono all⟩
          · exact ⟨_, ob.mono all⟩
          · exact ⟨_, (stp_tup upd_same (by simp)).mono ((c3.trans c4).trans c5)⟩
          · exact ⟨_, stp_od (.str (ta5.rep.mono (by decide))) (by decide)⟩
          · exact ⟨_, (stp_od (Od.lst upd_same) (by decide)).mono (c4.trans c5)⟩
          · exact ⟨_, (stp_od (Od.dK upd_same) (by decide)).mono c5⟩
          · exact ⟨_, stp_od (.non) (by decide)⟩
          · exact ⟨_, stp_od (.bl _) (by decide)⟩
          · exact ⟨_, stp_od (.int _) (by decide)⟩
          · exact ⟨_, stp_od (.int _) (by decide)⟩
end
end K

set_option maxRecDepth 100000
set_option maxHeartbeats 4000000
namespace K
open PySem PySem.Spec PyProof.Rows L2 Gd
local macro_rules | `(tactic| walk_at "mulok") => `(tactic| first | exact Or.inr ⟨by decide, by decide⟩ | exact Or.inl ⟨by decide, by decide⟩ | exact Or.inr ⟨by omega, by omega⟩ | exact Or.inl ⟨by omega, by omega⟩)
local macro_rules | `(tactic| walk_at "st") => `(tactic| first
  | refine ⟨_, rfl, ?_⟩
  | refine ⟨_, _, rfl, rfl, (by walk_at "mulok"), ?_⟩
  | refine ⟨_, _, rfl, rfl, (by show (0 : Int) < _; decide), ?_⟩
  | refine ⟨_, _, rfl, rfl, ⟨by decide, by decide⟩, ?_⟩
  | refine ⟨_, _, rfl, rfl, ?_⟩)
def dB (b : Bool) : PyData := .list [.bool b, .bool b]
theorem shw_B (b : Bool) : Shw (dB b) := shw_of (by simp [dB, PyData.showable, PyData.showableAll]) (by simp [dB, PyData.hasDict, PyData.hasDictAll]) (by simp [dB, PyData.depth, PyData.depthAll])
  (by simp [dB, PyData.leavesShort, PyData.leavesShortAll]) (by simp [dB, PyData.bulk, PyData.bulkAll])
theorem dp_B {K : PySem.W.Frag} {H : Hp} {b : Bool} {p : Addr} (h : H p = some (.lst [.bl b, .bl b])) : Dp K H (.ref p) (dB b) := .lst (SqL.of h) (.cons (.bl _) (.cons (.bl _) .nil))
def qR : PySem.Str := (envOfC "_law_right" (defScope s_law_right) 0 0 .none).qual ++ "<lambda>"
def spRight (pT : Addr) : Sp := fun vs H Q _ => ∃ (x : V) (ty : String) (b : Bool), vs = [x] ∧ Stp H x ty b ∧ LamX.Tabs [(pT, qR)] H ∧ ∀ H', LamX.ExtN H H' → LamX.Tabs [(pT, qR)] H' → Q (.bl true) H'
theorem kd_some {x : V} (h : kd x ≠ .non) : ∃ z, x = .str z := by
  cases x with
  | str z => exact ⟨z, rfl⟩
  | _ => exact absurd rfl h
theorem wh_some {x : V} {lo hi : Int} (h : wh x lo hi = true) : ∃ i, x = .int i := by
  cases x with
  | int i => exact ⟨i, rfl⟩
  | _ => exact absurd (show false = true from h) Bool.false_ne_true
theorem stp_is {xs : List V} (h : stp xs = true) : ∃ z i j, xs = [.str z, .int i, .int j] := by
  match xs, h with
  | [u, v, x], h =>
    have h' : (!decide (kd u = .non) && (wh v 1 240 && wh x 0 240)) = true := h
    simp only [Bool.and_eq_true, Bool.not_eq_true', decide_eq_false_iff_not] at h'
    obtain ⟨h1, h2, h3⟩ := h'
    obtain ⟨z, rfl⟩ := kd_some h1
    obtain ⟨i, rfl⟩ := wh_some h2
    obtain ⟨j, rfl⟩ := wh_some h3
    exact ⟨z, i, j, rfl⟩
theorem stp_dp {K : PySem.W.Frag} {H : Hp} {x : V} {ty : String} (h : Stp H x ty true) : ∃ z i j, Tx 5000 z ∧ Dp K H x (.tuple [.str z, .int i, .int j]) := by
  by_cases e : ty = "tuple"
  · obtain ⟨a, xs, rfl, ea⟩ := Od.isTup h.od e
    obtain ⟨r, k⟩ := h.tup _ _ rfl ea
    obtain ⟨z, i, j, rfl⟩ := stp_is r.symm
    obtain ⟨u, v, w, tu, tv, tw, e3, ou, _, _⟩ := k rfl
    cases e3
    have tz : Tx 5000 z := by
      cases ou with
      | str t => exact t
    exact ⟨z, i, j, tz, .tup (SqT.of ea) (.cons (.str z) (.cons (.int i) (.cons (.int j) .nil)))⟩
  · exact absurd (h.no e) (by decide)
theorem shp_step {z : PySem.Str} {i j : Int} (t : Tx 5000 z) : SeqAt.shaped (.tuple [.str z, .int i, .int j]) = true := by
  simp only [SeqAt.shaped, PyData.canLay0, PyData.canLayAll0, PyData.depth, PyData.depthAll]
  simp
  unfold PyData.strOk
  rw [← Array.all_toList, List.all_eq_true]
  exact fun c hc => decide_eq_true (t.2 c hc)
theorem shp_two : SeqAt.shaped (.tuple [.str "value", .str "steps"]) = true := by decide +kernel
theorem eqv_step {z : PySem.Str} {i j : Int} : PyData.eqv (.tuple [.str z, .int i, .int j]) (.tuple [.str z, .int i, .int j]) = true := by simp [PyData.eqv, PyData.eqvAll]
section
variable {P : Program} {w : World} {K : PySem.W.Frag} {mg : PySem.Str → Option Value} {base : Heap}
theorem ok_law_right (T : Txt mg K w.params) (tbT : LamX.TabB base mg T.cT_law_right T.pT_law_right) : FnG P w K mg base 8 T.f_law_right T.fd_law_right ["odd"] (spRight T.pT_law_right) := by
  obtain ⟨oc, od, kV, doc, pm, an, cdv, ct, osl, efd, lkT, cgT⟩ := T.F_law_told.ex
  have bT := b_law_told T
  rw [efd] at bT lkT
  refine fn_okL T.F_law_right T.in_law_right T.tb_law_right sc_law_right (fun vs H Q E h => ?_) (fun A outer s H vs Q E hA hr h => ?_)
  · obtain ⟨_, _, _, rfl, _⟩ := h
    rfl
  · obtain ⟨x, ty, b, rfl, st, tabs, q⟩ := h
    have GT := gives_told (X := (cxOf CX0 P w K mg base ["odd", "found"] "_law_right" (defScope s_law_right) T.f_law_right (.ref T.cT_law_right) A outer s H E).nox) T (hr.mono (by decide)) (q := qR) (g := T.f_law_told) (cdg := cdv)
    have tabs0 : List (Addr × PySem.Str) := [(T.pT_law_right, qR)]
    have memT : (T.pT_law_right, qR) ∈ [(T.pT_law_right, qR)] := List.mem_singleton.mpr rfl
    have oneT : ∀ p ∈ [(T.pT_law_right, qR)], p.1 = T.pT_law_right → p.2 = qR := fun p hp _ => by rw [List.mem_singleton.mp hp]
    refine ⟨_, pss_cons (ps_if (pt_cmpR op_ne (pe_callB (call_repr hA hr.units) (by rfl) T.n_repr (by decide +kernel) (pa_cons (pe_lst (pa_cons (pe_call (ok_is_step T) (hr.mono (by decide)) (by rfl) T.g_is_step T.F_is_step.kp (b_is_step T) .nil pass0 (pa_cons (pv 0) pa_nil)) (pa_cons (pe_callK0 (ok_is_step T) (hr.mono (by decide)) (by rfl) T.g_is_step T.F_is_step.kp (kb_is_step_0_thing T) pass0 (pk_cons (pv 0) (pk_nil))) pa_nil))) pa_nil)) (pe_callB (call_repr hA hr.units) (by rfl) T.n_repr (by decide +kernel) (pa_cons (pe_op op_rep (pe_lst (pa_cons (pe_call (ok_law_is_step T) (hr.mono (by decide)) (by rfl) T.g_law_is_step T.F_law_is_step.kp (b_law_is_step T) .nil pass0 (pa_cons (pv 0) pa_nil)) pa_nil)) (pe_int)) pa_nil)) (by first | rfl | exact nomark _)) (pss_one (ps_ret (pe_bl))) (pss_nil))
 (pss_cons (ps_set (i := 1) sc_law_right.nd rfl (.inl rfl) (LamX.pe_lamcall (T := [(T.pT_law_right, qR)]) (c := T.cT_law_right) (P := T.pT_law_right) (k := 5) (by rfl) T.g_law_told T.F_law_told.kp lkT cgT bT sc_law_told rfl (.inl rfl) GT tbT rfl memT oneT (hr.mono (by decide)) (LamX.lamS_by (sc := defScope s_law_right) (by decide +kernel)) rfl (fun _ _ _ _ _ => rfl) (fun A outer s H E f c' hr => pe_make T.mk_Style (ok_Style_init T) (hr.mono (by decide)) (by rfl) T.g_Style (b_Style_init T) .nil (passes_call (takes_of rfl rfl rfl rfl) (fun _ _ _ _ h => h)) (pa_cons (pe_str) (pa_cons (pe_lst (pa_cons (pe_tup (pa_cons (pe_str) (pa_cons (pe_int) (pa_cons (pe_int) pa_nil)))) (pa_cons (pv 0) pa_nil))) pa_nil)))))
 (pss_cons (ps_if (pt_not (pt_val (pe_call (ok_law_is_step T) (hr.mono (by decide)) (by rfl) T.g_law_is_step T.F_law_is_step.kp (b_law_is_step T) .nil pass0 (pa_cons (pv 0) pa_nil)))) (pss_one (ps_ret (pe_cmpR (op_eqD hr.units) (pv 1) (pe_tup (pa_cons (pe_str) (pa_cons (pe_str) pa_nil))) (by first | rfl | exact nomark _)))) (pss_nil))
 (pss_one (ps_ret (pe_and (pe_callB call_isi (by rfl) T.n_isinstance (by decide +kernel) (pa_cons (pv 1) (pa_cons (pe_bltn (v := .ty "list") (by rfl) T.n_list (by decide +kernel) rfl) pa_nil))) (pe_and (pe_cmpR (op_eqD hr.units) (pe_meth (pe_ix ix_list (pv 1) (pe_int) (fun _ _ => rfl)) T.cl_Style T.m_Style_step (ok_Style_step T) (hr.mono (by decide)) (b_Style_step T) .nil pass0 (pa_cons (pe_int) pa_nil)) (pv 0) (by first | rfl | exact nomark _)) (pe_one (pe_cmpR op_eq (pe_callB (call_lenO (ok_Style_len T) (hr.mono (by decide)) (b_Style_len T)) (by rfl) T.n_len (by decide +kernel) (pa_cons (pe_ix ix_list (pv 1) (pe_int) (fun _ _ => rfl)) pa_nil)) (pe_int) (by first | rfl | exact nomark _))))))))), ?_⟩
    refine ⟨_, rfl, x, ty, b, rfl, st, fun H1 s1 => ⟨_, rfl, x, ty, b, rfl, st.mono s1, fun H2 s2 => ⟨by show 2 ≤ sizeLine; decide, fun l1 f1 => ?_⟩⟩⟩
    refine ⟨_, dB b, rfl, dp_B upd_same, shw_B b, ?_⟩
    have s3 := (s1.trans s2).trans (same_new (o := .lst [.bl b, .bl b]) f1)
    refine ⟨_, rfl, x, ty, b, rfl, st.mono s3, fun H4 s4 => ⟨by show 1 ≤ sizeLine; decide, fun l2 f2 => ?_⟩⟩
    have s5 := (s3.trans s4).trans (same_new (o := .lst [.bl b]) f2)
    refine ⟨l2, 2, [V.bl b], rfl, rfl, upd_same, by decide, by decide, by show 1 * 2 ≤ sizeLine; decide, fun l3 f3 => ?_⟩
    have s6 := s5.trans (same_new (o := .lst [.bl b, .bl b]) f3)
    refine ⟨_, dB b, rfl, dp_B upd_same, shw_B b, rfl, _, rfl, iteNS rfl ?_⟩
    -- found
    have hT1 := tabs.ext s6
    refine ⟨hT1, fun H7 n7 t7 => ?_⟩
    intro p fp Q' E' hQ hE
    have n07 := (LamX.ExtN.of s6).trans n7
    have st7 := st.monoN n07
    have sp7 := same_new (o := .lst []) fp
    refine ⟨by show 3 ≤ sizeLine; decide, fun t0 ft0 => ⟨x, rfl, by show 2 ≤ sizeLine; decide, fun l fl => fun o dx no ndx ne => ?_⟩⟩
    have s8 := sp7.trans (same_new (o := .tup [.str "sew", .int 1, .int 0]) ft0)
    have s9 := s8.trans (same_new (o := .lst [.ref t0, x]) fl)
    have s10 := s9.trans (same_new (o := .own o) ndx)
    have no10 : (upd (upd (upd (upd H7 p (.lst [])) t0 (.tup [.str "sew", .int 1, .int 0])) l (.lst [.ref t0, x])) dx (.own o)) o = none := by
      rw [upd_ne (fun z => ne z.symm)]
      exact no
    have s11 := s10.trans (same_new (o := .ins T.C_Style dx []) no10)
    have st0 : Stp (upd (upd H7 p (.lst [])) t0 (.tup [.str "sew", .int 1, .int 0])) (.ref t0) "tuple" true := by
      have z := stp_three (H := upd (upd H7 p (.lst [])) t0 (.tup [.str "sew", .int 1, .int 0])) upd_same (.str ⟨by decide +kernel, by decide +kernel⟩) (.int 1) (.int 0)
      have e : stp [.str "sew", .int 1, .int 0] = true := by decide +kernel
      rw [e] at z
      exact z
    have s0e := ((same_new (o := .lst [.ref t0, x]) fl).trans (same_new (o := .own o) ndx)).trans (same_new (o := .ins T.C_Style dx []) no10)
    have le : (upd (upd (upd (upd (upd H7 p (.lst [])) t0 (.tup [.str "sew", .int 1, .int 0])) l (.lst [.ref t0, x])) dx (.own o)) o (.ins T.C_Style dx [])) l = some (.lst [.ref t0, x]) :=
      ((same_new (o := .own o) ndx).trans (same_new (o := .ins T.C_Style dx []) no10)) _ _ upd_same
    refine ⟨o, dx, l, "a", [.ref t0, x], [true, b], rfl, upd_same, ⟨by decide +kernel, by decide +kernel⟩, le, ⟨rfl, ?_⟩, ?_, ?_⟩
    · intro i y hy
      match i, hy with
      | 0, hy =>
        cases hy
        exact ⟨true, "tuple", rfl, st0.mono s0e⟩
      | 1, hy =>
        cases hy
        exact ⟨b, ty, rfl, st7.mono s11⟩
      | i + 2, hy => cases hy
    · intro e H' t k eo et
      refine ⟨rfl, hQ _ _ fun l4 f4 => ?_⟩
      have eb : b = true := by
        cases b with
        | true => rfl
        | false => exact absurd e (by decide +kernel)
      subst eb
      have sH : Same H7 H' := fun c u ec => by
        have co : c ≠ o := fun z => by
          rw [z] at ec
          have := s9 _ _ ec
          rw [no] at this
          cases this
        exact k c u co (s11 _ _ ec)
      have s4 := same_new (o := .lst [.ref o]) f4
      have sg := sH.trans s4
      refine ⟨_, rfl, x, ty, true, rfl, st7.mono sg, fun H8 s8 => ⟨_, rfl, ?_⟩⟩
      have s78 := sg.trans s8
      have e4 := s8 _ _ (show upd H' l4 (.lst [.ref o]) l4 = some (.lst [.ref o]) from upd_same)
      have sy : Sty H8 T.C_Style o "a" [.ref t0, x] := Sty.mono (s4.trans s8) ⟨dx, t, eo, et⟩
      have sy' := sy
      obtain ⟨dx8, t8, eo8, et8⟩ := sy
      refine ⟨_, rfl, .ref l4, .ty "list", _, _, _, rfl, .ty "list", (Od.lst e4).tx, Od.klst (.lst e4), ?_⟩
      refine ⟨true, rfl, ?_⟩
      obtain ⟨z, i, j, tz, dp⟩ := stp_dp (K := K) (st7.mono s78)
      refine ⟨.ref l4, rfl, l4, _, 0, .ref o, rfl, rfl, .inl (.inl e4), atI_nat (j := 0) rfl, o, _, _, rfl, eo8, ?_, ?_⟩
      · rfl
      · refine ⟨o, "a", [.ref t0, x], 2, x, rfl, sy', by decide, rfl, by show 2 ≤ 12; decide, x, rfl, _, _, dp, dp, shp_step tz, shp_step tz, true, by rw [eqv_step], ?_⟩
        refine ⟨.ref l4, rfl, l4, _, 0, .ref o, rfl, rfl, .inl (.inl e4), atI_nat (j := 0) rfl, o, _, _, _, rfl, eo8, T.m_Style_len.at_, T.ti_Style_len, o, "a", [.ref t0, x], rfl, sy', 2, rfl, by decide, rfl, ?_⟩
        show Q (.bl (decide _)) _
        rw [show decide (V.int ((2 : Nat) : Int) = V.int 2) = true from by decide]
        exact q H8 (n07.trans (.of s78)) (t7.ext s78)
    · intro e H' d sm ed
      refine hE _ _ _ ⟨exm3 (exm_cl T.er_BadValue T.tc_BadValue T.sb_BadValue_BadValue) (exm_cl T.er_NoSuch T.tc_NoSuch T.sb_BadValue_NoSuch) (exm_cl T.er_TooMany T.tc_TooMany T.sb_BadValue_TooMany), fun a na => ?_⟩
      refine ⟨a, .str "steps", [("what", .str "steps")], rfl, ⟨d, upd_same, ?_⟩, rfl, fun t ft => ?_⟩
      · rw [upd_ne (ne_of_none ed na)]
        exact ed
      · have eb : b = false := by
          cases b with
          | false => rfl
          | true => exact absurd e (by decide +kernel)
        subst eb
        have s7e := ((s11.trans sm).trans (same_new (o := ExK a (.ref T.C_BadValue) (some d)) na)).trans (same_new (o := .tup [.str "value", .str "steps"]) ft)
        refine ⟨_, rfl, x, ty, false, rfl, st7.mono s7e, fun H8 s8 => ⟨_, rfl, ?_⟩⟩
        have et := s8 _ _ (show upd (upd H' a (ExK a (.ref T.C_BadValue) (some d))) t (.tup [.str "value", .str "steps"]) t = some (.tup [.str "value", .str "steps"]) from upd_same)
        refine ⟨.ref t, rfl, by show 2 ≤ sizeLine; decide, fun t2 ft2 => ?_⟩
        have s9e := (s7e.trans s8).trans (same_new (o := .tup [.str "value", .str "steps"]) ft2)
        refine ⟨_, _, .tup (SqT.of ((same_new ft2) _ _ et)) (.cons (.str _) (.cons (.str _) .nil)), .tup (SqT.of upd_same) (.cons (.str _) (.cons (.str _) .nil)), shp_two, shp_two, ?_⟩
        have ee : PyData.eqv (.tuple [.str "value", .str "steps"]) (.tuple [.str "value", .str "steps"]) = true := by decide +kernel
        show Q (.bl (PyData.eqv _ _)) _
        rw [ee]
        exact q _ (n07.trans (.of s9e)) (t7.ext s9e)
end
end K

set_option maxRecDepth 100000
set_option maxHeartbeats 4000000
namespace K
open PySem PySem.Spec PyProof.Rows L2 Gd
local macro_rules | `(tactic| walk_at "mulok") => `(tactic| first | exact Or.inr ⟨by decide, by decide⟩ | exact Or.inl ⟨by decide, by decide⟩ | exact Or.inr ⟨by omega, by omega⟩ | exact Or.inl ⟨by omega, by omega⟩)
local macro_rules | `(tactic| walk_at "st") => `(tactic| first
  | refine ⟨_, rfl, ?_⟩
  | refine ⟨_, _, rfl, rfl, (by walk_at "mulok"), ?_⟩
  | refine ⟨_, _, rfl, rfl, (by show (0 : Int) < _; decide), ?_⟩
  | refine ⟨_, _, rfl, rfl, ⟨by decide, by decide⟩, ?_⟩
  | refine ⟨_, _, rfl, rfl, ?_⟩)
/-- a step that the law has drawn -/
def spDrawn : Sp := fun vs H Q _ => ∃ (d : Addr) (H0 : Hp) (n : Nat), vs = [.ref d] ∧ Dr H0 H d (n + 9) ∧ ∀ (t : Addr) (z : PySem.Str) (i j : Int) (H' : Hp), H0 t = none → Dr (upd H0 t (.tup [.str z, .int i, .int j])) H' d n → Tx 5000 z → Q (.ref t) H'
section
variable {P : Program} {w : World} {K : PySem.W.Frag} {mg : PySem.Str → Option Value} {base : Heap}
theorem ok_law_step (T : Txt mg K w.params) : FnOk P w K mg base CX0 3 T.f_law_step T.fd_law_step ["m"] spDrawn := by
  refine T.F_law_step.ok sc_law_step (fun vs H Q E h => ?_) (fun cdv A outer s H vs Q E hr h => ?_)
  · obtain ⟨_, _, _, rfl, _⟩ := h
    rfl
  · obtain ⟨d, H0, n, rfl, dr, q⟩ := h
    refine ⟨_, pss_cons (ps_set (i := 1) sc_law_step.nd rfl (.inl rfl) (pe_ix ix_list (pe_lst (pa_cons (pe_str) (pa_cons (pe_str) (pa_cons (pe_str) (pa_cons (pe_str) (pa_cons (pe_str) (pa_cons (pe_str) (pa_cons (pe_str) pa_nil)))))))) (pe_call (ok_law_draw T) (hr.mono (by decide)) (by rfl) T.g_law_draw T.F_law_draw.kp (b_law_draw T) .nil pass0 (pa_cons (pv 0) (pa_cons (pe_int) pa_nil))) (fun _ _ => rfl)))
 (pss_cons (ps_set (i := 2) sc_law_step.nd rfl (.inl rfl) (pe_op op_add (pe_int) (pe_ix ix_list (pe_lst (pa_cons (pe_call (ok_law_draw T) (hr.mono (by decide)) (by rfl) T.g_law_draw T.F_law_draw.kp (b_law_draw T) .nil pass0 (pa_cons (pv 0) (pa_cons (pe_int) pa_nil))) (pa_cons (pe_call (ok_law_draw T) (hr.mono (by decide)) (by rfl) T.g_law_draw T.F_law_draw.kp (b_law_draw T) .nil pass0 (pa_cons (pv 0) (pa_cons (pe_int) pa_nil))) (pa_cons (pe_op op_sub (pe_int) (pe_call (ok_law_draw T) (hr.mono (by decide)) (by rfl) T.g_law_draw T.F_law_draw.kp (b_law_draw T) .nil pass0 (pa_cons (pv 0) (pa_cons (pe_int) pa_nil)))) pa_nil)))) (pe_call (ok_law_draw T) (hr.mono (by decide)) (by rfl) T.g_law_draw T.F_law_draw.kp (b_law_draw T) .nil pass0 (pa_cons (pv 0) (pa_cons (pe_int) pa_nil))) (fun _ _ => rfl))))
 (pss_one (ps_ret (pe_tup (pa_cons (pv 1) (pa_cons (pv 2) (pa_cons (pe_ix ix_list (pe_lst (pa_cons (pe_int) (pa_cons (pe_int) (pa_cons (pe_call (ok_law_draw T) (hr.mono (by decide)) (by rfl) T.g_law_draw T.F_law_draw.kp (b_law_draw T) .nil pass0 (pa_cons (pv 0) (pa_cons (pe_int) pa_nil))) (pa_cons (pe_call (ok_law_draw T) (hr.mono (by decide)) (by rfl) T.g_law_draw T.F_law_draw.kp (b_law_draw T) .nil pass0 (pa_cons (pv 0) (pa_cons (pe_int) pa_nil))) (pa_cons (pe_op op_sub (pe_int) (pe_call (ok_law_draw T) (hr.mono (by decide)) (by rfl) T.g_law_draw T.F_law_draw.kp (b_law_draw T) .nil pass0 (pa_cons (pv 0) (pa_cons (pe_int) pa_nil)))) pa_nil)))))) (pe_call (ok_law_draw T) (hr.mono (by decide)) (by rfl) T.g_law_draw T.F_law_draw.kp (b_law_draw T) .nil pass0 (pa_cons (pv 0) (pa_cons (pe_int) pa_nil))) (fun _ _ => rfl)) pa_nil))))))), ?_⟩
    refine ⟨by show 7 ≤ sizeLine; decide, fun l1 f1 => ?_⟩
    have f10 := dr.same.free f1
    refine ⟨_, rfl, d, 7, _, n + 8, rfl, by decide, by decide, dr.new _ f1, fun i1 H1 a0 a1 dr1 => ?_⟩
    obtain ⟨v1, hv1, _, av1⟩ := at_in (l := [V.str "sew", V.str "glue", V.str "cover", V.str "letter", V.str "press", V.str "press", V.str "press"]) a0 a1
    refine ⟨l1, _, _, v1, rfl, rfl, .inl (.inl dr1.told), av1, ?_⟩
    have dr1' := dr1.drop f10
    have z1 : ∃ z, v1 = .str z ∧ Tx 5000 z := by
      simp only [List.mem_cons, List.not_mem_nil, or_false] at hv1
      rcases hv1 with rfl | rfl | rfl | rfl | rfl | rfl | rfl <;> exact ⟨_, rfl, by decide +kernel, by decide +kernel⟩
    obtain ⟨z, rfl, tz⟩ := z1
    refine ⟨_, rfl, d, 4, H0, n + 7, rfl, by decide, by decide, dr1', fun i2 H2 b0 b1 dr2 => ⟨_, rfl, d, 30, H0, n + 6, rfl, by decide, by decide, dr2, fun i3 H3 c0 c1 dr3 => ⟨_, rfl, d, 2, H0, n + 5, rfl, by decide, by decide, dr3, fun i4 H4 d0 d1 dr4 => ⟨_, _, rfl, rfl, by show 3 ≤ sizeLine; decide, fun l2 f2 => ?_⟩⟩⟩⟩
    have f20 := dr4.same.free f2
    refine ⟨_, rfl, d, 3, _, n + 4, rfl, by decide, by decide, dr4.new _ f2, fun i5 H5 e0 e1 dr5 => ?_⟩
    obtain ⟨k, hk, ak, _⟩ := at_int (cs := [i2, i3, 239 - i4]) e0 e1
    refine ⟨l2, _, _, .int k, rfl, rfl, .inl (.inl dr5.told), ak, _, _, rfl, rfl, ?_⟩
    have dr5' := dr5.drop f20
    refine ⟨_, rfl, _, rfl, _, rfl, d, 5, H0, n + 3, rfl, by decide, by decide, dr5', fun i6 H6 g0 g1 dr6 => ⟨_, rfl, d, 40, H0, n + 2, rfl, by decide, by decide, dr6, fun i7 H7 h0 h1 dr7 => ⟨_, rfl, d, 2, H0, n + 1, rfl, by decide, by decide, dr7, fun i8 H8 k0 k1 dr8 => ⟨_, _, rfl, rfl, by show 5 ≤ sizeLine; decide, fun l3 f3 => ?_⟩⟩⟩⟩
    have f30 := dr8.same.free f3
    refine ⟨_, rfl, d, 5, _, n, rfl, by decide, by decide, dr8.new _ f3, fun i9 H9 m0 m1 dr9 => ?_⟩
    obtain ⟨r, hr', ar, _⟩ := at_int (cs := [0, 0, i6, i7, 240 - i8]) m0 m1
    refine ⟨l3, _, _, .int r, rfl, rfl, .inl (.inl dr9.told), ar, by show 3 ≤ sizeLine; decide, fun t ft => ?_⟩
    have dr9' := dr9.drop f30
    exact q t z _ _ _ (dr9'.same.free ft) (dr9'.new _ ft) tz
end
end K

set_option maxRecDepth 100000
set_option maxHeartbeats 4000000
namespace K
open PySem PySem.Spec PyProof.Rows L2 Gd
local macro_rules | `(tactic| walk_at "mulok") => `(tactic| first | exact Or.inr ⟨by decide, by decide⟩ | exact Or.inl ⟨by decide, by decide⟩ | exact Or.inr ⟨by omega, by omega⟩ | exact Or.inl ⟨by omega, by omega⟩)
local macro_rules | `(tactic| walk_at "st") => `(tactic| first
  | refine ⟨_, rfl, ?_⟩
  | refine ⟨_, _, rfl, rfl, (by walk_at "mulok"), ?_⟩
  | refine ⟨_, _, rfl, rfl, (by show (0 : Int) < _; decide), ?_⟩
  | refine ⟨_, _, rfl, rfl, ⟨by decide, by decide⟩, ?_⟩
  | refine ⟨_, _, rfl, rfl, ?_⟩)
def oddL (e : Addr) : List V := [.int 0, .int 1, .int 240, .int 241, .int (-1), .bl true, .bl false, .non, .str "1", .str "sew", .str "press", .str "Press", .str "sewn", .str "", .ref e, .int (10 ^ (40 : Int).toNat)]
def spBent : Sp := fun vs H Q _ => ∃ (d t : Addr) (z : PySem.Str) (i j : Int) (H0 : Hp) (n : Nat), vs = [.ref d, .ref t] ∧ Dr H0 H d (n + 4) ∧ H0 t = some (.tup [.str z, .int i, .int j]) ∧ Tx 5000 z ∧
  ∀ (x : V) (H0' H' : Hp), Same H0 H0' → Dr H0' H' d n → (∃ ty b, Stp H0' x ty b) → Q x H'
theorem cut_dr {K : PySem.W.Frag} {H0 H : Hp} {d n : Nat} {t : Addr} {xs : List V} {lo hi : Option Int} {Q : VK} (dr : Dr H0 H d n) (et : H0 t = some (.tup xs)) (k : ∀ r G H', Same H0 G → Dr G H' d n → G r = some (.tup (cutV xs lo hi)) → Q (.ref r) H') : rSlA K (.ref t) lo hi H Q := by
  refine ⟨t, xs, rfl, SqT.of (dr.same _ _ et), fun h => k t H0 H (Same.refl _) dr ?_, fun _ p fp => k p _ _ (same_new (dr.same.free fp)) (dr.new _ fp) upd_same⟩
  have e : cutV xs lo hi = xs := by
    unfold cutV
    rw [h.1, h.2, List.drop_zero, Nat.sub_zero, List.take_length]
  rw [e]
  exact et
theorem cut_drN {K : PySem.W.Frag} {H0 H : Hp} {d n : Nat} {σ : L2.St} {t : Addr} {xs : List V} {lo : Option Int} {Q : VK} (dr : Dr H0 H d n) (et : H0 t = some (.tup xs)) (k : ∀ r G H', Same H0 G → Dr G H' d n → G r = some (.tup (cutV xs lo none)) → Q (.ref r) H') : tNoPart σ H (fun u H3 => rSlA K (.ref t) lo u H3 Q) := cut_dr dr et k
theorem cat_dr {K : PySem.W.Frag} {H0 H : Hp} {d n : Nat} {a b : Addr} {xs ys : List V} {Q : VK} (dr : Dr H0 H d n) (ea : H0 a = some (.tup xs)) (eb : H0 b = some (.tup ys)) (l : xs.length + ys.length ≤ sizeLine)
    (k : ∀ r G H', Same H0 G → Dr G H' d n → G r = some (.tup (xs ++ ys)) → Q (.ref r) H') : rCatA K (.ref a) (.ref b) H Q := by
  refine ⟨a, b, xs, ys, rfl, rfl, SqT.of (dr.same _ _ ea), SqT.of (dr.same _ _ eb), l, fun h => k b H0 H (Same.refl _) dr ?_, fun _ h => k a H0 H (Same.refl _) dr ?_, fun _ _ p fp => k p _ _ (same_new (dr.same.free fp)) (dr.new _ fp) upd_same⟩
  · rw [h]
    exact eb
  · rw [h, List.append_nil]
    exact ea
section
variable {P : Program} {w : World} {K : PySem.W.Frag} {mg : PySem.Str → Option Value} {base : Heap}
theorem ok_law_bent_step (T : Txt mg K w.params) : FnOk P w K mg base CX0 3 T.f_law_bent_step T.fd_law_bent_step ["m", "good"] spBent := by
  refine T.F_law_bent_step.ok sc_law_bent_step (fun vs H Q E h => ?_) (fun cdv A outer s H vs Q E hr h => ?_)
  · obtain ⟨_, _, _, _, _, _, _, rfl, _⟩ := h
    rfl
  · obtain ⟨d, t, z, i, j, H0, n, rfl, dr, et, tz, q⟩ := h
    refine ⟨_, pss_cons (ps_par (i := 2) (j := 3) (by rfl) sc_law_bent_step.nd rfl rfl (by decide) rfl rfl (pa_cons (pe_call (ok_law_draw T) (hr.mono (by decide)) (by rfl) T.g_law_draw T.F_law_draw.kp (b_law_draw T) .nil pass0 (pa_cons (pv 0) (pa_cons (pe_int) pa_nil))) (pa_cons (pe_call (ok_law_draw T) (hr.mono (by decide)) (by rfl) T.g_law_draw T.F_law_draw.kp (b_law_draw T) .nil pass0 (pa_cons (pv 0) (pa_cons (pe_int) pa_nil))) pa_nil)) (by rfl))
 (pss_cons (ps_if (pt_cmpR op_eq (pv 2) (pe_int) (by first | rfl | exact nomark _)) (pss_one (ps_ret (pe_op op_catA (pe_slice sl_tupA (pv 1) po_none (po_some (pv 3))) (pe_slice sl_tupA (pv 1) (po_some (pe_op op_add (pv 3) (pe_int))) po_none)))) (pss_nil))
 (pss_cons (ps_if (pt_cmpR op_eq (pv 2) (pe_int) (by first | rfl | exact nomark _)) (pss_one (ps_ret (pe_op op_catA (pe_op op_catA (pe_slice sl_tupA (pv 1) po_none (po_some (pv 3))) (pe_tup (pa_cons (pe_ix ix_tup (pv 1) (pe_call (ok_law_draw T) (hr.mono (by decide)) (by rfl) T.g_law_draw T.F_law_draw.kp (b_law_draw T) .nil pass0 (pa_cons (pv 0) (pa_cons (pe_int) pa_nil))) (fun _ _ => rfl)) pa_nil))) (pe_slice sl_tupA (pv 1) (po_some (pv 3)) po_none)))) (pss_nil))
 (pss_cons (ps_if (pt_cmpR op_eq (pv 2) (pe_int) (by first | rfl | exact nomark _)) (pss_one (ps_ret (pe_callTy call_list_of (by rfl) T.n_list (by decide +kernel) (pa_cons (pv 1) pa_nil)))) (pss_nil))
 (pss_cons (ps_set (i := 4) sc_law_bent_step.nd rfl (.inl rfl) (pe_lst (pa_cons (pe_int) (pa_cons (pe_int) (pa_cons (pe_int) (pa_cons (pe_int) (pa_cons (pe_un un_neg (pe_int)) (pa_cons (pe_bl) (pa_cons (pe_bl) (pa_cons (pe_non) (pa_cons (pe_str) (pa_cons (pe_str) (pa_cons (pe_str) (pa_cons (pe_str) (pa_cons (pe_str) (pa_cons (pe_str) (pa_cons (pe_tup (pa_cons (pe_int) pa_nil)) (pa_cons (pe_op op_pow (pe_int) (pe_int)) pa_nil))))))))))))))))))
 (pss_cons (ps_if (pt_cmpR op_lt (pv 2) (pe_int) (by first | rfl | exact nomark _)) (pss_one (ps_ret (pe_op op_catA (pe_op op_catA (pe_slice sl_tupA (pv 1) po_none (po_some (pv 3))) (pe_tup (pa_cons (pe_ix ix_list (pv 4) (pe_call (ok_law_draw T) (hr.mono (by decide)) (by rfl) T.g_law_draw T.F_law_draw.kp (b_law_draw T) .nil pass0 (pa_cons (pv 0) (pa_cons (pe_callB call_len_seq (by rfl) T.n_len (by decide +kernel) (pa_cons (pv 4) pa_nil)) pa_nil))) (fun _ _ => rfl)) pa_nil))) (pe_slice sl_tupA (pv 1) (po_some (pe_op op_add (pv 3) (pe_int))) po_none)))) (pss_nil))
 (pss_one (ps_ret (pe_tup (pa_cons (pe_ix ix_tup (pv 1) (pe_int) (fun _ _ => rfl)) (pa_cons (pe_op op_sub (pe_int) (pe_call (ok_law_draw T) (hr.mono (by decide)) (by rfl) T.g_law_draw T.F_law_draw.kp (b_law_draw T) .nil pass0 (pa_cons (pv 0) (pa_cons (pe_int) pa_nil)))) (pa_cons (pe_op op_sub (pe_int) (pe_call (ok_law_draw T) (hr.mono (by decide)) (by rfl) T.g_law_draw T.F_law_draw.kp (b_law_draw T) .nil pass0 (pa_cons (pv 0) (pa_cons (pe_int) pa_nil)))) pa_nil))))))))))), ?_⟩
    refine ⟨_, rfl, d, 7, H0, n + 3, rfl, by decide, by decide, dr, fun way H1 a0 a1 dr1 => ⟨_, rfl, d, 3, H0, n + 2, rfl, by decide, by decide, dr1, fun sp H2 b0 b1 dr2 => ⟨_, _, rfl, ?_⟩⟩⟩
    have et2 := dr2.same _ _ et
    refine ⟨_, rfl, rfl, _, rfl, ite2 (fun h0 => ?_) (fun h0 => ?_)⟩
    · have s3 : sp = 0 ∨ sp = 1 ∨ sp = 2 := by omega
      refine ⟨_, rfl, _, rfl, _, rfl, cut_dr dr2 et fun r1 G1 H3 m1 dr3 e1 => ?_⟩
      refine ⟨_, rfl, _, rfl, _, _, rfl, rfl, sp + 1, rfl, ?_⟩
      refine cut_drN dr3 (m1 _ _ et) fun r2 G2 H4 m2 dr4 e2 => ?_
      refine cat_dr dr4 (m2 _ _ e1) e2 (by rw [sizeLine_eq]; rcases s3 with rfl | rfl | rfl <;> (simp [cutV, HT.sIx])) fun r3 G3 H5 m3 dr5 e3 => ?_
      refine q _ G3 H5 ((m1.trans m2).trans m3) (dr5.less (by omega)) ⟨_, _, stp_tup e3 ?_⟩
      have l2 : ∀ a b c : V, (cutV [a, b, c] none (some sp) ++ cutV [a, b, c] (some (sp + 1)) none).length = 2 := by
        intro a b c
        rcases s3 with rfl | rfl | rfl <;> rfl
      rw [l2]
      decide
    refine ⟨_, rfl, rfl, _, rfl, ite2 (fun h1 => ?_) (fun h1 => ?_)⟩
    · have s3 : sp = 0 ∨ sp = 1 ∨ sp = 2 := by omega
      refine ⟨_, rfl, _, rfl, _, rfl, cut_dr dr2 et fun r1 G1 H3 m1 dr3 e1 => ?_⟩
      refine ⟨_, rfl, _, rfl, d, 3, G1, n + 1, rfl, by decide, by decide, dr3, fun ix H4 c0 c1 dr4 => ?_⟩
      obtain ⟨v, hv, _, av⟩ := at_in (l := [V.str z, V.int i, V.int j]) c0 c1
      refine ⟨t, _, _, v, rfl, rfl, SqT.of (dr4.same _ _ (m1 _ _ et)), av, by show 1 ≤ sizeLine; decide, fun p2 f2 => ?_⟩
      have f20 := dr4.same.free f2
      refine cat_dr (dr4.new (.tup [v]) f2) (same_new f20 _ _ e1) upd_same (by rw [sizeLine_eq]; rcases s3 with rfl | rfl | rfl <;> (simp [cutV, HT.sIx])) fun r3 G3 H5 m3 dr6 e3 => ?_
      refine ⟨_, rfl, _, rfl, _, rfl, ?_⟩
      refine cut_drN dr6 (m3 _ _ (same_new f20 _ _ (m1 _ _ et))) fun r4 G4 H6 m4 dr7 e4 => ?_
      refine cat_dr dr7 (m4 _ _ e3) e4 (by rw [sizeLine_eq]; rcases s3 with rfl | rfl | rfl <;> (simp [cutV, HT.sIx])) fun r5 G5 H7 m5 dr8 e5 => ?_
      refine q _ G5 H7 (m1.trans ((same_new f20).trans (m3.trans (m4.trans m5)))) (dr8.less (by omega)) ⟨_, _, stp_tup e5 ?_⟩
      have l4 : ∀ a b c v : V, ((cutV [a, b, c] none (some sp) ++ [v]) ++ cutV [a, b, c] (some sp) none).length = 4 := by
        intro a b c v
        rcases s3 with rfl | rfl | rfl <;> rfl
      rw [l4]
      decide
    refine ⟨_, rfl, rfl, _, rfl, ite2 (fun h2 => ?_) (fun h2 => ?_)⟩
    · refine ⟨_, rfl, t, _, rfl, .inr (SqT.of et2), fun l fl => ?_⟩
      exact q _ _ _ (same_new (dr2.same.free fl)) ((dr2.new _ fl).less (by omega)) ⟨_, _, stp_od (.lst upd_same) (by decide)⟩
    refine ⟨_, rfl, by show 1 ≤ sizeLine; decide, fun e fe => ⟨_, _, rfl, rfl, ⟨by decide, by decide, by decide⟩, by show 16 ≤ sizeLine; decide, fun o fo => ?_⟩⟩
    have fe0 := dr2.same.free fe
    have drE := dr2.new (.tup [V.int 1]) fe
    have fo0 := drE.same.free fo
    have drO := drE.new (.lst (oddL e)) fo
    have mE : Same H0 (upd H0 e (.tup [V.int 1])) := same_new fe0
    have mO := mE.trans (same_new (o := .lst (oddL e)) fo0)
    refine ⟨_, rfl, _, _, rfl, rfl, _, rfl, ite2 (fun h6 => ?_) (fun h6 => ?_)⟩
    · have s3 : sp = 0 ∨ sp = 1 ∨ sp = 2 := by omega
      refine ⟨_, rfl, _, rfl, _, rfl, ?_⟩
      refine cut_dr drO (mO _ _ et) fun r1 G1 H3 m1 dr3 e1 => ?_
      have eo : G1 o = some (.lst (oddL e)) := m1 _ _ upd_same
      have ee : G1 e = some (.tup [V.int 1]) := m1 _ _ ((same_new (o := .lst (oddL e)) fo0) _ _ upd_same)
      refine ⟨_, rfl, _, rfl, _, rfl, o, _, rfl, .inl (SqL.of (dr3.same _ _ eo)), d, 16, G1, n + 1, rfl, by decide, by decide, dr3, fun ix H4 c0 c1 dr4 => ?_⟩
      obtain ⟨v, hv, _, av⟩ := at_in (l := oddL e) c0 c1
      refine ⟨o, _, _, v, rfl, rfl, .inl (.inl (dr4.same _ _ eo)), av, by show 1 ≤ sizeLine; decide, fun p2 f2 => ?_⟩
      have f20 := dr4.same.free f2
      refine cat_dr (dr4.new (.tup [v]) f2) (same_new f20 _ _ e1) upd_same (by rw [sizeLine_eq]; rcases s3 with rfl | rfl | rfl <;> (simp [cutV, HT.sIx])) fun r3 G3 H5 m3 dr6 e3 => ?_
      refine ⟨_, rfl, _, rfl, _, _, rfl, rfl, sp + 1, rfl, ?_⟩
      refine cut_drN dr6 (m3 _ _ (same_new f20 _ _ (m1 _ _ (mO _ _ et)))) fun r4 G4 H6 m4 dr7 e4 => ?_
      refine cat_dr dr7 (m4 _ _ e3) e4 (by rw [sizeLine_eq]; rcases s3 with rfl | rfl | rfl <;> (simp [cutV, HT.sIx])) fun r5 G5 H7 m5 dr8 e5 => ?_
      have ov : ∃ tv, Od G5 v tv := by
        have ee5 : G5 e = some (.tup [V.int 1]) := (m3.trans (m4.trans m5)) _ _ (same_new f20 _ _ ee)
        simp only [oddL, List.mem_cons, List.not_mem_nil, or_false] at hv
        rcases hv with rfl | rfl | rfl | rfl | rfl | rfl | rfl | rfl | rfl | rfl | rfl | rfl | rfl | rfl | rfl | rfl
        · exact ⟨_, .int _⟩
        · exact ⟨_, .int _⟩
        · exact ⟨_, .int _⟩
        · exact ⟨_, .int _⟩
        · exact ⟨_, .int _⟩
        · exact ⟨_, .bl _⟩
        · exact ⟨_, .bl _⟩
        · exact ⟨_, .non⟩
        · exact ⟨_, .str ⟨by decide +kernel, by decide +kernel⟩⟩
        · exact ⟨_, .str ⟨by decide +kernel, by decide +kernel⟩⟩
        · exact ⟨_, .str ⟨by decide +kernel, by decide +kernel⟩⟩
        · exact ⟨_, .str ⟨by decide +kernel, by decide +kernel⟩⟩
        · exact ⟨_, .str ⟨by decide +kernel, by decide +kernel⟩⟩
        · exact ⟨_, .str ⟨by decide +kernel, by decide +kernel⟩⟩
        · exact ⟨_, .tup ee5⟩
        · exact ⟨_, .int _⟩
      obtain ⟨tv, ov⟩ := ov
      refine q _ G5 H7 (mO.trans (m1.trans ((same_new f20).trans (m3.trans (m4.trans m5))))) (dr8.less (by omega)) ?_
      rcases s3 with rfl | rfl | rfl
      · exact ⟨_, _, stp_three (u := v) (v := .int i) (w := .int j) e5 ov (.int i) (.int j)⟩
      · exact ⟨_, _, stp_three (u := .str z) (v := v) (w := .int j) e5 (.str tz) ov (.int j)⟩
      · exact ⟨_, _, stp_three (u := .str z) (v := .int i) (w := v) e5 (.str tz) (.int i) ov⟩
    · refine ⟨_, rfl, t, _, 0, .str z, rfl, rfl, SqT.of (drO.same _ _ (mO _ _ et)), atI_nat (j := 0) rfl, ?_⟩
      refine ⟨_, rfl, d, 3, _, n + 1, rfl, by decide, by decide, drO, fun u1 H3 c0 c1 dr3 => ⟨_, _, rfl, rfl, _, rfl, d, 3, _, n, rfl, by decide, by decide, dr3, fun u2 H4 g0 g1 dr4 => ⟨_, _, rfl, rfl, by show 3 ≤ sizeLine; decide, fun p fp => ?_⟩⟩⟩
      exact q _ _ _ (mO.trans (same_new (dr4.same.free fp))) (dr4.new _ fp) ⟨_, _, stp_three upd_same (.str tz) (.int _) (.int _)⟩
end
end K

set_option maxRecDepth 100000
set_option maxHeartbeats 4000000
namespace K
open PySem PySem.Spec PyProof.Rows L2 Gd
local macro_rules | `(tactic| walk_at "mulok") => `(tactic| first | exact Or.inr ⟨by decide, by decide⟩ | exact Or.inl ⟨by decide, by decide⟩ | exact Or.inr ⟨by omega, by omega⟩ | exact Or.inl ⟨by omega, by omega⟩)
local macro_rules | `(tactic| walk_at "st") => `(tactic| first
  | refine ⟨_, rfl, ?_⟩
  | refine ⟨_, _, rfl, rfl, (by walk_at "mulok"), ?_⟩
  | refine ⟨_, _, rfl, rfl, (by show (0 : Int) < _; decide), ?_⟩
  | refine ⟨_, _, rfl, rfl, ⟨by decide, by decide⟩, ?_⟩
  | refine ⟨_, _, rfl, rfl, ?_⟩)
def okT (zs : List PySem.Str) : Bool := zs.all fun z => decide (z.cps.toList.length ≤ 5000) && z.cps.toList.all fun c => decide (c < 1114112)
theorem okT_tx {zs : List PySem.Str} (h : okT zs = true) : ∀ z ∈ zs, Tx 5000 z := fun z hz => by
  have := List.all_eq_true.mp h z hz
  simp only [Bool.and_eq_true, decide_eq_true_eq, List.all_eq_true] at this
  exact this
/-- things that are told of in H0 -/
structure Bld (Hs H0 H : Hp) (d n : Nat) (xs : List V) : Prop where
  dr : Dr H0 H d n
  sm : Same Hs H0
  all : ∀ x ∈ xs, ∃ ty b, Stp H0 x ty b
section
variable {Hs H0 H : Hp} {d n m : Nat} {xs ys : List V} {t : Addr}
theorem Bld.less (B : Bld Hs H0 H d n xs) (e : m ≤ n) : Bld Hs H0 H d m xs := ⟨B.dr.less e, B.sm, B.all⟩
theorem Bld.new (B : Bld Hs H0 H d n xs) (o : HO) (ft : H t = none) : Bld Hs (upd H0 t o) (upd H t o) d n xs :=
  ⟨B.dr.new _ ft, B.sm.trans (same_new (B.dr.same.free ft)), fun x hx => let ⟨ty, b, s⟩ := B.all x hx; ⟨ty, b, s.mono (same_new (B.dr.same.free ft))⟩⟩
theorem Bld.and (B : Bld Hs H0 H d n xs) (C : ∀ x ∈ ys, ∃ ty b, Stp H0 x ty b) : Bld Hs H0 H d n (xs ++ ys) :=
  ⟨B.dr, B.sm, fun x hx => (List.mem_append.mp hx).elim (B.all x) (C x)⟩
theorem Bld.step {G H' : Hp} (B : Bld Hs H0 H d n xs) (s : Same H0 G) (dr : Dr G H' d m) : Bld Hs G H' d m xs := ⟨dr, B.sm.trans s, fun x hx => let ⟨ty, b, st⟩ := B.all x hx; ⟨ty, b, st.mono s⟩⟩
/-- a new tuple among them -/
theorem Bld.tup {vs : List V} {b : Bool} (B : Bld Hs H0 H d n xs) (ft : H t = none) (st : Stp (upd H0 t (.tup vs)) (.ref t) "tuple" b) : Bld Hs (upd H0 t (.tup vs)) (upd H t (.tup vs)) d n (xs ++ [.ref t]) :=
  (B.new _ ft).and fun x hx => by rw [List.mem_singleton.mp hx]; exact ⟨_, _, st⟩
end
theorem strs_stp {H : Hp} {zs : List PySem.Str} (h : ∀ z ∈ zs, Tx 5000 z) : ∀ x ∈ zs.map V.str, ∃ ty b, Stp H x ty b := fun x hx => by
  obtain ⟨z, hz, rfl⟩ := List.mem_map.mp hx
  exact ⟨_, _, stp_od (.str (h z hz)) (by decide)⟩
theorem tabs_put {T : List (Addr × PySem.Str)} {H : Hp} {D : Addr} {l l' : List V} (h : LamX.Tabs T H) (e : H D = some (.lst l)) : LamX.Tabs T (upd H D (.lst l')) := by
  intro p hp
  obtain ⟨ps, e1, tr, k⟩ := h p hp
  have n1 : p.1 ≠ D := fun z => by
    rw [z, e] at e1
    cases e1
  refine ⟨ps, by rw [upd_ne n1]; exact e1, tr, fun pos cv hc => ?_⟩
  obtain ⟨c, e2, e3⟩ := k pos cv hc
  have n2 : c ≠ D := fun z => by
    rw [z, e] at e3
    cases (show HO.lst l = HO.ext _ from Option.some.inj e3)
  exact ⟨c, e2, by rw [upd_ne n2]; exact e3⟩
theorem extN_put {H H' : Hp} {D : Addr} {o : HO} (h : LamX.ExtN H H') (f : H D = none) : LamX.ExtN H (upd H' D o) := fun b u e n => by
  rw [upd_ne (ne_of_none e f)]
  exact h b u e n
def dK (v : V) : PyData := match v with
  | .str z => .str z
  | _ => .none
theorem kd_three (x : V) : kd x = .non ∨ kd x = .str "hand" ∨ kd x = .str "press" := by
  cases x with
  | str z =>
    rw [kd_in]
    by_cases h : inV (.str z) kinds = true
    · rw [if_pos h]
      by_cases g : z = "press"
      · rw [if_pos g]; exact .inr (.inr rfl)
      · rw [if_neg g]; exact .inr (.inl rfl)
    · rw [if_neg h]; exact .inl rfl
  | _ => exact .inl rfl
theorem shw_K (x : V) : Shw (.list [dK (kd x), dK (kd x)]) := by
  rcases kd_three x with e | e | e <;> rw [e] <;> exact shw_of (by decide +kernel) (by decide +kernel) (by decide +kernel) (by decide +kernel) (by decide +kernel)
theorem dp_K {K : PySem.W.Frag} {H : Hp} {x : V} {p : Addr} (h : H p = some (.lst [kd x, kd x])) : Dp K H (.ref p) (.list [dK (kd x), dK (kd x)]) := by
  have one : Dp K H (kd x) (dK (kd x)) := by
    rcases kd_three x with e | e | e <;> rw [e]
    · exact .non
    · exact .str _
    · exact .str _
  exact .lst (SqL.of h) (.cons one (.cons one .nil))
structure Thi (Hs H : Hp) (d : Addr) (n : Nat) (p : Addr) (N : Nat) : Prop where
  ex : ∃ (H0 : Hp) (xs : List V), Bld Hs H0 H d n xs ∧ H0 p = some (.lst xs) ∧ xs.length ≤ N
structure SomS (Hs H : Hp) (d : Addr) (n : Nat) (p : Addr) (N : Nat) : Prop where
  ex : ∃ (H0 : Hp) (zs : List PySem.Str), Dr H0 H d n ∧ Same Hs H0 ∧ H0 p = some (.lst (zs.map V.str)) ∧ (∀ z ∈ zs, Tx 5000 z) ∧ zs.length ≤ N
theorem SomS.add {Hs H0 H : Hp} {d n p' N M : Nat} {zs ys : List PySem.Str} (dr : Dr H0 H d n) (sm : Same Hs H0) (tz : ∀ z ∈ zs, Tx 5000 z) (ty : ∀ y ∈ ys, Tx 5000 y) (lz : zs.length ≤ N) (ly : ys.length ≤ M) (fp : H p' = none) :
    SomS Hs (upd H p' (.lst (zs.map V.str ++ ys.map V.str))) d n p' (N + M) := by
  refine ⟨_, zs ++ ys, dr.new (.lst (zs.map V.str ++ ys.map V.str)) fp, sm.trans (same_new (dr.same.free fp)), by rw [upd_same, List.map_append], fun z hz => (List.mem_append.mp hz).elim (tz z) (ty z), ?_⟩
  rw [List.length_append]
  omega
theorem room {zs : List PySem.Str} {N M k : Nat} (lz : zs.length ≤ N) (e : N + k ≤ 1000000) (h : M = k) : (zs.map V.str).length + M ≤ sizeLine := by
  rw [List.length_map, sizeLine_eq, h]
  omega
def spLaw (K : PySem.W.Frag) (pT : Addr) : Sp := fun vs H Q _ => ∃ (a : Addr) (ns : List Int), vs = [.ref a] ∧ SqL K H a (ns.map V.int) ∧ ns.length ≤ 63 ∧ LamX.Tabs [(pT, qR)] H ∧ ∀ H', Q (.bl true) H'
section
variable {P : Program} {w : World} {K : PySem.W.Frag} {mg : PySem.Str → Option Value} {base : Heap}
theorem ok_law (T : Txt mg K w.params) (tbT : LamX.TabB base mg T.cT_law_right T.pT_law_right) : FnG P w K mg base 9 T.f_law T.fd_law ["script"] (spLaw K T.pT_law_right) := by
  refine fn_okG T.F_law sc_law (fun vs H Q E h => ?_) (fun cdv A out s H vs Q E hA hr h => ?_)
  · obtain ⟨_, _, rfl, _⟩ := h
    rfl
  · obtain ⟨a, ns, rfl, hS, l63, tabs, q⟩ := h
    refine ⟨_, pss_cons (ps_set (i := 1) sc_law.nd rfl (.inr rfl) (pe_call (ok_law_begun T) (hr.mono (by decide)) (by rfl) T.g_law_begun T.F_law_begun.kp (b_law_begun T) .nil pass0 (pa_cons (pv 0) pa_nil)))
 (pss_cons (ps_set (i := 2) sc_law.nd rfl (.inl rfl) (pe_lst (pa_cons (pe_str) (pa_cons (pe_str) (pa_cons (pe_str) (pa_cons (pe_str) (pa_cons (pe_str) (pa_cons (pe_str) (pa_cons (pe_str) (pa_cons (pe_str) (pa_cons (pe_str) (pa_cons (pe_str) (pa_cons (pe_str) (pa_cons (pe_str) (pa_cons (pe_str) pa_nil)))))))))))))))
 (pss_cons (ps_set (i := 2) sc_law.nd rfl (.inl rfl) (pe_op op_cat (pe_op op_cat (pv 2) (pe_call (ok_law_called T) (hr.mono (by decide)) (by rfl) T.g_law_called T.F_law_called.kp (b_law_called T) .nil pass0 (pa_cons (pv 1) (pa_cons (pe_int) pa_nil)))) (pe_lc (own := [("bout", 5)]) (g := gName 5) (tt := tYes) (by rfl) sc_law.nd (pi_range1 (by rfl) T.n_range (pa_cons (pe_int) pa_nil)) (blkOk_by (own := [("bout", 5)]) (N := ["script", "m", "some", "odd", "odds", "bout", "good"]) (sc := defScope s_law) (by decide +kernel)) (fun _ _ _ _ _ => pg_name (i := 5) sc_law.nd rfl (Or.inl rfl)) (fun _ _ _ _ _ => pts_nil) (fun _ _ _ _ _ => pe_call (ok_law_signed T) (hr.mono (by decide)) (by rfl) T.g_law_signed T.F_law_signed.kp (b_law_signed T) .nil pass0 (pa_cons (pv 1) (pa_cons (pe_str) pa_nil))))))
 (pss_cons (ps_for PassesOwn.never rfl (pi_list (pe_op op_cat (pe_op op_cat (pv 2) (pe_lst (pa_cons (pe_int) (pa_cons (pe_tup (pa_cons (pe_str) pa_nil)) (pa_cons (pe_lst (pa_cons (pe_str) pa_nil)) (pa_cons (pe_disp (pps_cons (pe_str) (pe_int) (pps_nil)) (by rfl) (by rfl) (fun z => by cases z) (by decide)) (pa_cons (pe_bl) pa_nil))))))) (pe_call0 (ok_law_far T) (hr.mono (by decide)) (by rfl) T.g_law_far T.F_law_far.kp (b_law_far T) .nil pass0))) (pg_name (i := 3) sc_law.nd rfl (.inl rfl)) (pss_one (ps_if (pt_cmpR op_ne (pe_callB (call_repr hA hr.units) (by rfl) T.n_repr (by decide +kernel) (pa_cons (pe_lst (pa_cons (pe_call (ok_kind_of T) (hr.mono (by decide)) (by rfl) T.g_kind_of T.F_kind_of.kp (b_kind_of T) .nil pass0 (pa_cons (pv 3) pa_nil)) (pa_cons (pe_callK0 (ok_kind_of T) (hr.mono (by decide)) (by rfl) T.g_kind_of T.F_kind_of.kp (kb_kind_of_0_work T) pass0 (pk_cons (pv 3) (pk_nil))) pa_nil))) pa_nil)) (pe_callB (call_repr hA hr.units) (by rfl) T.n_repr (by decide +kernel) (pa_cons (pe_op op_rep (pe_lst (pa_cons (pe_call (ok_law_kind T) (hr.mono (by decide)) (by rfl) T.g_law_kind T.F_law_kind.kp (b_law_kind T) .nil pass0 (pa_cons (pv 3) pa_nil)) pa_nil)) (pe_int)) pa_nil)) (by first | rfl | exact nomark _)) (pss_one (ps_ret (pe_bl))) (pss_nil))))
 (pss_cons (ps_set (i := 4) sc_law.nd rfl (.inl rfl) (pe_lst (pa_cons (pe_tup (pa_cons (pe_str) (pa_cons (pe_int) (pa_cons (pe_int) pa_nil)))) (pa_cons (pe_tup (pa_cons (pe_str) (pa_cons (pe_int) (pa_cons (pe_int) pa_nil)))) (pa_cons (pe_tup (pa_cons (pe_str) (pa_cons (pe_int) (pa_cons (pe_int) pa_nil)))) (pa_cons (pe_tup (pa_cons (pe_str) (pa_cons (pe_int) (pa_cons (pe_int) pa_nil)))) (pa_cons (pe_tup (pa_cons (pe_str) (pa_cons (pe_int) (pa_cons (pe_int) pa_nil)))) (pa_cons (pe_tup (pa_cons (pe_str) (pa_cons (pe_int) (pa_cons (pe_un un_neg (pe_int)) pa_nil)))) pa_nil))))))))
 (pss_cons (ps_set (i := 4) sc_law.nd rfl (.inl rfl) (pe_op op_cat (pv 4) (pe_lst (pa_cons (pe_tup (pa_nil)) (pa_cons (pe_tup (pa_cons (pe_int) (pa_cons (pe_int) (pa_cons (pe_int) pa_nil)))) (pa_cons (pe_tup (pa_cons (pe_str) (pa_cons (pe_bl) (pa_cons (pe_int) pa_nil)))) (pa_cons (pe_tup (pa_cons (pe_str) (pa_cons (pe_int) (pa_cons (pe_bl) pa_nil)))) (pa_cons (pe_tup (pa_cons (pe_str) (pa_cons (pe_int) pa_nil))) (pa_cons (pe_tup (pa_cons (pe_str) (pa_cons (pe_int) (pa_cons (pe_int) (pa_cons (pe_int) pa_nil))))) (pa_cons (pe_str) pa_nil))))))))))
 (pss_cons (ps_for PassesOwn.never rfl (pi_range1 (by rfl) T.n_range (pa_cons (pe_int) pa_nil)) (pg_name (i := 5) sc_law.nd rfl (.inl rfl)) (pss_cons (ps_set (i := 6) sc_law.nd rfl (.inl rfl) (pe_call (ok_law_step T) (hr.mono (by decide)) (by rfl) T.g_law_step T.F_law_step.kp (b_law_step T) .nil pass0 (pa_cons (pv 1) pa_nil)))
 (pss_one (ps_set (i := 4) sc_law.nd rfl (.inl rfl) (pe_op op_cat (pv 4) (pe_lst (pa_cons (pv 6) (pa_cons (pe_call (ok_law_bent_step T) (hr.mono (by decide)) (by rfl) T.g_law_bent_step T.F_law_bent_step.kp (b_law_bent_step T) .nil pass0 (pa_cons (pv 1) (pa_cons (pv 6) pa_nil))) pa_nil))))))))
 (pss_one (ps_ret (pe_callB (cr_all rfl) (by rfl) T.n_all (by decide +kernel) (pa_cons (pe_lc (own := [("odd", 3)]) (g := gName 3) (tt := tYes) (by rfl) sc_law.nd (pi_list (pe_op op_cat (pv 4) (pe_call0 (ok_law_far T) (hr.mono (by decide)) (by rfl) T.g_law_far T.F_law_far.kp (b_law_far T) .nil pass0))) (blkOk_by (own := [("odd", 3)]) (N := ["script", "m", "some", "odd", "odds", "bout", "good"]) (sc := defScope s_law) (by decide +kernel)) (fun _ _ _ _ _ => pg_name (i := 3) sc_law.nd rfl (Or.inl rfl)) (fun _ _ _ _ _ => pts_nil) (fun _ _ _ _ _ => pe_callG (E := E0) (ok_law_right T tbT) hA (hr.mono (by decide)) (by rfl) T.g_law_right T.F_law_right.kp (b_law_right T) .nil (pa_cons (pv 3) pa_nil))) pa_nil)))))))))), ?_⟩
    -- m, some
    refine ⟨_, rfl, a, ns, rfl, hS, l63, fun d H1 dr => ?_⟩
    refine ⟨by show 13 ≤ sizeLine; decide, fun p fp => ?_⟩
    have S : SomS H _ d 1000000 p 13 := ⟨_, ["sew", "glue", "cover", "letter", "press", "hand", "Press", "sewn", "", " press", "press ", "style", "se"], dr.new _ fp, same_new (dr.same.free fp), upd_same, okT_tx (by decide +kernel), by decide +kernel⟩
    clear dr
    obtain ⟨H0, zs, dr, sm, hp, tz, lz⟩ := S.ex
    refine ⟨_, rfl, _, rfl, d, 4, H0, 999900, rfl, by decide, dr.less (by decide), fun e zs2 H2 fe l2 t2 dr2 => ?_⟩
    refine ⟨p, e, _, _, rfl, rfl, dr2.same _ _ (same_new fe _ _ hp), dr2.told, room lz (k := 4) (by decide) (by rw [List.length_map, l2]), fun p3 fp3 => ?_⟩
    have S : SomS H _ d 999900 p3 17 := SomS.add (M := 4) (dr2.drop fe) sm tz (fun z hz => (t2 z hz).mono (by decide)) lz (by omega) fp3
    clear dr sm hp tz lz dr2
    -- + four with signs
    obtain ⟨H0, zs, dr, sm, hp, tz, lz⟩ := S.ex
    refine ⟨4, rfl, by decide, by decide, fun D fD => lc_range (lo := 0) (n := 4) (fun i H2 => ∃ ys : List PySem.Str, Dr (upd H0 D (.lst (ys.map V.str))) H2 d (999000 + 3 * (4 - i)) ∧ ys.length = i ∧ ∀ y ∈ ys, Tx 5000 y) ⟨[], (dr.new _ fD).less (by decide), rfl, fun y hy => absurd hy List.not_mem_nil⟩ ?_ ?_⟩
    · rintro i H2 lt ⟨ys, dri, li, ti⟩
      refine ⟨rfl, _, rfl, d, _, _, 999000 + 3 * (4 - (i + 1)), rfl, ⟨by decide +kernel, by decide +kernel⟩, dri.less (by omega), fun y H4 yt dr4 => ?_⟩
      refine ⟨_, dr4.told, small1000 (by rw [List.length_map]; omega), ys ++ [y], ?_, by rw [List.length_append, li]; rfl, fun u hu => ?_⟩
      · rw [List.map_append, List.map_cons, List.map_nil]
        have d9 := dr4.put (.lst (ys.map V.str ++ [.str y])) (.inr ⟨_, upd_same⟩)
        rw [upd_upd] at d9
        exact d9
      · rcases List.mem_append.mp hu with g | g
        · exact ti u g
        · rw [List.mem_singleton.mp g]
          exact yt.mono (by decide)
    rintro H2 ⟨ys, dr2, ly, ty⟩
    have fD0 : H0 D = none := dr.same.free fD
    refine ⟨p3, D, _, _, rfl, rfl, dr2.same _ _ (same_new fD0 _ _ hp), dr2.told, room lz (k := 4) (by decide) (by rw [List.length_map, ly]), fun p4 fp4 => ?_⟩
    have S : SomS H _ d 999000 p4 21 := SomS.add (M := 4) ((dr2.drop fD0).less (by decide)) sm tz ty lz (by omega) fp4
    clear dr sm hp tz lz dr2
    -- things whose kind is asked
    obtain ⟨H0, zs, dr, sm, hp, tz, lz⟩ := S.ex
    refine ⟨_, rfl, by show 1 ≤ sizeLine; decide, fun t1 f1 => ⟨by show 1 ≤ sizeLine; decide, fun l1 g1 => fun d1 g2 => ⟨upd_same, [(Sum.inr "press", V.int 1)], rfl, by decide, by show 5 ≤ sizeLine; decide, fun e fe => ?_⟩⟩⟩
    have c0 := same_new (o := .tup [V.str "press"]) f1
    have c1 := same_new (o := .lst [V.str "press"]) g1
    have c2 := same_put (o := .dK (mergeK [] [(Sum.inr "press", V.int 1)])) (same_new (o := .dK []) g2) g2
    have c3 := same_new (o := .lst [V.int 0, V.ref t1, V.ref l1, V.ref d1, V.bl false]) fe
    have c03 := ((c0.trans c1).trans c2).trans c3
    refine ⟨p4, e, _, _, rfl, rfl, c03 _ _ (dr.same _ _ hp), upd_same, room lz (k := 5) (by decide) rfl, fun p5 fp5 => ?_⟩
    have c5 := same_new (o := .lst (zs.map V.str ++ [V.int 0, V.ref t1, V.ref l1, V.ref d1, V.bl false])) fp5
    refine ⟨rfl, fun pf fs H' sf ff ef lf of => ?_⟩
    refine ⟨p5, pf, _, _, rfl, rfl, sf _ _ upd_same, ef, ?_, fun p6 fp6 => ?_⟩
    · have := room lz (N := 21) (k := 25) (M := 25) (by decide) rfl
      rw [List.length_append]
      show (zs.map V.str).length + 5 + fs.length ≤ sizeLine
      omega
    obtain ⟨xs, ex⟩ : ∃ xs : List V, xs = zs.map V.str ++ [V.int 0, V.ref t1, V.ref l1, V.ref d1, V.bl false] ++ fs := ⟨_, rfl⟩
    have c6 := same_new (o := .lst xs) fp6
    have odd : ∀ x ∈ xs, ∃ ty, Od (upd H' p6 (.lst xs)) x ty := by
      intro x hx
      rw [ex] at hx
      rcases List.mem_append.mp hx with hx | hx
      · rcases List.mem_append.mp hx with hx | hx
        · obtain ⟨z, hz, rfl⟩ := List.mem_map.mp hx
          exact ⟨_, .str (tz z hz)⟩
        · have up := ((c3.trans c5).trans sf).trans c6
          simp only [List.mem_cons, List.not_mem_nil, or_false] at hx
          rcases hx with rfl | rfl | rfl | rfl | rfl
          · exact ⟨_, .int _⟩
          · exact ⟨_, (Od.tup upd_same).mono ((c1.trans c2).trans up)⟩
          · exact ⟨_, (Od.lst upd_same).mono (c2.trans up)⟩
          · exact ⟨_, (Od.dK upd_same).mono up⟩
          · exact ⟨_, .bl _⟩
      · obtain ⟨ty, o⟩ := of x hx
        exact ⟨ty, o.od.mono c6⟩
    have dr6 := dr.keep (((c03.trans c5).trans sf).trans c6)
    rw [ex] at odd dr6 c6
    refine ⟨p6, rfl, ⟨_, SqL.of upd_same⟩, for_list (K := K) (a := p6) (xs := zs.map V.str ++ [V.int 0, V.ref t1, V.ref l1, V.ref d1, V.bl false] ++ fs) (fun i σ H3 => ∃ v3 : Option V, σ = [some (.ref a), some (.ref d), some (.ref p4), v3, none, none, none] ∧ Same (upd H' p6 (.lst (zs.map V.str ++ [V.int 0, V.ref t1, V.ref l1, V.ref d1, V.bl false] ++ fs))) H3) ⟨none, rfl, Same.refl _⟩ (fun i σ H3 _ ⟨_, _, s3⟩ => SqL.of (s3 _ _ upd_same)) ?_ ?_⟩
    · rintro i x σ H3 hx ⟨v3, rfl, s3⟩
      obtain ⟨ty, o⟩ := odd x (List.mem_of_getElem? hx)
      refine ⟨_, rfl, x, ty, rfl, o.mono s3, fun H4 s4 => ⟨_, rfl, x, ty, rfl, o.mono (s3.trans s4), fun H5 s5 => ⟨by show 2 ≤ sizeLine; decide, fun l f => ⟨_, _, rfl, dp_K upd_same, shw_K x, ?_⟩⟩⟩⟩
      have s6 := ((s3.trans s4).trans s5).trans (same_new (o := .lst [kd x, kd x]) f)
      refine ⟨_, rfl, x, ty, rfl, o.mono s6, fun H7 s7 => ⟨by show 1 ≤ sizeLine; decide, fun l2 f2 => ⟨l2, 2, [kd x], rfl, rfl, upd_same, by decide, by decide, by show 1 * 2 ≤ sizeLine; decide, fun l3 f3 => ⟨_, _, rfl, dp_K upd_same, shw_K x, rfl, _, rfl, iteNS (by simp) ?_⟩⟩⟩⟩
      exact ⟨_, rfl, ((s6.trans s7).trans (same_new f2)).trans (same_new f3)⟩
    · rintro σ H3 ⟨v3, rfl, s3⟩
      have dr3 := dr6.keep s3
      clear dr6 dr odd c6 sf c5 c03 c3 c2 c1 c0
      have xS : Tx 5000 "sew" := ⟨by decide +kernel, by decide +kernel⟩
      have xP : Tx 5000 "press" := ⟨by decide +kernel, by decide +kernel⟩
      have B0 : Bld H H0 H3 d 999000 [] := ⟨dr3, sm, fun x hx => absurd hx List.not_mem_nil⟩
      refine ⟨by show 3 ≤ sizeLine; decide, fun t1 f1 => ⟨by show 3 ≤ sizeLine; decide, fun t2 f2 => ⟨by show 3 ≤ sizeLine; decide, fun t3 f3 => ⟨by show 3 ≤ sizeLine; decide, fun t4 f4 => ⟨by show 3 ≤ sizeLine; decide, fun t5 f5 => ⟨_, rfl, by show 3 ≤ sizeLine; decide, fun t6 f6 => ⟨by show 6 ≤ sizeLine; decide, fun p7 f7 => ?_⟩⟩⟩⟩⟩⟩⟩
      have B6 := (((((B0.tup f1 (stp_three upd_same (.str xS) (.int 1) (.int 0))).tup f2 (stp_three upd_same (.str xP) (.int 240) (.int 240))).tup f3 (stp_three upd_same (.str xP) (.int 241) (.int 0))).tup f4 (stp_three upd_same (.str xS) (.int 0) (.int 0))).tup f5 (stp_three upd_same (.str xS) (.int 1) (.int 241))).tup f6 (stp_three upd_same (.str xS) (.int 1) (.int (-1)))
      have S : Thi H _ d 999000 p7 6 := ⟨_, _, B6.new (.lst [V.ref t1, V.ref t2, V.ref t3, V.ref t4, V.ref t5, V.ref t6]) f7, upd_same, by simp⟩
      clear B6 B0 dr3 sm
      obtain ⟨H0, xs, B, hp, lx⟩ := S.ex
      refine ⟨_, rfl, by show 0 ≤ sizeLine; decide, fun u1 g1 => ⟨by show 3 ≤ sizeLine; decide, fun u2 g2 => ⟨by show 3 ≤ sizeLine; decide, fun u3 g3 => ⟨by show 3 ≤ sizeLine; decide, fun u4 g4 => ⟨by show 2 ≤ sizeLine; decide, fun u5 g5 => ⟨by show 4 ≤ sizeLine; decide, fun u6 g6 => ⟨by show 7 ≤ sizeLine; decide, fun l fl => ?_⟩⟩⟩⟩⟩⟩⟩
      have B6 := (((((B.tup g1 (stp_tup upd_same (by decide))).tup g2 (stp_three upd_same (.int 1) (.int 2) (.int 3))).tup g3 (stp_three upd_same (.str xS) (.bl true) (.int 0))).tup g4 (stp_three upd_same (.str xS) (.int 1) (.bl false))).tup g5 (stp_tup (xs := [.str "sew", .int 1]) upd_same (by simp))).tup g6 (stp_tup (xs := [.str "sew", .int 1, .int 0, .int 0]) upd_same (by simp))
      have B7 := (B6.and (ys := [.str "sew 1 0"]) fun x hx => by rw [List.mem_singleton.mp hx]; exact ⟨_, _, stp_od (.str ⟨by decide +kernel, by decide +kernel⟩) (by decide)⟩).new (.lst [V.ref u1, V.ref u2, V.ref u3, V.ref u4, V.ref u5, V.ref u6, V.str "sew 1 0"]) fl
      have hp' := ((((((same_new (o := .tup []) g1).trans (same_new (o := .tup [.int 1, .int 2, .int 3]) g2)).trans (same_new (o := .tup [.str "sew", .bl true, .int 0]) g3)).trans (same_new (o := .tup [.str "sew", .int 1, .bl false]) g4)).trans (same_new (o := .tup [.str "sew", .int 1]) g5)).trans (same_new (o := .tup [.str "sew", .int 1, .int 0, .int 0]) g6)).trans (same_new (o := .lst [V.ref u1, V.ref u2, V.ref u3, V.ref u4, V.ref u5, V.ref u6, V.str "sew 1 0"]) fl)
      have el := hp' _ _ (B.dr.same _ _ hp)
      refine ⟨p7, l, _, _, rfl, rfl, el, upd_same, ?_, fun p8 f8 => ?_⟩
      · rw [sizeLine_eq]
        simp
        omega
      have S : Thi H _ d 999000 p8 13 := ⟨_, _, B7.new (.lst (xs ++ [V.ref u1, V.ref u2, V.ref u3, V.ref u4, V.ref u5, V.ref u6, V.str "sew 1 0"])) f8, by rw [upd_same]; simp, by simp; omega⟩
      clear B6 B7 B hp hp' el lx
      -- twenty-five bouts
      refine ⟨25, rfl, by decide, by decide, for_range (lo := 0) (n := 25) (fun i σ H4 => ∃ (v5 v6 : Option V) (p : Addr), σ = [some (.ref a), some (.ref d), some (.ref p4), v3, some (.ref p), v5, v6] ∧ Thi H H4 d (998000 + 20 * (25 - i)) p (13 + 2 * i)) ⟨none, none, p8, rfl, ?_⟩ ?_ ?_⟩
      · obtain ⟨H0, xs, B, hp, lx⟩ := S.ex
        exact ⟨H0, xs, B.less (by decide), hp, lx⟩
      · rintro i σ H4 lt ⟨v5, v6, p, rfl, S⟩
        obtain ⟨H0, xs, B, hp, lx⟩ := S.ex
        refine ⟨_, rfl, d, H0, 998000 + 20 * (25 - (i + 1)) + 11, rfl, B.dr.less (by omega), fun t z i1 j1 H5 f0 dr5 tz5 => ?_⟩
        refine ⟨_, rfl, _, rfl, _, rfl, _, rfl, d, t, z, i1, j1, _, 998000 + 20 * (25 - (i + 1)) + 7, rfl, dr5, upd_same, tz5, fun x G H6 sG drG hx => ⟨by show 2 ≤ sizeLine; decide, fun l fl => ?_⟩⟩
        have s0G := (same_new (o := .tup [.str z, .int i1, .int j1]) f0).trans sG
        have st : Stp G (.ref t) "tuple" (stp [.str z, .int i1, .int j1]) := stp_three (sG _ _ upd_same) (.str tz5) (.int _) (.int _)
        have BG : Bld H G H6 d (998000 + 20 * (25 - (i + 1)) + 7) (xs ++ [.ref t, x]) := (B.step s0G drG).and fun y hy => by
          rcases List.mem_cons.mp hy with rfl | hy
          · exact ⟨_, _, st⟩
          · rw [List.mem_singleton.mp hy]
            exact hx
        have BL := BG.new (.lst [.ref t, x]) fl
        refine ⟨p, l, _, _, rfl, rfl, BL.dr.same _ _ ((same_new (drG.same.free fl)) _ _ (s0G _ _ hp)), upd_same, ?_, fun p9 f9 => ?_⟩
        · rw [sizeLine_eq]
          simp
          omega
        refine ⟨_, _, p9, rfl, _, _, (BL.new (.lst (xs ++ [.ref t, x])) f9).less (by omega), upd_same, ?_⟩
        simp
        omega
      · rintro σ H4 ⟨v5, v6, p, rfl, S⟩
        obtain ⟨H0, xs, B, hp, lx⟩ := S.ex
        refine ⟨_, rfl, rfl, fun pf fs H' sf ff ef lf of => ⟨p, pf, _, _, rfl, rfl, sf _ _ (B.dr.same _ _ hp), ef, ?_, fun p9 f9 => ?_⟩⟩
        · rw [sizeLine_eq]
          omega
        have tc : LamX.Tabs [(T.pT_law_right, qR)] (upd H' p9 (.lst (xs ++ fs))) := tabs.ext (((B.sm.trans B.dr.same).trans sf).trans (same_new f9))
        have things : ∀ x ∈ xs ++ fs, ∃ ty b, Stp (upd H' p9 (.lst (xs ++ fs))) x ty b := fun x hx => by
          rcases List.mem_append.mp hx with hx | hx
          · obtain ⟨ty, b, st⟩ := B.all x hx
            exact ⟨ty, b, st.mono ((B.dr.same.trans sf).trans (same_new f9))⟩
          · obtain ⟨ty, st⟩ := of x hx
            exact ⟨ty, _, st.mono (same_new f9)⟩
        have ln : (xs ++ fs).length ≤ 100 := by
          rw [List.length_append]
          omega
        refine ⟨p9, rfl, ⟨_, SqL.of upd_same⟩, fun D fD => lc_list (K := K) (xs := xs ++ fs) (fun i H1 => LamX.ExtN (upd H' p9 (.lst (xs ++ fs))) H1 ∧ LamX.Tabs [(T.pT_law_right, qR)] H1 ∧ H1 D = some (.lst ((List.replicate i true).map V.bl))) ⟨.of (same_new fD), tc.ext (same_new fD), upd_same⟩ (fun i H1 _ h => SqL.of (h.1 _ _ upd_same fun ps z => by cases z)) ?_ ?_⟩
        · rintro i x H1 hx ⟨ex, tb, eD⟩
          obtain ⟨ty, b, st⟩ := things x (List.mem_of_getElem? hx)
          have il : i < (xs ++ fs).length := (List.getElem?_eq_some_iff.mp hx).1
          refine ⟨rfl, _, rfl, x, ty, b, rfl, st.monoN ex, tb, fun H2 n2 t2 => ?_⟩
          have eD2 := n2 _ _ eD fun ps z => by cases z
          refine ⟨_, eD2, small1000 (by simp; omega), extN_put (ex.trans n2) fD, tabs_put t2 eD2, ?_⟩
          rw [upd_same, show List.replicate (i + 1) true = List.replicate i true ++ [true] from List.replicate_succ', List.map_append]
          rfl
        · rintro H1 ⟨ex, tb, eD⟩
          refine ⟨D, _, rfl, .inl (.inl eD), ?_⟩
          have e : (List.replicate (xs ++ fs).length true).all id = true := by simp
          show Q (.bl ((List.replicate (xs ++ fs).length true).all id)) H1
          rw [e]
          exact q H1
end
end K

set_option maxRecDepth 100000
set_option maxHeartbeats 4000000
namespace K
open PySem PySem.Spec PyProof.Rows L2 Gd
def txt_mk {K : PySem.W.Frag} {h : Heap} {mg : PySem.Str → Option Value} {prm : Params} (X : K.In h) (G : h.Ns mainGlobals mg)
    {C_BadValue : Addr}
    {C_BadText : Addr}
    {C_NoSuch : Addr}
    {C_TooMany : Addr}
    {C_Style : Addr}
    {t_MOST_LETTERS : Tok}
    {t_MOST_STEP_HOURS : Tok}
    {a_NO_NAMES : Addr} {t_NO_NAMES_0 t_NO_NAMES_1 t_NO_NAMES_2 t_NO_NAMES_3 t_NO_NAMES_4 t_NO_NAMES_5 t_NO_NAMES_6 t_NO_NAMES_7 t_NO_NAMES_8 t_NO_NAMES_9 : Tok} {dd_NO_NAMES : Option Addr} {nn_NO_NAMES : Nat} {sl_NO_NAMES : Array (Option Value)}
    {a_KIND_OF_WORK : Addr} {tk_KIND_OF_WORK_0 tk_KIND_OF_WORK_1 tk_KIND_OF_WORK_2 tk_KIND_OF_WORK_3 tk_KIND_OF_WORK_4 tv_KIND_OF_WORK_0 tv_KIND_OF_WORK_1 tv_KIND_OF_WORK_2 tv_KIND_OF_WORK_3 tv_KIND_OF_WORK_4 : Tok} {nn_KIND_OF_WORK : Nat}
    {t_MOST_STEPS : Tok}
    {f_is_whole : Addr} {od_is_whole an_is_whole : Option Addr} {sl_is_whole : Array (Option Value)} {oc_is_whole kV_is_whole dc_is_whole pm_is_whole cd_is_whole ct_is_whole : Value}
    {D_is_whole : Addr} {u_is_whole_0 : Tok} {dd_is_whole : Option Addr} {nn_is_whole : Nat} {sd_is_whole : Array (Option Value)} {oc2_is_whole : Value}
    {f_is_name : Addr} {od_is_name an_is_name : Option Addr} {sl_is_name : Array (Option Value)} {oc_is_name kV_is_name dc_is_name pm_is_name cd_is_name ct_is_name : Value}
    {f_is_step : Addr} {od_is_step an_is_step : Option Addr} {sl_is_step : Array (Option Value)} {oc_is_step kV_is_step dc_is_step pm_is_step cd_is_step ct_is_step : Value}
    {f_kind_of : Addr} {od_kind_of an_kind_of : Option Addr} {sl_kind_of : Array (Option Value)} {oc_kind_of kV_kind_of dc_kind_of pm_kind_of cd_kind_of ct_kind_of : Value}
    {f_BadValue_init : Addr} {od_BadValue_init an_BadValue_init : Option Addr} {sl_BadValue_init : Array (Option Value)} {oc_BadValue_init kV_BadValue_init dc_BadValue_init pm_BadValue_init cd_BadValue_init ct_BadValue_init : Value}
    {f_are_steps : Addr} {od_are_steps an_are_steps : Option Addr} {sl_are_steps : Array (Option Value)} {oc_are_steps kV_are_steps dc_are_steps pm_are_steps cd_are_steps ct_are_steps : Value}
    {f_Style_init : Addr} {od_Style_init an_Style_init : Option Addr} {sl_Style_init : Array (Option Value)} {oc_Style_init kV_Style_init dc_Style_init pm_Style_init cd_Style_init ct_Style_init : Value}
    {f_Style_step : Addr} {od_Style_step an_Style_step : Option Addr} {sl_Style_step : Array (Option Value)} {oc_Style_step kV_Style_step dc_Style_step pm_Style_step cd_Style_step ct_Style_step : Value}
    {f_Style_len : Addr} {od_Style_len an_Style_len : Option Addr} {sl_Style_len : Array (Option Value)} {oc_Style_len kV_Style_len dc_Style_len pm_Style_len cd_Style_len ct_Style_len : Value}
    {f_law_mixed : Addr} {od_law_mixed an_law_mixed : Option Addr} {sl_law_mixed : Array (Option Value)} {oc_law_mixed kV_law_mixed dc_law_mixed pm_law_mixed cd_law_mixed ct_law_mixed : Value}
    {f_law_folded : Addr} {od_law_folded an_law_folded : Option Addr} {sl_law_folded : Array (Option Value)} {oc_law_folded kV_law_folded dc_law_folded pm_law_folded cd_law_folded ct_law_folded : Value}
    {f_law_draw : Addr} {od_law_draw an_law_draw : Option Addr} {sl_law_draw : Array (Option Value)} {oc_law_draw kV_law_draw dc_law_draw pm_law_draw cd_law_draw ct_law_draw : Value}
    {f_law_begun : Addr} {od_law_begun an_law_begun : Option Addr} {sl_law_begun : Array (Option Value)} {oc_law_begun kV_law_begun dc_law_begun pm_law_begun cd_law_begun ct_law_begun : Value}
    {f_law_called : Addr} {od_law_called an_law_called : Option Addr} {sl_law_called : Array (Option Value)} {oc_law_called kV_law_called dc_law_called pm_law_called cd_law_called ct_law_called : Value}
    {f_law_step : Addr} {od_law_step an_law_step : Option Addr} {sl_law_step : Array (Option Value)} {oc_law_step kV_law_step dc_law_step pm_law_step cd_law_step ct_law_step : Value}
    {f_law_class : Addr} {od_law_class an_law_class : Option Addr} {sl_law_class : Array (Option Value)} {oc_law_class kV_law_class dc_law_class pm_law_class cd_law_class ct_law_class : Value}
    {f_law_told : Addr} {od_law_told an_law_told : Option Addr} {sl_law_told : Array (Option Value)} {oc_law_told kV_law_told dc_law_told pm_law_told cd_law_told ct_law_told : Value}
    {f_law_whole : Addr} {od_law_whole an_law_whole : Option Addr} {sl_law_whole : Array (Option Value)} {oc_law_whole kV_law_whole dc_law_whole pm_law_whole cd_law_whole ct_law_whole : Value}
    {f_law_signed : Addr} {od_law_signed an_law_signed : Option Addr} {sl_law_signed : Array (Option Value)} {oc_law_signed kV_law_signed dc_law_signed pm_law_signed cd_law_signed ct_law_signed : Value}
    {f_law_far : Addr} {od_law_far an_law_far : Option Addr} {sl_law_far : Array (Option Value)} {oc_law_far kV_law_far dc_law_far pm_law_far cd_law_far ct_law_far : Value}
    {f_law_kind : Addr} {od_law_kind an_law_kind : Option Addr} {sl_law_kind : Array (Option Value)} {oc_law_kind kV_law_kind dc_law_kind pm_law_kind cd_law_kind ct_law_kind : Value}
    {f_law_is_step : Addr} {od_law_is_step an_law_is_step : Option Addr} {sl_law_is_step : Array (Option Value)} {oc_law_is_step kV_law_is_step dc_law_is_step pm_law_is_step cd_law_is_step ct_law_is_step : Value}
    {f_law_bent_step : Addr} {od_law_bent_step an_law_bent_step : Option Addr} {sl_law_bent_step : Array (Option Value)} {oc_law_bent_step kV_law_bent_step dc_law_bent_step pm_law_bent_step cd_law_bent_step ct_law_bent_step : Value}
    {f_law_right : Addr} {od_law_right an_law_right : Option Addr} {sl_law_right : Array (Option Value)} {oc_law_right kV_law_right dc_law_right pm_law_right cd_law_right ct_law_right : Value}
    {f_law : Addr} {od_law an_law : Option Addr} {sl_law : Array (Option Value)} {oc_law kV_law dc_law pm_law cd_law ct_law : Value}
    {xn_BadValue xq_BadValue : PySem.Str} {xN_BadValue : Addr} {xb_BadValue xm_BadValue xu_BadValue : List Value} {xs_BadValue : List PySem.Str} {xa_BadValue : Bool} {xc_BadValue : Option Bool} {xd_BadValue : Option Addr} {x0_BadValue x1_BadValue x2_BadValue x3_BadValue x5_BadValue : Option Value}
    {cT_law_right pT_law_right : Addr} {od3_law_right : Option Addr} {oc3_law_right : Value} {vs3_law_right : Array Value} {sl3_law_right : Array (Option Value)}
    (a_BadValue : PySem.W.nsIn K mainGlobals "BadValue" = some (some (.ref C_BadValue)))
    (a_BadText : PySem.W.nsIn K mainGlobals "BadText" = some (some (.ref C_BadText)))
    (a_NoSuch : PySem.W.nsIn K mainGlobals "NoSuch" = some (some (.ref C_NoSuch)))
    (a_TooMany : PySem.W.nsIn K mainGlobals "TooMany" = some (some (.ref C_TooMany)))
    (a_Style : PySem.W.nsIn K mainGlobals "Style" = some (some (.ref C_Style)))
    (z_KeyError : PySem.W.nsIn K mainGlobals "KeyError" = some none)
    (z_OverflowError : PySem.W.nsIn K mainGlobals "OverflowError" = some none)
    (z_ValueError : PySem.W.nsIn K mainGlobals "ValueError" = some none)
    (z_all : PySem.W.nsIn K mainGlobals "all" = some none)
    (z_bool : PySem.W.nsIn K mainGlobals "bool" = some none)
    (z_enumerate : PySem.W.nsIn K mainGlobals "enumerate" = some none)
    (z_int : PySem.W.nsIn K mainGlobals "int" = some none)
    (z_isinstance : PySem.W.nsIn K mainGlobals "isinstance" = some none)
    (z_len : PySem.W.nsIn K mainGlobals "len" = some none)
    (z_list : PySem.W.nsIn K mainGlobals "list" = some none)
    (z_range : PySem.W.nsIn K mainGlobals "range" = some none)
    (z_repr : PySem.W.nsIn K mainGlobals "repr" = some none)
    (z_str : PySem.W.nsIn K mainGlobals "str" = some none)
    (z_tuple : PySem.W.nsIn K mainGlobals "tuple" = some none)
    (z_type : PySem.W.nsIn K mainGlobals "type" = some none)
    (y_MOST_LETTERS : PySem.W.nsIn K mainGlobals "MOST_LETTERS" = some (some (.int 8 t_MOST_LETTERS)))
    (y_MOST_STEP_HOURS : PySem.W.nsIn K mainGlobals "MOST_STEP_HOURS" = some (some (.int 240 t_MOST_STEP_HOURS)))
    (y_NO_NAMES : PySem.W.nsIn K mainGlobals "NO_NAMES" = some (some (.ref a_NO_NAMES)))
    (x_NO_NAMES : K.lookup a_NO_NAMES = some ⟨.type "tuple", dd_NO_NAMES, .seq #[.str "style" t_NO_NAMES_0, .str "job" t_NO_NAMES_1, .str "round" t_NO_NAMES_2, .str "sew" t_NO_NAMES_3, .str "glue" t_NO_NAMES_4, .str "cover" t_NO_NAMES_5, .str "letter" t_NO_NAMES_6, .str "press" t_NO_NAMES_7, .str "hand" t_NO_NAMES_8, .str "haste" t_NO_NAMES_9] nn_NO_NAMES, sl_NO_NAMES⟩)
    (y_KIND_OF_WORK : PySem.W.nsIn K mainGlobals "KIND_OF_WORK" = some (some (.ref a_KIND_OF_WORK)))
    (x_KIND_OF_WORK : K.lookup a_KIND_OF_WORK = some ⟨.type "dict", none, .dict #[⟨PyData.keyHash prm "sew", .str "sew" tk_KIND_OF_WORK_0, .str "hand" tv_KIND_OF_WORK_0⟩, ⟨PyData.keyHash prm "glue", .str "glue" tk_KIND_OF_WORK_1, .str "hand" tv_KIND_OF_WORK_1⟩, ⟨PyData.keyHash prm "cover", .str "cover" tk_KIND_OF_WORK_2, .str "hand" tv_KIND_OF_WORK_2⟩, ⟨PyData.keyHash prm "letter", .str "letter" tk_KIND_OF_WORK_3, .str "hand" tv_KIND_OF_WORK_3⟩, ⟨PyData.keyHash prm "press", .str "press" tk_KIND_OF_WORK_4, .str "press" tv_KIND_OF_WORK_4⟩] nn_KIND_OF_WORK, #[]⟩)
    (w_KIND_OF_WORK : (a_KIND_OF_WORK == sysModules) = false)
    (y_MOST_STEPS : PySem.W.nsIn K mainGlobals "MOST_STEPS" = some (some (.int 12 t_MOST_STEPS)))
    (a_is_whole : PySem.W.nsIn K mainGlobals "is_whole" = some (some (.ref f_is_whole)))
    (l_is_whole : K.lookup f_is_whole = some ⟨oc_is_whole, od_is_whole, .func (PySem.W.fnOf "is_whole" "is_whole" (defArgs s_is_whole) (defBody s_is_whole) (defScope s_is_whole) (.ref D_is_whole) kV_is_whole dc_is_whole pm_is_whole an_is_whole cd_is_whole ct_is_whole), sl_is_whole⟩)
    (c_is_whole : PySem.W.codeIn K cd_is_whole "is_whole" = true)
    (k_is_whole : PySem.W.keepIn K (.ref f_is_whole) = true)
    (x_is_whole : K.lookup D_is_whole = some ⟨oc2_is_whole, dd_is_whole, .seq #[.int 1000000 u_is_whole_0] nn_is_whole, sd_is_whole⟩)
    (a_is_name : PySem.W.nsIn K mainGlobals "is_name" = some (some (.ref f_is_name)))
    (l_is_name : K.lookup f_is_name = some ⟨oc_is_name, od_is_name, .func (PySem.W.fnOf "is_name" "is_name" (defArgs s_is_name) (defBody s_is_name) (defScope s_is_name) .none kV_is_name dc_is_name pm_is_name an_is_name cd_is_name ct_is_name), sl_is_name⟩)
    (c_is_name : PySem.W.codeIn K cd_is_name "is_name" = true)
    (k_is_name : PySem.W.keepIn K (.ref f_is_name) = true)
    (a_is_step : PySem.W.nsIn K mainGlobals "is_step" = some (some (.ref f_is_step)))
    (l_is_step : K.lookup f_is_step = some ⟨oc_is_step, od_is_step, .func (PySem.W.fnOf "is_step" "is_step" (defArgs s_is_step) (defBody s_is_step) (defScope s_is_step) .none kV_is_step dc_is_step pm_is_step an_is_step cd_is_step ct_is_step), sl_is_step⟩)
    (c_is_step : PySem.W.codeIn K cd_is_step "is_step" = true)
    (k_is_step : PySem.W.keepIn K (.ref f_is_step) = true)
    (a_kind_of : PySem.W.nsIn K mainGlobals "kind_of" = some (some (.ref f_kind_of)))
    (l_kind_of : K.lookup f_kind_of = some ⟨oc_kind_of, od_kind_of, .func (PySem.W.fnOf "kind_of" "kind_of" (defArgs s_kind_of) (defBody s_kind_of) (defScope s_kind_of) .none kV_kind_of dc_kind_of pm_kind_of an_kind_of cd_kind_of ct_kind_of), sl_kind_of⟩)
    (c_kind_of : PySem.W.codeIn K cd_kind_of "kind_of" = true)
    (k_kind_of : PySem.W.keepIn K (.ref f_kind_of) = true)
    (b_BadValue : PySem.W.findIn K (.ref C_BadValue) "__init__" = some (some (.ref f_BadValue_init)))
    (l_BadValue_init : K.lookup f_BadValue_init = some ⟨oc_BadValue_init, od_BadValue_init, .func (PySem.W.fnOf "__init__" "BadValue.__init__" (defArgs s_BadValue_init) (defBody s_BadValue_init) (defScope s_BadValue_init) .none kV_BadValue_init dc_BadValue_init pm_BadValue_init an_BadValue_init cd_BadValue_init ct_BadValue_init), sl_BadValue_init⟩)
    (c_BadValue_init : PySem.W.codeIn K cd_BadValue_init "BadValue.__init__" = true)
    (k_BadValue_init : PySem.W.keepIn K (.ref f_BadValue_init) = true)
    (a_are_steps : PySem.W.nsIn K mainGlobals "_are_steps" = some (some (.ref f_are_steps)))
    (l_are_steps : K.lookup f_are_steps = some ⟨oc_are_steps, od_are_steps, .func (PySem.W.fnOf "_are_steps" "_are_steps" (defArgs s_are_steps) (defBody s_are_steps) (defScope s_are_steps) .none kV_are_steps dc_are_steps pm_are_steps an_are_steps cd_are_steps ct_are_steps), sl_are_steps⟩)
    (c_are_steps : PySem.W.codeIn K cd_are_steps "_are_steps" = true)
    (k_are_steps : PySem.W.keepIn K (.ref f_are_steps) = true)
    (b_Style : PySem.W.findIn K (.ref C_Style) "__init__" = some (some (.ref f_Style_init)))
    (l_Style_init : K.lookup f_Style_init = some ⟨oc_Style_init, od_Style_init, .func (PySem.W.fnOf "__init__" "Style.__init__" (defArgs s_Style_init) (defBody s_Style_init) (defScope s_Style_init) .none kV_Style_init dc_Style_init pm_Style_init an_Style_init cd_Style_init ct_Style_init), sl_Style_init⟩)
    (c_Style_init : PySem.W.codeIn K cd_Style_init "Style.__init__" = true)
    (k_Style_init : PySem.W.keepIn K (.ref f_Style_init) = true)
    (b_Style_step : PySem.W.findIn K (.ref C_Style) "step" = some (some (.ref f_Style_step)))
    (l_Style_step : K.lookup f_Style_step = some ⟨oc_Style_step, od_Style_step, .func (PySem.W.fnOf "step" "Style.step" (defArgs s_Style_step) (defBody s_Style_step) (defScope s_Style_step) .none kV_Style_step dc_Style_step pm_Style_step an_Style_step cd_Style_step ct_Style_step), sl_Style_step⟩)
    (c_Style_step : PySem.W.codeIn K cd_Style_step "Style.step" = true)
    (k_Style_step : PySem.W.keepIn K (.ref f_Style_step) = true)
    (b_Style_len : PySem.W.findIn K (.ref C_Style) "__len__" = some (some (.ref f_Style_len)))
    (l_Style_len : K.lookup f_Style_len = some ⟨oc_Style_len, od_Style_len, .func (PySem.W.fnOf "__len__" "Style.__len__" (defArgs s_Style_len) (defBody s_Style_len) (defScope s_Style_len) .none kV_Style_len dc_Style_len pm_Style_len an_Style_len cd_Style_len ct_Style_len), sl_Style_len⟩)
    (c_Style_len : PySem.W.codeIn K cd_Style_len "Style.__len__" = true)
    (k_Style_len : PySem.W.keepIn K (.ref f_Style_len) = true)
    (a_law_mixed : PySem.W.nsIn K mainGlobals "_law_mixed" = some (some (.ref f_law_mixed)))
    (l_law_mixed : K.lookup f_law_mixed = some ⟨oc_law_mixed, od_law_mixed, .func (PySem.W.fnOf "_law_mixed" "_law_mixed" (defArgs s_law_mixed) (defBody s_law_mixed) (defScope s_law_mixed) .none kV_law_mixed dc_law_mixed pm_law_mixed an_law_mixed cd_law_mixed ct_law_mixed), sl_law_mixed⟩)
    (c_law_mixed : PySem.W.codeIn K cd_law_mixed "_law_mixed" = true)
    (k_law_mixed : PySem.W.keepIn K (.ref f_law_mixed) = true)
    (a_law_folded : PySem.W.nsIn K mainGlobals "_law_folded" = some (some (.ref f_law_folded)))
    (l_law_folded : K.lookup f_law_folded = some ⟨oc_law_folded, od_law_folded, .func (PySem.W.fnOf "_law_folded" "_law_folded" (defArgs s_law_folded) (defBody s_law_folded) (defScope s_law_folded) .none kV_law_folded dc_law_folded pm_law_folded an_law_folded cd_law_folded ct_law_folded), sl_law_folded⟩)
    (c_law_folded : PySem.W.codeIn K cd_law_folded "_law_folded" = true)
    (k_law_folded : PySem.W.keepIn K (.ref f_law_folded) = true)
    (a_law_draw : PySem.W.nsIn K mainGlobals "_law_draw" = some (some (.ref f_law_draw)))
    (l_law_draw : K.lookup f_law_draw = some ⟨oc_law_draw, od_law_draw, .func (PySem.W.fnOf "_law_draw" "_law_draw" (defArgs s_law_draw) (defBody s_law_draw) (defScope s_law_draw) .none kV_law_draw dc_law_draw pm_law_draw an_law_draw cd_law_draw ct_law_draw), sl_law_draw⟩)
    (c_law_draw : PySem.W.codeIn K cd_law_draw "_law_draw" = true)
    (k_law_draw : PySem.W.keepIn K (.ref f_law_draw) = true)
    (a_law_begun : PySem.W.nsIn K mainGlobals "_law_begun" = some (some (.ref f_law_begun)))
    (l_law_begun : K.lookup f_law_begun = some ⟨oc_law_begun, od_law_begun, .func (PySem.W.fnOf "_law_begun" "_law_begun" (defArgs s_law_begun) (defBody s_law_begun) (defScope s_law_begun) .none kV_law_begun dc_law_begun pm_law_begun an_law_begun cd_law_begun ct_law_begun), sl_law_begun⟩)
    (c_law_begun : PySem.W.codeIn K cd_law_begun "_law_begun" = true)
    (k_law_begun : PySem.W.keepIn K (.ref f_law_begun) = true)
    (a_law_called : PySem.W.nsIn K mainGlobals "_law_called" = some (some (.ref f_law_called)))
    (l_law_called : K.lookup f_law_called = some ⟨oc_law_called, od_law_called, .func (PySem.W.fnOf "_law_called" "_law_called" (defArgs s_law_called) (defBody s_law_called) (defScope s_law_called) .none kV_law_called dc_law_called pm_law_called an_law_called cd_law_called ct_law_called), sl_law_called⟩)
    (c_law_called : PySem.W.codeIn K cd_law_called "_law_called" = true)
    (k_law_called : PySem.W.keepIn K (.ref f_law_called) = true)
    (a_law_step : PySem.W.nsIn K mainGlobals "_law_step" = some (some (.ref f_law_step)))
    (l_law_step : K.lookup f_law_step = some ⟨oc_law_step, od_law_step, .func (PySem.W.fnOf "_law_step" "_law_step" (defArgs s_law_step) (defBody s_law_step) (defScope s_law_step) .none kV_law_step dc_law_step pm_law_step an_law_step cd_law_step ct_law_step), sl_law_step⟩)
    (c_law_step : PySem.W.codeIn K cd_law_step "_law_step" = true)
    (k_law_step : PySem.W.keepIn K (.ref f_law_step) = true)
    (a_law_class : PySem.W.nsIn K mainGlobals "_law_class" = some (some (.ref f_law_class)))
    (l_law_class : K.lookup f_law_class = some ⟨oc_law_class, od_law_class, .func (PySem.W.fnOf "_law_class" "_law_class" (defArgs s_law_class) (defBody s_law_class) (defScope s_law_class) .none kV_law_class dc_law_class pm_law_class an_law_class cd_law_class ct_law_class), sl_law_class⟩)
    (c_law_class : PySem.W.codeIn K cd_law_class "_law_class" = true)
    (k_law_class : PySem.W.keepIn K (.ref f_law_class) = true)
    (a_law_told : PySem.W.nsIn K mainGlobals "_law_told" = some (some (.ref f_law_told)))
    (l_law_told : K.lookup f_law_told = some ⟨oc_law_told, od_law_told, .func (PySem.W.fnOf "_law_told" "_law_told" (defArgs s_law_told) (defBody s_law_told) (defScope s_law_told) .none kV_law_told dc_law_told pm_law_told an_law_told cd_law_told ct_law_told), sl_law_told⟩)
    (c_law_told : PySem.W.codeIn K cd_law_told "_law_told" = true)
    (k_law_told : PySem.W.keepIn K (.ref f_law_told) = true)
    (a_law_whole : PySem.W.nsIn K mainGlobals "_law_whole" = some (some (.ref f_law_whole)))
    (l_law_whole : K.lookup f_law_whole = some ⟨oc_law_whole, od_law_whole, .func (PySem.W.fnOf "_law_whole" "_law_whole" (defArgs s_law_whole) (defBody s_law_whole) (defScope s_law_whole) .none kV_law_whole dc_law_whole pm_law_whole an_law_whole cd_law_whole ct_law_whole), sl_law_whole⟩)
    (c_law_whole : PySem.W.codeIn K cd_law_whole "_law_whole" = true)
    (k_law_whole : PySem.W.keepIn K (.ref f_law_whole) = true)
    (a_law_signed : PySem.W.nsIn K mainGlobals "_law_signed" = some (some (.ref f_law_signed)))
    (l_law_signed : K.lookup f_law_signed = some ⟨oc_law_signed, od_law_signed, .func (PySem.W.fnOf "_law_signed" "_law_signed" (defArgs s_law_signed) (defBody s_law_signed) (defScope s_law_signed) .none kV_law_signed dc_law_signed pm_law_signed an_law_signed cd_law_signed ct_law_signed), sl_law_signed⟩)
    (c_law_signed : PySem.W.codeIn K cd_law_signed "_law_signed" = true)
    (k_law_signed : PySem.W.keepIn K (.ref f_law_signed) = true)
    (a_law_far : PySem.W.nsIn K mainGlobals "_law_far" = some (some (.ref f_law_far)))
    (l_law_far : K.lookup f_law_far = some ⟨oc_law_far, od_law_far, .func (PySem.W.fnOf "_law_far" "_law_far" (defArgs s_law_far) (defBody s_law_far) (defScope s_law_far) .none kV_law_far dc_law_far pm_law_far an_law_far cd_law_far ct_law_far), sl_law_far⟩)
    (c_law_far : PySem.W.codeIn K cd_law_far "_law_far" = true)
    (k_law_far : PySem.W.keepIn K (.ref f_law_far) = true)
    (a_law_kind : PySem.W.nsIn K mainGlobals "_law_kind" = some (some (.ref f_law_kind)))
    (l_law_kind : K.lookup f_law_kind = some ⟨oc_law_kind, od_law_kind, .func (PySem.W.fnOf "_law_kind" "_law_kind" (defArgs s_law_kind) (defBody s_law_kind) (defScope s_law_kind) .none kV_law_kind dc_law_kind pm_law_kind an_law_kind cd_law_kind ct_law_kind), sl_law_kind⟩)
    (c_law_kind : PySem.W.codeIn K cd_law_kind "_law_kind" = true)
    (k_law_kind : PySem.W.keepIn K (.ref f_law_kind) = true)
    (a_law_is_step : PySem.W.nsIn K mainGlobals "_law_is_step" = some (some (.ref f_law_is_step)))
    (l_law_is_step : K.lookup f_law_is_step = some ⟨oc_law_is_step, od_law_is_step, .func (PySem.W.fnOf "_law_is_step" "_law_is_step" (defArgs s_law_is_step) (defBody s_law_is_step) (defScope s_law_is_step) .none kV_law_is_step dc_law_is_step pm_law_is_step an_law_is_step cd_law_is_step ct_law_is_step), sl_law_is_step⟩)
    (c_law_is_step : PySem.W.codeIn K cd_law_is_step "_law_is_step" = true)
    (k_law_is_step : PySem.W.keepIn K (.ref f_law_is_step) = true)
    (a_law_bent_step : PySem.W.nsIn K mainGlobals "_law_bent_step" = some (some (.ref f_law_bent_step)))
    (l_law_bent_step : K.lookup f_law_bent_step = some ⟨oc_law_bent_step, od_law_bent_step, .func (PySem.W.fnOf "_law_bent_step" "_law_bent_step" (defArgs s_law_bent_step) (defBody s_law_bent_step) (defScope s_law_bent_step) .none kV_law_bent_step dc_law_bent_step pm_law_bent_step an_law_bent_step cd_law_bent_step ct_law_bent_step), sl_law_bent_step⟩)
    (c_law_bent_step : PySem.W.codeIn K cd_law_bent_step "_law_bent_step" = true)
    (k_law_bent_step : PySem.W.keepIn K (.ref f_law_bent_step) = true)
    (a_law_right : PySem.W.nsIn K mainGlobals "_law_right" = some (some (.ref f_law_right)))
    (l_law_right : K.lookup f_law_right = some ⟨oc_law_right, od_law_right, .func (PySem.W.fnOf "_law_right" "_law_right" (defArgs s_law_right) (defBody s_law_right) (defScope s_law_right) .none kV_law_right dc_law_right pm_law_right an_law_right cd_law_right ct_law_right), sl_law_right⟩)
    (c_law_right : PySem.W.codeIn K cd_law_right "_law_right" = true)
    (k_law_right : PySem.W.keepIn K (.ref f_law_right) = true)
    (a_law : PySem.W.nsIn K mainGlobals "law" = some (some (.ref f_law)))
    (l_law : K.lookup f_law = some ⟨oc_law, od_law, .func (PySem.W.fnOf "law" "law" (defArgs s_law) (defBody s_law) (defScope s_law) .none kV_law dc_law pm_law an_law cd_law ct_law), sl_law⟩)
    (c_law : PySem.W.codeIn K cd_law "law" = true)
    (k_law : PySem.W.keepIn K (.ref f_law) = true)
    (he_BadValue_0 : PySem.W.isClsIn K C_BadValue = true)
    (he_BadValue_1 : PySem.W.findIn K (.ref C_BadValue) "__getattribute__" = some (some (.builtin "BaseException.__getattribute__")))
    (he_BadValue_2 : PySem.W.findIn K (.ref C_BadValue) "__getattr__" = some none)
    (he_BadValue_3 : PySem.W.subIn K (.ref C_BadValue) (.type "BaseException") = some true)
    (he_BadValue_4 : PySem.W.hasDictIn K C_BadValue = true)
    (he_BadValue_5 : PySem.W.findIn K (.ref C_BadValue) "__class__" = some (some (.builtin "object.__class__")))
    (he_BadValue_6 : PySem.W.specialIn K (.builtin "object.__class__") "__get__" = some (some (.builtin "getset_descriptor.__get__")))
    (he_BadValue_7 : PySem.W.takesIn K (.builtin "object.__class__") = some true)
    (he_BadValue_8 : PySem.W.mroIn K C_BadValue (.type "object") = some true)
    (tc_BadValue' : PySem.W.typeIn K (.ref C_BadValue) = some (.type "type"))
    (sb_BadValue_BadValue' : PySem.W.subIn K (.ref C_BadValue) (.ref C_BadValue) = some true)
    (sb_BadValue_BadText' : PySem.W.subIn K (.ref C_BadValue) (.ref C_BadText) = some false)
    (sb_BadValue_NoSuch' : PySem.W.subIn K (.ref C_BadValue) (.ref C_NoSuch) = some false)
    (sb_BadValue_TooMany' : PySem.W.subIn K (.ref C_BadValue) (.ref C_TooMany) = some false)
    (sb_BadValue_ValueError' : PySem.W.subIn K (.ref C_BadValue) (.type "ValueError") = some true)
    (sb_BadValue_KeyError' : PySem.W.subIn K (.ref C_BadValue) (.type "KeyError") = some false)
    (sb_BadValue_OverflowError' : PySem.W.subIn K (.ref C_BadValue) (.type "OverflowError") = some false)
    (no_BadValue_what' : PySem.W.findIn K (.ref C_BadValue) "what" = some none)
    (ox_BadValue_0 : K.lookup C_BadValue = some (PySem.excClassObj xn_BadValue xq_BadValue C_BadValue xN_BadValue xb_BadValue xm_BadValue true xs_BadValue xu_BadValue xa_BadValue xc_BadValue xd_BadValue x0_BadValue x1_BadValue x2_BadValue x3_BadValue x5_BadValue "ValueError.__new__"))
    (ox_BadValue_1 : PySem.HandSPX.refsVE xm_BadValue = true)
    (ox_BadValue_2 : PySem.W.findIn K (.ref C_BadValue) "__setattr__" = some (some (.builtin "object.__setattr__")))
    (ox_BadValue_3 : PySem.W.keepIn K (.ref C_BadValue) = true)
    (in_BadValue' : PySem.W.findIn K (.ref C_BadValue) "__init__" = some (some (.ref f_BadValue_init)))
    (ti_BadValue' : PySem.W.typeIn K (.ref f_BadValue_init) = some (.type "function"))
    (vv_BadValue' : PySem.W.findCls K (.type "ValueError") (.type "type") "__init__" = some (.val (.builtin "ValueError.__init__")))
    (he_BadText_0 : PySem.W.isClsIn K C_BadText = true)
    (he_BadText_1 : PySem.W.findIn K (.ref C_BadText) "__getattribute__" = some (some (.builtin "BaseException.__getattribute__")))
    (he_BadText_2 : PySem.W.findIn K (.ref C_BadText) "__getattr__" = some none)
    (he_BadText_3 : PySem.W.subIn K (.ref C_BadText) (.type "BaseException") = some true)
    (he_BadText_4 : PySem.W.hasDictIn K C_BadText = true)
    (he_BadText_5 : PySem.W.findIn K (.ref C_BadText) "__class__" = some (some (.builtin "object.__class__")))
    (he_BadText_6 : PySem.W.specialIn K (.builtin "object.__class__") "__get__" = some (some (.builtin "getset_descriptor.__get__")))
    (he_BadText_7 : PySem.W.takesIn K (.builtin "object.__class__") = some true)
    (he_BadText_8 : PySem.W.mroIn K C_BadText (.type "object") = some true)
    (tc_BadText' : PySem.W.typeIn K (.ref C_BadText) = some (.type "type"))
    (sb_BadText_BadValue' : PySem.W.subIn K (.ref C_BadText) (.ref C_BadValue) = some true)
    (sb_BadText_BadText' : PySem.W.subIn K (.ref C_BadText) (.ref C_BadText) = some true)
    (sb_BadText_NoSuch' : PySem.W.subIn K (.ref C_BadText) (.ref C_NoSuch) = some false)
    (sb_BadText_TooMany' : PySem.W.subIn K (.ref C_BadText) (.ref C_TooMany) = some false)
    (sb_BadText_ValueError' : PySem.W.subIn K (.ref C_BadText) (.type "ValueError") = some true)
    (sb_BadText_KeyError' : PySem.W.subIn K (.ref C_BadText) (.type "KeyError") = some false)
    (sb_BadText_OverflowError' : PySem.W.subIn K (.ref C_BadText) (.type "OverflowError") = some false)
    (no_BadText_what' : PySem.W.findIn K (.ref C_BadText) "what" = some none)
    (no_BadText_row' : PySem.W.findIn K (.ref C_BadText) "row" = some none)
    (no_BadText_word' : PySem.W.findIn K (.ref C_BadText) "word" = some none)
    (he_NoSuch_0 : PySem.W.isClsIn K C_NoSuch = true)
    (he_NoSuch_1 : PySem.W.findIn K (.ref C_NoSuch) "__getattribute__" = some (some (.builtin "BaseException.__getattribute__")))
    (he_NoSuch_2 : PySem.W.findIn K (.ref C_NoSuch) "__getattr__" = some none)
    (he_NoSuch_3 : PySem.W.subIn K (.ref C_NoSuch) (.type "BaseException") = some true)
    (he_NoSuch_4 : PySem.W.hasDictIn K C_NoSuch = true)
    (he_NoSuch_5 : PySem.W.findIn K (.ref C_NoSuch) "__class__" = some (some (.builtin "object.__class__")))
    (he_NoSuch_6 : PySem.W.specialIn K (.builtin "object.__class__") "__get__" = some (some (.builtin "getset_descriptor.__get__")))
    (he_NoSuch_7 : PySem.W.takesIn K (.builtin "object.__class__") = some true)
    (he_NoSuch_8 : PySem.W.mroIn K C_NoSuch (.type "object") = some true)
    (tc_NoSuch' : PySem.W.typeIn K (.ref C_NoSuch) = some (.type "type"))
    (sb_NoSuch_BadValue' : PySem.W.subIn K (.ref C_NoSuch) (.ref C_BadValue) = some false)
    (sb_NoSuch_BadText' : PySem.W.subIn K (.ref C_NoSuch) (.ref C_BadText) = some false)
    (sb_NoSuch_NoSuch' : PySem.W.subIn K (.ref C_NoSuch) (.ref C_NoSuch) = some true)
    (sb_NoSuch_TooMany' : PySem.W.subIn K (.ref C_NoSuch) (.ref C_TooMany) = some false)
    (sb_NoSuch_ValueError' : PySem.W.subIn K (.ref C_NoSuch) (.type "ValueError") = some false)
    (sb_NoSuch_KeyError' : PySem.W.subIn K (.ref C_NoSuch) (.type "KeyError") = some true)
    (sb_NoSuch_OverflowError' : PySem.W.subIn K (.ref C_NoSuch) (.type "OverflowError") = some false)
    (no_NoSuch_what' : PySem.W.findIn K (.ref C_NoSuch) "what" = some none)
    (no_NoSuch_name' : PySem.W.findIn K (.ref C_NoSuch) "name" = some none)
    (he_TooMany_0 : PySem.W.isClsIn K C_TooMany = true)
    (he_TooMany_1 : PySem.W.findIn K (.ref C_TooMany) "__getattribute__" = some (some (.builtin "BaseException.__getattribute__")))
    (he_TooMany_2 : PySem.W.findIn K (.ref C_TooMany) "__getattr__" = some none)
    (he_TooMany_3 : PySem.W.subIn K (.ref C_TooMany) (.type "BaseException") = some true)
    (he_TooMany_4 : PySem.W.hasDictIn K C_TooMany = true)
    (he_TooMany_5 : PySem.W.findIn K (.ref C_TooMany) "__class__" = some (some (.builtin "object.__class__")))
    (he_TooMany_6 : PySem.W.specialIn K (.builtin "object.__class__") "__get__" = some (some (.builtin "getset_descriptor.__get__")))
    (he_TooMany_7 : PySem.W.takesIn K (.builtin "object.__class__") = some true)
    (he_TooMany_8 : PySem.W.mroIn K C_TooMany (.type "object") = some true)
    (tc_TooMany' : PySem.W.typeIn K (.ref C_TooMany) = some (.type "type"))
    (sb_TooMany_BadValue' : PySem.W.subIn K (.ref C_TooMany) (.ref C_BadValue) = some false)
    (sb_TooMany_BadText' : PySem.W.subIn K (.ref C_TooMany) (.ref C_BadText) = some false)
    (sb_TooMany_NoSuch' : PySem.W.subIn K (.ref C_TooMany) (.ref C_NoSuch) = some false)
    (sb_TooMany_TooMany' : PySem.W.subIn K (.ref C_TooMany) (.ref C_TooMany) = some true)
    (sb_TooMany_ValueError' : PySem.W.subIn K (.ref C_TooMany) (.type "ValueError") = some false)
    (sb_TooMany_KeyError' : PySem.W.subIn K (.ref C_TooMany) (.type "KeyError") = some false)
    (sb_TooMany_OverflowError' : PySem.W.subIn K (.ref C_TooMany) (.type "OverflowError") = some true)
    (no_TooMany_most' : PySem.W.findIn K (.ref C_TooMany) "most" = some none)
    (hc_Style_0 : PySem.W.plainGet K C_Style Str.empty = true)
    (hc_Style_1 : PySem.W.hasDictIn K C_Style = true)
    (hc_Style_2 : PySem.W.plainOver K C_Style = true)
    (hc_Style_3 : PySem.W.findIn K (.ref C_Style) "__setattr__" = some (some (.builtin "object.__setattr__")))
    (no_Style__name' : PySem.W.findIn K (.ref C_Style) "_name" = some none)
    (no_Style__steps' : PySem.W.findIn K (.ref C_Style) "_steps" = some none)
    (hm_Style_0 : PySem.W.makesIn K C_Style = true)
    (hm_Style_1 : PySem.W.findIn K (.ref C_Style) "__init__" = some (some (.ref f_Style_init)))
    (hm_Style_2 : PySem.W.isFn K (.ref f_Style_init) = true)
    (hm_Style_3 : PySem.W.keepIn K (.ref C_Style) = true)
    (hf_Style_step_0 : PySem.W.findIn K (.ref C_Style) "step" = some (some (.ref f_Style_step)))
    (hf_Style_step_1 : PySem.W.isFn K (.ref f_Style_step) = true)
    (hf_Style_step_2 : PySem.W.keepIn K (.ref f_Style_step) = true)
    (hf_Style_len_0 : PySem.W.findIn K (.ref C_Style) "__len__" = some (some (.ref f_Style_len)))
    (hf_Style_len_1 : PySem.W.isFn K (.ref f_Style_len) = true)
    (hf_Style_len_2 : PySem.W.keepIn K (.ref f_Style_len) = true)
    (ti_Style_len' : PySem.W.typeIn K (.ref f_Style_len) = some (.type "function"))
    (e_law_right : cd_law_right = .ref cT_law_right)
    (lc_law_right : K.lookup cT_law_right = some ⟨oc3_law_right, od3_law_right, .fields vs3_law_right, sl3_law_right⟩)
    (lp_law_right : (vs3_law_right[11]? : Option Value) = some (.ref pT_law_right))
    (np_law_right : K.lookup pT_law_right = none) : Txt mg K prm :=
  { n_KeyError := PySem.W.mg_none_of X G z_KeyError,
    n_OverflowError := PySem.W.mg_none_of X G z_OverflowError,
    n_ValueError := PySem.W.mg_none_of X G z_ValueError,
    n_all := PySem.W.mg_none_of X G z_all,
    n_bool := PySem.W.mg_none_of X G z_bool,
    n_enumerate := PySem.W.mg_none_of X G z_enumerate,
    n_int := PySem.W.mg_none_of X G z_int,
    n_isinstance := PySem.W.mg_none_of X G z_isinstance,
    n_len := PySem.W.mg_none_of X G z_len,
    n_list := PySem.W.mg_none_of X G z_list,
    n_range := PySem.W.mg_none_of X G z_range,
    n_repr := PySem.W.mg_none_of X G z_repr,
    n_str := PySem.W.mg_none_of X G z_str,
    n_tuple := PySem.W.mg_none_of X G z_tuple,
    n_type := PySem.W.mg_none_of X G z_type,
    t_MOST_LETTERS := t_MOST_LETTERS,
    c_MOST_LETTERS := PySem.W.mg_of X G y_MOST_LETTERS,
    t_MOST_STEP_HOURS := t_MOST_STEP_HOURS,
    c_MOST_STEP_HOURS := PySem.W.mg_of X G y_MOST_STEP_HOURS,
    a_NO_NAMES := a_NO_NAMES,
    c_NO_NAMES := PySem.W.mg_of X G y_NO_NAMES,
    q_NO_NAMES := fun H => .inr ⟨_, _, _, x_NO_NAMES, rfl, rfl, by show 10 ≤ sizeLine; decide, .cons ⟨t_NO_NAMES_0, rfl⟩ (.cons ⟨t_NO_NAMES_1, rfl⟩ (.cons ⟨t_NO_NAMES_2, rfl⟩ (.cons ⟨t_NO_NAMES_3, rfl⟩ (.cons ⟨t_NO_NAMES_4, rfl⟩ (.cons ⟨t_NO_NAMES_5, rfl⟩ (.cons ⟨t_NO_NAMES_6, rfl⟩ (.cons ⟨t_NO_NAMES_7, rfl⟩ (.cons ⟨t_NO_NAMES_8, rfl⟩ (.cons ⟨t_NO_NAMES_9, rfl⟩ (.nil))))))))))⟩,
    a_KIND_OF_WORK := a_KIND_OF_WORK,
    c_KIND_OF_WORK := PySem.W.mg_of X G y_KIND_OF_WORK,
    q_KIND_OF_WORK := ⟨_, _, x_KIND_OF_WORK, w_KIND_OF_WORK, .cons ⟨_, rfl⟩ (.cons ⟨_, rfl⟩ (.cons ⟨_, rfl⟩ (.cons ⟨_, rfl⟩ (.cons ⟨_, rfl⟩ (.nil)))))⟩,
    t_MOST_STEPS := t_MOST_STEPS,
    c_MOST_STEPS := PySem.W.mg_of X G y_MOST_STEPS,
    f_is_whole := f_is_whole,
    fd_is_whole := PySem.W.fnOf "is_whole" "is_whole" (defArgs s_is_whole) (defBody s_is_whole) (defScope s_is_whole) (.ref D_is_whole) kV_is_whole dc_is_whole pm_is_whole an_is_whole cd_is_whole ct_is_whole,
    F_is_whole := ⟨⟨oc_is_whole, od_is_whole, _, kV_is_whole, dc_is_whole, pm_is_whole, an_is_whole, cd_is_whole, ct_is_whole, sl_is_whole, rfl, l_is_whole, c_is_whole, .inr ⟨by simp, D_is_whole, _, _, _, rfl, x_is_whole, rfl, .cons ⟨u_is_whole_0, rfl⟩ (.nil)⟩, .inl rfl⟩, k_is_whole⟩,
    g_is_whole := PySem.W.mg_of X G a_is_whole,
    f_is_name := f_is_name,
    fd_is_name := PySem.W.fnOf "is_name" "is_name" (defArgs s_is_name) (defBody s_is_name) (defScope s_is_name) .none kV_is_name dc_is_name pm_is_name an_is_name cd_is_name ct_is_name,
    F_is_name := fun_mk (st := s_is_name) l_is_name c_is_name k_is_name,
    g_is_name := PySem.W.mg_of X G a_is_name,
    f_is_step := f_is_step,
    fd_is_step := PySem.W.fnOf "is_step" "is_step" (defArgs s_is_step) (defBody s_is_step) (defScope s_is_step) .none kV_is_step dc_is_step pm_is_step an_is_step cd_is_step ct_is_step,
    F_is_step := fun_mk (st := s_is_step) l_is_step c_is_step k_is_step,
    g_is_step := PySem.W.mg_of X G a_is_step,
    f_kind_of := f_kind_of,
    fd_kind_of := PySem.W.fnOf "kind_of" "kind_of" (defArgs s_kind_of) (defBody s_kind_of) (defScope s_kind_of) .none kV_kind_of dc_kind_of pm_kind_of an_kind_of cd_kind_of ct_kind_of,
    F_kind_of := fun_mk (st := s_kind_of) l_kind_of c_kind_of k_kind_of,
    g_kind_of := PySem.W.mg_of X G a_kind_of,
    f_BadValue_init := f_BadValue_init,
    fd_BadValue_init := PySem.W.fnOf "__init__" "BadValue.__init__" (defArgs s_BadValue_init) (defBody s_BadValue_init) (defScope s_BadValue_init) .none kV_BadValue_init dc_BadValue_init pm_BadValue_init an_BadValue_init cd_BadValue_init ct_BadValue_init,
    F_BadValue_init := fun_mk (st := s_BadValue_init) l_BadValue_init c_BadValue_init k_BadValue_init,
    f_are_steps := f_are_steps,
    fd_are_steps := PySem.W.fnOf "_are_steps" "_are_steps" (defArgs s_are_steps) (defBody s_are_steps) (defScope s_are_steps) .none kV_are_steps dc_are_steps pm_are_steps an_are_steps cd_are_steps ct_are_steps,
    F_are_steps := fun_mk (st := s_are_steps) l_are_steps c_are_steps k_are_steps,
    g_are_steps := PySem.W.mg_of X G a_are_steps,
    f_Style_init := f_Style_init,
    fd_Style_init := PySem.W.fnOf "__init__" "Style.__init__" (defArgs s_Style_init) (defBody s_Style_init) (defScope s_Style_init) .none kV_Style_init dc_Style_init pm_Style_init an_Style_init cd_Style_init ct_Style_init,
    F_Style_init := fun_mk (st := s_Style_init) l_Style_init c_Style_init k_Style_init,
    f_Style_step := f_Style_step,
    fd_Style_step := PySem.W.fnOf "step" "Style.step" (defArgs s_Style_step) (defBody s_Style_step) (defScope s_Style_step) .none kV_Style_step dc_Style_step pm_Style_step an_Style_step cd_Style_step ct_Style_step,
    F_Style_step := fun_mk (st := s_Style_step) l_Style_step c_Style_step k_Style_step,
    f_Style_len := f_Style_len,
    fd_Style_len := PySem.W.fnOf "__len__" "Style.__len__" (defArgs s_Style_len) (defBody s_Style_len) (defScope s_Style_len) .none kV_Style_len dc_Style_len pm_Style_len an_Style_len cd_Style_len ct_Style_len,
    F_Style_len := fun_mk (st := s_Style_len) l_Style_len c_Style_len k_Style_len,
    f_law_mixed := f_law_mixed,
    fd_law_mixed := PySem.W.fnOf "_law_mixed" "_law_mixed" (defArgs s_law_mixed) (defBody s_law_mixed) (defScope s_law_mixed) .none kV_law_mixed dc_law_mixed pm_law_mixed an_law_mixed cd_law_mixed ct_law_mixed,
    F_law_mixed := fun_mk (st := s_law_mixed) l_law_mixed c_law_mixed k_law_mixed,
    g_law_mixed := PySem.W.mg_of X G a_law_mixed,
    f_law_folded := f_law_folded,
    fd_law_folded := PySem.W.fnOf "_law_folded" "_law_folded" (defArgs s_law_folded) (defBody s_law_folded) (defScope s_law_folded) .none kV_law_folded dc_law_folded pm_law_folded an_law_folded cd_law_folded ct_law_folded,
    F_law_folded := fun_mk (st := s_law_folded) l_law_folded c_law_folded k_law_folded,
    g_law_folded := PySem.W.mg_of X G a_law_folded,
    f_law_draw := f_law_draw,
    fd_law_draw := PySem.W.fnOf "_law_draw" "_law_draw" (defArgs s_law_draw) (defBody s_law_draw) (defScope s_law_draw) .none kV_law_draw dc_law_draw pm_law_draw an_law_draw cd_law_draw ct_law_draw,
    F_law_draw := fun_mk (st := s_law_draw) l_law_draw c_law_draw k_law_draw,
    g_law_draw := PySem.W.mg_of X G a_law_draw,
    f_law_begun := f_law_begun,
    fd_law_begun := PySem.W.fnOf "_law_begun" "_law_begun" (defArgs s_law_begun) (defBody s_law_begun) (defScope s_law_begun) .none kV_law_begun dc_law_begun pm_law_begun an_law_begun cd_law_begun ct_law_begun,
    F_law_begun := fun_mk (st := s_law_begun) l_law_begun c_law_begun k_law_begun,
    g_law_begun := PySem.W.mg_of X G a_law_begun,
    f_law_called := f_law_called,
    fd_law_called := PySem.W.fnOf "_law_called" "_law_called" (defArgs s_law_called) (defBody s_law_called) (defScope s_law_called) .none kV_law_called dc_law_called pm_law_called an_law_called cd_law_called ct_law_called,
    F_law_called := fun_mk (st := s_law_called) l_law_called c_law_called k_law_called,
    g_law_called := PySem.W.mg_of X G a_law_called,
    f_law_step := f_law_step,
    fd_law_step := PySem.W.fnOf "_law_step" "_law_step" (defArgs s_law_step) (defBody s_law_step) (defScope s_law_step) .none kV_law_step dc_law_step pm_law_step an_law_step cd_law_step ct_law_step,
    F_law_step := fun_mk (st := s_law_step) l_law_step c_law_step k_law_step,
    g_law_step := PySem.W.mg_of X G a_law_step,
    f_law_class := f_law_class,
    fd_law_class := PySem.W.fnOf "_law_class" "_law_class" (defArgs s_law_class) (defBody s_law_class) (defScope s_law_class) .none kV_law_class dc_law_class pm_law_class an_law_class cd_law_class ct_law_class,
    F_law_class := fun_mk (st := s_law_class) l_law_class c_law_class k_law_class,
    g_law_class := PySem.W.mg_of X G a_law_class,
    f_law_told := f_law_told,
    fd_law_told := PySem.W.fnOf "_law_told" "_law_told" (defArgs s_law_told) (defBody s_law_told) (defScope s_law_told) .none kV_law_told dc_law_told pm_law_told an_law_told cd_law_told ct_law_told,
    F_law_told := fun_mk (st := s_law_told) l_law_told c_law_told k_law_told,
    g_law_told := PySem.W.mg_of X G a_law_told,
    f_law_whole := f_law_whole,
    fd_law_whole := PySem.W.fnOf "_law_whole" "_law_whole" (defArgs s_law_whole) (defBody s_law_whole) (defScope s_law_whole) .none kV_law_whole dc_law_whole pm_law_whole an_law_whole cd_law_whole ct_law_whole,
    F_law_whole := fun_mk (st := s_law_whole) l_law_whole c_law_whole k_law_whole,
    g_law_whole := PySem.W.mg_of X G a_law_whole,
    f_law_signed := f_law_signed,
    fd_law_signed := PySem.W.fnOf "_law_signed" "_law_signed" (defArgs s_law_signed) (defBody s_law_signed) (defScope s_law_signed) .none kV_law_signed dc_law_signed pm_law_signed an_law_signed cd_law_signed ct_law_signed,
    F_law_signed := fun_mk (st := s_law_signed) l_law_signed c_law_signed k_law_signed,
    g_law_signed := PySem.W.mg_of X G a_law_signed,
    f_law_far := f_law_far,
    fd_law_far := PySem.W.fnOf "_law_far" "_law_far" (defArgs s_law_far) (defBody s_law_far) (defScope s_law_far) .none kV_law_far dc_law_far pm_law_far an_law_far cd_law_far ct_law_far,
    F_law_far := fun_mk (st := s_law_far) l_law_far c_law_far k_law_far,
    g_law_far := PySem.W.mg_of X G a_law_far,
    f_law_kind := f_law_kind,
    fd_law_kind := PySem.W.fnOf "_law_kind" "_law_kind" (defArgs s_law_kind) (defBody s_law_kind) (defScope s_law_kind) .none kV_law_kind dc_law_kind pm_law_kind an_law_kind cd_law_kind ct_law_kind,
    F_law_kind := fun_mk (st := s_law_kind) l_law_kind c_law_kind k_law_kind,
    g_law_kind := PySem.W.mg_of X G a_law_kind,
    f_law_is_step := f_law_is_step,
    fd_law_is_step := PySem.W.fnOf "_law_is_step" "_law_is_step" (defArgs s_law_is_step) (defBody s_law_is_step) (defScope s_law_is_step) .none kV_law_is_step dc_law_is_step pm_law_is_step an_law_is_step cd_law_is_step ct_law_is_step,
    F_law_is_step := fun_mk (st := s_law_is_step) l_law_is_step c_law_is_step k_law_is_step,
    g_law_is_step := PySem.W.mg_of X G a_law_is_step,
    f_law_bent_step := f_law_bent_step,
    fd_law_bent_step := PySem.W.fnOf "_law_bent_step" "_law_bent_step" (defArgs s_law_bent_step) (defBody s_law_bent_step) (defScope s_law_bent_step) .none kV_law_bent_step dc_law_bent_step pm_law_bent_step an_law_bent_step cd_law_bent_step ct_law_bent_step,
    F_law_bent_step := fun_mk (st := s_law_bent_step) l_law_bent_step c_law_bent_step k_law_bent_step,
    g_law_bent_step := PySem.W.mg_of X G a_law_bent_step,
    f_law_right := f_law_right,
    fd_law_right := PySem.W.fnOf "_law_right" "_law_right" (defArgs s_law_right) (defBody s_law_right) (defScope s_law_right) .none kV_law_right dc_law_right pm_law_right an_law_right cd_law_right ct_law_right,
    F_law_right := fun_mk (st := s_law_right) l_law_right c_law_right k_law_right,
    g_law_right := PySem.W.mg_of X G a_law_right,
    f_law := f_law,
    fd_law := PySem.W.fnOf "law" "law" (defArgs s_law) (defBody s_law) (defScope s_law) .none kV_law dc_law pm_law an_law cd_law ct_law,
    F_law := fun_mk (st := s_law) l_law c_law k_law,
    g_law := PySem.W.mg_of X G a_law,
    C_BadValue := C_BadValue,
    g_BadValue := PySem.W.mg_of X G a_BadValue,
    C_BadText := C_BadText,
    g_BadText := PySem.W.mg_of X G a_BadText,
    C_NoSuch := C_NoSuch,
    g_NoSuch := PySem.W.mg_of X G a_NoSuch,
    C_TooMany := C_TooMany,
    g_TooMany := PySem.W.mg_of X G a_TooMany,
    C_Style := C_Style,
    g_Style := PySem.W.mg_of X G a_Style,
    er_BadValue := ErC.mk he_BadValue_0 he_BadValue_1 he_BadValue_2 he_BadValue_3 he_BadValue_4 he_BadValue_5 he_BadValue_6 he_BadValue_7 he_BadValue_8,
    tc_BadValue := tc_BadValue',
    sb_BadValue_BadValue := sb_BadValue_BadValue',
    sb_BadValue_BadText := sb_BadValue_BadText',
    sb_BadValue_NoSuch := sb_BadValue_NoSuch',
    sb_BadValue_TooMany := sb_BadValue_TooMany',
    sb_BadValue_ValueError := sb_BadValue_ValueError',
    sb_BadValue_KeyError := sb_BadValue_KeyError',
    sb_BadValue_OverflowError := sb_BadValue_OverflowError',
    no_BadValue_what := no_BadValue_what',
    ox_BadValue := OexC.mk ⟨_, _, _, _, _, _, _, _, _, _, _, _, _, _, _, ox_BadValue_0, ox_BadValue_1⟩ ox_BadValue_2 (ErC.ex (ErC.mk he_BadValue_0 he_BadValue_1 he_BadValue_2 he_BadValue_3 he_BadValue_4 he_BadValue_5 he_BadValue_6 he_BadValue_7 he_BadValue_8)) tc_BadValue' ox_BadValue_3,
    in_BadValue := in_BadValue',
    ti_BadValue := ti_BadValue',
    vv_BadValue := vv_BadValue',
    er_BadText := ErC.mk he_BadText_0 he_BadText_1 he_BadText_2 he_BadText_3 he_BadText_4 he_BadText_5 he_BadText_6 he_BadText_7 he_BadText_8,
    tc_BadText := tc_BadText',
    sb_BadText_BadValue := sb_BadText_BadValue',
    sb_BadText_BadText := sb_BadText_BadText',
    sb_BadText_NoSuch := sb_BadText_NoSuch',
    sb_BadText_TooMany := sb_BadText_TooMany',
    sb_BadText_ValueError := sb_BadText_ValueError',
    sb_BadText_KeyError := sb_BadText_KeyError',
    sb_BadText_OverflowError := sb_BadText_OverflowError',
    no_BadText_what := no_BadText_what',
    no_BadText_row := no_BadText_row',
    no_BadText_word := no_BadText_word',
    er_NoSuch := ErC.mk he_NoSuch_0 he_NoSuch_1 he_NoSuch_2 he_NoSuch_3 he_NoSuch_4 he_NoSuch_5 he_NoSuch_6 he_NoSuch_7 he_NoSuch_8,
    tc_NoSuch := tc_NoSuch',
    sb_NoSuch_BadValue := sb_NoSuch_BadValue',
    sb_NoSuch_BadText := sb_NoSuch_BadText',
    sb_NoSuch_NoSuch := sb_NoSuch_NoSuch',
    sb_NoSuch_TooMany := sb_NoSuch_TooMany',
    sb_NoSuch_ValueError := sb_NoSuch_ValueError',
    sb_NoSuch_KeyError := sb_NoSuch_KeyError',
    sb_NoSuch_OverflowError := sb_NoSuch_OverflowError',
    no_NoSuch_what := no_NoSuch_what',
    no_NoSuch_name := no_NoSuch_name',
    er_TooMany := ErC.mk he_TooMany_0 he_TooMany_1 he_TooMany_2 he_TooMany_3 he_TooMany_4 he_TooMany_5 he_TooMany_6 he_TooMany_7 he_TooMany_8,
    tc_TooMany := tc_TooMany',
    sb_TooMany_BadValue := sb_TooMany_BadValue',
    sb_TooMany_BadText := sb_TooMany_BadText',
    sb_TooMany_NoSuch := sb_TooMany_NoSuch',
    sb_TooMany_TooMany := sb_TooMany_TooMany',
    sb_TooMany_ValueError := sb_TooMany_ValueError',
    sb_TooMany_KeyError := sb_TooMany_KeyError',
    sb_TooMany_OverflowError := sb_TooMany_OverflowError',
    no_TooMany_most := no_TooMany_most',
    cl_Style := ⟨hc_Style_0, hc_Style_1, hc_Style_2, hc_Style_3⟩,
    no_Style__name := no_Style__name',
    no_Style__steps := no_Style__steps',
    mk_Style := ⟨hm_Style_0, hm_Style_1, hm_Style_2, hm_Style_3⟩,
    m_Style_step := ⟨hf_Style_step_0, hf_Style_step_1, hf_Style_step_2⟩,
    m_Style_len := ⟨hf_Style_len_0, hf_Style_len_1, hf_Style_len_2⟩,
    ti_Style_len := ti_Style_len',
    cT_law_right := cT_law_right,
    pT_law_right := pT_law_right,
    in_law_right := a_law_right,
    tb_law_right := tab_by a_law_right l_law_right e_law_right lc_law_right lp_law_right,
    np_law_right := np_law_right }

theorem law_fin {l : PySem.W.OpenLaw} {w : World} {K : PySem.W.Frag} {mg : PySem.Str → Option Value} {fa : Addr} {q : Program} {dd : DefRec} (hfa : mg "law" = some (.ref fa)) (T : Txt mg K w.params)
    (hr : (PyProof.Rows.recsOf q).find? (fun e => e.name == ("_law_right" : PySem.Str)) = some dd) :
    ∃ (fd : FuncData) (sp : Sp) (cs : List (Addr × Addr)), (∀ p ∈ cs, ∃ (y : PySem.Str) (e : DefRec), (PyProof.Rows.recsOf q).find? (fun e => e.name == y) = some e ∧ PySem.W.tabIn K y = some p) ∧ (∀ p ∈ cs, K.lookup p.2 = none) ∧
        (∀ (s : Shared) (u : Value), BindsTo s fd ⟨[u], []⟩ [("script", u)]) ∧ (∀ base : Heap, K.In base → base.Ns mainGlobals mg → (∀ p ∈ cs, LamX.TabB base mg p.1 p.2) → FnG l.prog w K mg base 9 fa fd ["script"] sp) ∧
        ∀ (H : Hp) (a : Addr) (ns : List Int), ns.length ≤ 63 → SqL K H a (ns.map V.int) → (∀ p ∈ cs, H p.2 = some (.tbl #[])) → (∀ b, b ≠ a → (∀ p ∈ cs, p.2 ≠ b) → H b = none) → sp [.ref a] H (fun v _ => v = .bl true) fun _ _ _ => False := by
  have e := hfa.symm.trans T.g_law
  cases e
  refine ⟨T.fd_law, spLaw K T.pT_law_right, [(T.cT_law_right, T.pT_law_right)], fun p hp => ?_, fun p hp => ?_, fun s u => ?_, fun base _ _ tb => ok_law T (tb _ (List.mem_singleton.mpr rfl)), fun H a ns hl hS ht _ => ?_⟩
  · rw [List.mem_singleton.mp hp]
    exact ⟨_, _, hr, T.tb_law_right⟩
  · rw [List.mem_singleton.mp hp]
    exact T.np_law_right
  · obtain ⟨oc, od, kV, doc, pm, an, cdv, ct, osl, efd, _, _⟩ := T.F_law.ex
    rw [efd]
    exact .of_eq rfl
  · refine ⟨a, ns, rfl, hS, hl, fun p hp => ?_, fun _ => rfl⟩
    rw [List.mem_singleton.mp hp]
    exact LamX.TabS.nil (ht _ (List.mem_singleton.mpr rfl))
end K
open PySem PySem.W PyProof.Rows in
set_option maxRecDepth 100000 in
set_option maxHeartbeats 0 in
theorem PySem.Challenge.cw_bindbench_k02_steps_and_kinds_holds : PySem.Challenge.rw_bindbench_k02_steps_and_kinds.Holds := by
  w_on; o_law; k_head; (case hw => w_witness2)
  k_fill
  refine Gd.walkGT (l := PySem.Challenge.rw_bindbench_k02_steps_and_kinds) (n := 63) (k := 9) (x := "script") rfl (by decide) rfl ⟨rfl, by decide, by decide⟩ (fun w h Y => PySem.W.km_in_of Y) ?F
  case F =>
    intro w mg fa h KX G hmg
    refine' K.law_fin hmg (K.txt_mk (prm := w.params) KX G ?a_BadValue ?a_BadText ?a_NoSuch ?a_TooMany ?a_Style ?z_KeyError ?z_OverflowError ?z_ValueError ?z_all ?z_bool ?z_enumerate ?z_int ?z_isinstance ?z_len ?z_list ?z_range ?z_repr ?z_str ?z_tuple ?z_type ?y_MOST_LETTERS ?y_MOST_STEP_HOURS ?y_NO_NAMES ?x_NO_NAMES ?y_KIND_OF_WORK ?x_KIND_OF_WORK ?w_KIND_OF_WORK ?y_MOST_STEPS ?a_is_whole ?l_is_whole ?c_is_whole ?k_is_whole ?x_is_whole ?a_is_name ?l_is_name ?c_is_name ?k_is_name ?a_is_step ?l_is_step ?c_is_step ?k_is_step ?a_kind_of ?l_kind_of ?c_kind_of ?k_kind_of ?b_BadValue ?l_BadValue_init ?c_BadValue_init ?k_BadValue_init ?a_are_steps ?l_are_steps ?c_are_steps ?k_are_steps ?b_Style ?l_Style_init ?c_Style_init ?k_Style_init ?b_Style_step ?l_Style_step ?c_Style_step ?k_Style_step ?b_Style_len ?l_Style_len ?c_Style_len ?k_Style_len ?a_law_mixed ?l_law_mixed ?c_law_mixed ?k_law_mixed ?a_law_folded ?l_law_folded ?c_law_folded ?k_law_folded ?a_law_draw ?l_law_draw ?c_law_draw ?k_law_draw ?a_law_begun ?l_law_begun ?c_law_begun ?k_law_begun ?a_law_called ?l_law_called ?c_law_called ?k_law_called ?a_law_step ?l_law_step ?c_law_step ?k_law_step ?a_law_class ?l_law_class ?c_law_class ?k_law_class ?a_law_told ?l_law_told ?c_law_told ?k_law_told ?a_law_whole ?l_law_whole ?c_law_whole ?k_law_whole ?a_law_signed ?l_law_signed ?c_law_signed ?k_law_signed ?a_law_far ?l_law_far ?c_law_far ?k_law_far ?a_law_kind ?l_law_kind ?c_law_kind ?k_law_kind ?a_law_is_step ?l_law_is_step ?c_law_is_step ?k_law_is_step ?a_law_bent_step ?l_law_bent_step ?c_law_bent_step ?k_law_bent_step ?a_law_right ?l_law_right ?c_law_right ?k_law_right ?a_law ?l_law ?c_law ?k_law ?he_BadValue_0 ?he_BadValue_1 ?he_BadValue_2 ?he_BadValue_3 ?he_BadValue_4 ?he_BadValue_5 ?he_BadValue_6 ?he_BadValue_7 ?he_BadValue_8 ?tc_BadValue' ?sb_BadValue_BadValue' ?sb_BadValue_BadText' ?sb_BadValue_NoSuch' ?sb_BadValue_TooMany' ?sb_BadValue_ValueError' ?sb_BadValue_KeyError' ?sb_BadValue_OverflowError' ?no_BadValue_what' ?ox_BadValue_0 ?ox_BadValue_1 ?ox_BadValue_2 ?ox_BadValue_3 ?in_BadValue' ?ti_BadValue' ?vv_BadValue' ?he_BadText_0 ?he_BadText_1 ?he_BadText_2 ?he_BadText_3 ?he_BadText_4 ?he_BadText_5 ?he_BadText_6 ?he_BadText_7 ?he_BadText_8 ?tc_BadText' ?sb_BadText_BadValue' ?sb_BadText_BadText' ?sb_BadText_NoSuch' ?sb_BadText_TooMany' ?sb_BadText_ValueError' ?sb_BadText_KeyError' ?sb_BadText_OverflowError' ?no_BadText_what' ?no_BadText_row' ?no_BadText_word' ?he_NoSuch_0 ?he_NoSuch_1 ?he_NoSuch_2 ?he_NoSuch_3 ?he_NoSuch_4 ?he_NoSuch_5 ?he_NoSuch_6 ?he_NoSuch_7 ?he_NoSuch_8 ?tc_NoSuch' ?sb_NoSuch_BadValue' ?sb_NoSuch_BadText' ?sb_NoSuch_NoSuch' ?sb_NoSuch_TooMany' ?sb_NoSuch_ValueError' ?sb_NoSuch_KeyError' ?sb_NoSuch_OverflowError' ?no_NoSuch_what' ?no_NoSuch_name' ?he_TooMany_0 ?he_TooMany_1 ?he_TooMany_2 ?he_TooMany_3 ?he_TooMany_4 ?he_TooMany_5 ?he_TooMany_6 ?he_TooMany_7 ?he_TooMany_8 ?tc_TooMany' ?sb_TooMany_BadValue' ?sb_TooMany_BadText' ?sb_TooMany_NoSuch' ?sb_TooMany_TooMany' ?sb_TooMany_ValueError' ?sb_TooMany_KeyError' ?sb_TooMany_OverflowError' ?no_TooMany_most' ?hc_Style_0 ?hc_Style_1 ?hc_Style_2 ?hc_Style_3 ?no_Style__name' ?no_Style__steps' ?hm_Style_0 ?hm_Style_1 ?hm_Style_2 ?hm_Style_3 ?hf_Style_step_0 ?hf_Style_step_1 ?hf_Style_step_2 ?hf_Style_len_0 ?hf_Style_len_1 ?hf_Style_len_2 ?ti_Style_len' ?e_law_right ?lc_law_right ?lp_law_right ?np_law_right) ?hr0
    (case hr0 => rfl)
    (case a_BadValue => first | k_is | rfl | kernel_rfl | decide +kernel)
    (case a_BadText => first | k_is | rfl | kernel_rfl | decide +kernel)
    (case a_NoSuch => first | k_is | rfl | kernel_rfl | decide +kernel)
    (case a_TooMany => first | k_is | rfl | kernel_rfl | decide +kernel)
    (case a_Style => first | k_is | rfl | kernel_rfl | decide +kernel)
    (case z_KeyError => first | k_is | rfl | kernel_rfl | decide +kernel)
    (case z_OverflowError => first | k_is | rfl | kernel_rfl | decide +kernel)
    (case z_ValueError => first | k_is | rfl | kernel_rfl | decide +kernel)
    (case z_all => first | k_is | rfl | kernel_rfl | decide +kernel)
    (case z_bool => first | k_is | rfl | kernel_rfl | decide +kernel)
    (case z_enumerate => first | k_is | rfl | kernel_rfl | decide +kernel)
    (case z_int => first | k_is | rfl | kernel_rfl | decide +kernel)
    (case z_isinstance => first | k_is | rfl | kernel_rfl | decide +kernel)
    (case z_len => first | k_is | rfl | kernel_rfl | decide +kernel)
    (case z_list => first | k_is | rfl | kernel_rfl | decide +kernel)
    (case z_range => first | k_is | rfl | kernel_rfl | decide +kernel)
    (case z_repr => first | k_is | rfl | kernel_rfl | decide +kernel)
    (case z_str => first | k_is | rfl | kernel_rfl | decide +kernel)
    (case z_tuple => first | k_is | rfl | kernel_rfl | decide +kernel)
    (case z_type => first | k_is | rfl | kernel_rfl | decide +kernel)
    (case y_MOST_LETTERS => first | k_is | rfl | kernel_rfl | decide +kernel)
    (case y_MOST_STEP_HOURS => first | k_is | rfl | kernel_rfl | decide +kernel)
    (case y_NO_NAMES => first | k_is | rfl | kernel_rfl | decide +kernel)
    (case x_NO_NAMES => first | k_is | rfl | kernel_rfl | decide +kernel)
    (case y_KIND_OF_WORK => first | k_is | rfl | kernel_rfl | decide +kernel)
    (case x_KIND_OF_WORK => first | k_is | rfl | kernel_rfl | decide +kernel)
    (case w_KIND_OF_WORK => first | k_is | rfl | kernel_rfl | decide +kernel)
    (case y_MOST_STEPS => first | k_is | rfl | kernel_rfl | decide +kernel)
    (case a_is_whole => first | k_is | rfl | kernel_rfl | decide +kernel)
    (case l_is_whole => first | k_is | rfl | kernel_rfl | decide +kernel)
    (case c_is_whole => first | k_is | rfl | kernel_rfl | decide +kernel)
    (case k_is_whole => first | k_is | rfl | kernel_rfl | decide +kernel)
    (case x_is_whole => first | k_is | rfl | kernel_rfl | decide +kernel)
    (case a_is_name => first | k_is | rfl | kernel_rfl | decide +kernel)
    (case l_is_name => first | k_is | rfl | kernel_rfl | decide +kernel)
    (case c_is_name => first | k_is | rfl | kernel_rfl | decide +kernel)
    (case k_is_name => first | k_is | rfl | kernel_rfl | decide +kernel)
    (case a_is_step => first | k_is | rfl | kernel_rfl | decide +kernel)
    (case l_is_step => first | k_is | rfl | kernel_rfl | decide +kernel)
    (case c_is_step => first | k_is | rfl | kernel_rfl | decide +kernel)
    (case k_is_step => first | k_is | rfl | kernel_rfl | decide +kernel)
    (case a_kind_of => first | k_is | rfl | kernel_rfl | decide +kernel)
    (case l_kind_of => first | k_is | rfl | kernel_rfl | decide +kernel)
    (case c_kind_of => first | k_is | rfl | kernel_rfl | decide +kernel)
    (case k_kind_of => first | k_is | rfl | kernel_rfl | decide +kernel)
    (case b_BadValue => first | k_is | rfl | kernel_rfl | decide +kernel)
    (case l_BadValue_init => first | k_is | rfl | kernel_rfl | decide +kernel)
    (case c_BadValue_init => first | k_is | rfl | kernel_rfl | decide +kernel)
    (case k_BadValue_init => first | k_is | rfl | kernel_rfl | decide +kernel)
    (case a_are_steps => first | k_is | rfl | kernel_rfl | decide +kernel)
    (case l_are_steps => first | k_is | rfl | kernel_rfl | decide +kernel)
    (case c_are_steps => first | k_is | rfl | kernel_rfl | decide +kernel)
    (case k_are_steps => first | k_is | rfl | kernel_rfl | decide +kernel)
    (case b_Style => first | k_is | rfl | kernel_rfl | decide +kernel)
    (case l_Style_init => first | k_is | rfl | kernel_rfl | decide +kernel)
    (case c_Style_init => first | k_is | rfl | kernel_rfl | decide +kernel)
    (case k_Style_init => first | k_is | rfl | kernel_rfl | decide +kernel)
    (case b_Style_step => first | k_is | rfl | kernel_rfl | decide +kernel)
    (case l_Style_step => first | k_is | rfl | kernel_rfl | decide +kernel)
    (case c_Style_step => first | k_is | rfl | kernel_rfl | decide +kernel)
    (case k_Style_step => first | k_is | rfl | kernel_rfl | decide +kernel)
    (case b_Style_len => first | k_is | rfl | kernel_rfl | decide +kernel)
    (case l_Style_len => first | k_is | rfl | kernel_rfl | decide +kernel)
    (case c_Style_len => first | k_is | rfl | kernel_rfl | decide +kernel)
    (case k_Style_len => first | k_is | rfl | kernel_rfl | decide +kernel)
    (case a_law_mixed => first | k_is | rfl | kernel_rfl | decide +kernel)
    (case l_law_mixed => first | k_is | rfl | kernel_rfl | decide +kernel)
    (case c_law_mixed => first | k_is | rfl | kernel_rfl | decide +kernel)
    (case k_law_mixed => first | k_is | rfl | kernel_rfl | decide +kernel)
    (case a_law_folded => first | k_is | rfl | kernel_rfl | decide +kernel)
    (case l_law_folded => first | k_is | rfl | kernel_rfl | decide +kernel)
    (case c_law_folded => first | k_is | rfl | kernel_rfl | decide +kernel)
    (case k_law_folded => first | k_is | rfl | kernel_rfl | decide +kernel)
    (case a_law_draw => first | k_is | rfl | kernel_rfl | decide +kernel)
    (case l_law_draw => first | k_is | rfl | kernel_rfl | decide +kernel)
    (case c_law_draw => first | k_is | rfl | kernel_rfl | decide +kernel)
    (case k_law_draw => first | k_is | rfl | kernel_rfl | decide +kernel)
    (case a_law_begun => first | k_is | rfl | kernel_rfl | decide +kernel)
    (case l_law_begun => first | k_is | rfl | kernel_rfl | decide +kernel)
    (case c_law_begun => first | k_is | rfl | kernel_rfl | decide +kernel)
    (case k_law_begun => first | k_is | rfl | kernel_rfl | decide +kernel)
    (case a_law_called => first | k_is | rfl | kernel_rfl | decide +kernel)
    (case l_law_called => first | k_is | rfl | kernel_rfl | decide +kernel)
    (case c_law_called => first | k_is | rfl | kernel_rfl | decide +kernel)
    (case k_law_called => first | k_is | rfl | kernel_rfl | decide +kernel)
    (case a_law_step => first | k_is | rfl | kernel_rfl | decide +kernel)
    (case l_law_step => first | k_is | rfl | kernel_rfl | decide +kernel)
    (case c_law_step => first | k_is | rfl | kernel_rfl | decide +kernel)
    (case k_law_step => first | k_is | rfl | kernel_rfl | decide +kernel)
    (case a_law_class => first | k_is | rfl | kernel_rfl | decide +kernel)
    (case l_law_class => first | k_is | rfl | kernel_rfl | decide +kernel)
    (case c_law_class => first | k_is | rfl | kernel_rfl | decide +kernel)
    (case k_law_class => first | k_is | rfl | kernel_rfl | decide +kernel)
    (case a_law_told => first | k_is | rfl | kernel_rfl | decide +kernel)
    (case l_law_told => first | k_is | rfl | kernel_rfl | decide +kernel)
    (case c_law_told => first | k_is | rfl | kernel_rfl | decide +kernel)
    (case k_law_told => first | k_is | rfl | kernel_rfl | decide +kernel)
    (case a_law_whole => first | k_is | rfl | kernel_rfl | decide +kernel)
    (case l_law_whole => first | k_is | rfl | kernel_rfl | decide +kernel)
    (case c_law_whole => first | k_is | rfl | kernel_rfl | decide +kernel)
    (case k_law_whole => first | k_is | rfl | kernel_rfl | decide +kernel)
    (case a_law_signed => first | k_is | rfl | kernel_rfl | decide +kernel)
    (case l_law_signed => first | k_is | rfl | kernel_rfl | decide +kernel)
    (case c_law_signed => first | k_is | rfl | kernel_rfl | decide +kernel)
    (case k_law_signed => first | k_is | rfl | kernel_rfl | decide +kernel)
    (case a_law_far => first | k_is | rfl | kernel_rfl | decide +kernel)
    (case l_law_far => first | k_is | rfl | kernel_rfl | decide +kernel)
    (case c_law_far => first | k_is | rfl | kernel_rfl | decide +kernel)
    (case k_law_far => first | k_is | rfl | kernel_rfl | decide +kernel)
    (case a_law_kind => first | k_is | rfl | kernel_rfl | decide +kernel)
    (case l_law_kind => first | k_is | rfl | kernel_rfl | decide +kernel)
    (case c_law_kind => first | k_is | rfl | kernel_rfl | decide +kernel)
    (case k_law_kind => first | k_is | rfl | kernel_rfl | decide +kernel)
    (case a_law_is_step => first | k_is | rfl | kernel_rfl | decide +kernel)
    (case l_law_is_step => first | k_is | rfl | kernel_rfl | decide +kernel)
    (case c_law_is_step => first | k_is | rfl | kernel_rfl | decide +kernel)
    (case k_law_is_step => first | k_is | rfl | kernel_rfl | decide +kernel)
    (case a_law_bent_step => first | k_is | rfl | kernel_rfl | decide +kernel)
    (case l_law_bent_step => first | k_is | rfl | kernel_rfl | decide +kernel)
    (case c_law_bent_step => first | k_is | rfl | kernel_rfl | decide +kernel)
    (case k_law_bent_step => first | k_is | rfl | kernel_rfl | decide +kernel)
    (case a_law_right => first | k_is | rfl | kernel_rfl | decide +kernel)
    (case l_law_right => first | k_is | rfl | kernel_rfl | decide +kernel)
    (case c_law_right => first | k_is | rfl | kernel_rfl | decide +kernel)
    (case k_law_right => first | k_is | rfl | kernel_rfl | decide +kernel)
    (case a_law => first | k_is | rfl | kernel_rfl | decide +kernel)
    (case l_law => first | k_is | rfl | kernel_rfl | decide +kernel)
    (case c_law => first | k_is | rfl | kernel_rfl | decide +kernel)
    (case k_law => first | k_is | rfl | kernel_rfl | decide +kernel)
    (case he_BadValue_0 => first | k_is | rfl | kernel_rfl | decide +kernel)
    (case he_BadValue_1 => first | k_is | rfl | kernel_rfl | decide +kernel)
    (case he_BadValue_2 => first | k_is | rfl | kernel_rfl | decide +kernel)
    (case he_BadValue_3 => first | k_is | rfl | kernel_rfl | decide +kernel)
    (case he_BadValue_4 => first | k_is | rfl | kernel_rfl | decide +kernel)
    (case he_BadValue_5 => first | k_is | rfl | kernel_rfl | decide +kernel)
    (case he_BadValue_6 => first | k_is | rfl | kernel_rfl | decide +kernel)
    (case he_BadValue_7 => first | k_is | rfl | kernel_rfl | decide +kernel)
    (case he_BadValue_8 => first | k_is | rfl | kernel_rfl | decide +kernel)
    (case tc_BadValue' => first | k_is | rfl | kernel_rfl | decide +kernel)
    (case sb_BadValue_BadValue' => first | k_is | rfl | kernel_rfl | decide +kernel)
    (case sb_BadValue_BadText' => first | k_is | rfl | kernel_rfl | decide +kernel)
    (case sb_BadValue_NoSuch' => first | k_is | rfl | kernel_rfl | decide +kernel)
    (case sb_BadValue_TooMany' => first | k_is | rfl | kernel_rfl | decide +kernel)
    (case sb_BadValue_ValueError' => first | k_is | rfl | kernel_rfl | decide +kernel)
    (case sb_BadValue_KeyError' => first | k_is | rfl | kernel_rfl | decide +kernel)
    (case sb_BadValue_OverflowError' => first | k_is | rfl | kernel_rfl | decide +kernel)
    (case no_BadValue_what' => first | k_is | rfl | kernel_rfl | decide +kernel)
    (case ox_BadValue_0 => first | k_is | rfl | kernel_rfl | decide +kernel)
    (case ox_BadValue_1 => first | k_is | rfl | kernel_rfl | decide +kernel)
    (case ox_BadValue_2 => first | k_is | rfl | kernel_rfl | decide +kernel)
    (case ox_BadValue_3 => first | k_is | rfl | kernel_rfl | decide +kernel)
    (case in_BadValue' => first | k_is | rfl | kernel_rfl | decide +kernel)
    (case ti_BadValue' => first | k_is | rfl | kernel_rfl | decide +kernel)
    (case vv_BadValue' => first | k_is | rfl | kernel_rfl | decide +kernel)
    (case he_BadText_0 => first | k_is | rfl | kernel_rfl | decide +kernel)
    (case he_BadText_1 => first | k_is | rfl | kernel_rfl | decide +kernel)
    (case he_BadText_2 => first | k_is | rfl | kernel_rfl | decide +kernel)
    (case he_BadText_3 => first | k_is | rfl | kernel_rfl | decide +kernel)
    (case he_BadText_4 => first | k_is | rfl | kernel_rfl | decide +kernel)
    (case he_BadText_5 => first | k_is | rfl | kernel_rfl | decide +kernel)
    (case he_BadText_6 => first | k_is | rfl | kernel_rfl | decide +kernel)
    (case he_BadText_7 => first | k_is | rfl | kernel_rfl | decide +kernel)
    (case he_BadText_8 => first | k_is | rfl | kernel_rfl | decide +kernel)
    (case tc_BadText' => first | k_is | rfl | kernel_rfl | decide +kernel)
    (case sb_BadText_BadValue' => first | k_is | rfl | kernel_rfl | decide +kernel)
    (case sb_BadText_BadText' => first | k_is | rfl | kernel_rfl | decide +kernel)
    (case sb_BadText_NoSuch' => first | k_is | rfl | kernel_rfl | decide +kernel)
    (case sb_BadText_TooMany' => first | k_is | rfl | kernel_rfl | decide +kernel)
    (case sb_BadText_ValueError' => first | k_is | rfl | kernel_rfl | decide +kernel)
    (case sb_BadText_KeyError' => first | k_is | rfl | kernel_rfl | decide +kernel)
    (case sb_BadText_OverflowError' => first | k_is | rfl | kernel_rfl | decide +kernel)
    (case no_BadText_what' => first | k_is | rfl | kernel_rfl | decide +kernel)
    (case no_BadText_row' => first | k_is | rfl | kernel_rfl | decide +kernel)
    (case no_BadText_word' => first | k_is | rfl | kernel_rfl | decide +kernel)
    (case he_NoSuch_0 => first | k_is | rfl | kernel_rfl | decide +kernel)
    (case he_NoSuch_1 => first | k_is | rfl | kernel_rfl | decide +kernel)
    (case he_NoSuch_2 => first | k_is | rfl | kernel_rfl | decide +kernel)
    (case he_NoSuch_3 => first | k_is | rfl | kernel_rfl | decide +kernel)
    (case he_NoSuch_4 => first | k_is | rfl | kernel_rfl | decide +kernel)
    (case he_NoSuch_5 => first | k_is | rfl | kernel_rfl | decide +kernel)
    (case he_NoSuch_6 => first | k_is | rfl | kernel_rfl | decide +kernel)
    (case he_NoSuch_7 => first | k_is | rfl | kernel_rfl | decide +kernel)
    (case he_NoSuch_8 => first | k_is | rfl | kernel_rfl | decide +kernel)
    (case tc_NoSuch' => first | k_is | rfl | kernel_rfl | decide +kernel)
    (case sb_NoSuch_BadValue' => first | k_is | rfl | kernel_rfl | decide +kernel)
    (case sb_NoSuch_BadText' => first | k_is | rfl | kernel_rfl | decide +kernel)
    (case sb_NoSuch_NoSuch' => first | k_is | rfl | kernel_rfl | decide +kernel)
    (case sb_NoSuch_TooMany' => first | k_is | rfl | kernel_rfl | decide +kernel)
    (case sb_NoSuch_ValueError' => first | k_is | rfl | kernel_rfl | decide +kernel)
    (case sb_NoSuch_KeyError' => first | k_is | rfl | kernel_rfl | decide +kernel)
    (case sb_NoSuch_OverflowError' => first | k_is | rfl | kernel_rfl | decide +kernel)
    (case no_NoSuch_what' => first | k_is | rfl | kernel_rfl | decide +kernel)
    (case no_NoSuch_name' => first | k_is | rfl | kernel_rfl | decide +kernel)
    (case he_TooMany_0 => first | k_is | rfl | kernel_rfl | decide +kernel)
    (case he_TooMany_1 => first | k_is | rfl | kernel_rfl | decide +kernel)
    (case he_TooMany_2 => first | k_is | rfl | kernel_rfl | decide +kernel)
    (case he_TooMany_3 => first | k_is | rfl | kernel_rfl | decide +kernel)
    (case he_TooMany_4 => first | k_is | rfl | kernel_rfl | decide +kernel)
    (case he_TooMany_5 => first | k_is | rfl | kernel_rfl | decide +kernel)
    (case he_TooMany_6 => first | k_is | rfl | kernel_rfl | decide +kernel)
    (case he_TooMany_7 => first | k_is | rfl | kernel_rfl | decide +kernel)
    (case he_TooMany_8 => first | k_is | rfl | kernel_rfl | decide +kernel)
    (case tc_TooMany' => first | k_is | rfl | kernel_rfl | decide +kernel)
    (case sb_TooMany_BadValue' => first | k_is | rfl | kernel_rfl | decide +kernel)
    (case sb_TooMany_BadText' => first | k_is | rfl | kernel_rfl | decide +kernel)
    (case sb_TooMany_NoSuch' => first | k_is | rfl | kernel_rfl | decide +kernel)
    (case sb_TooMany_TooMany' => first | k_is | rfl | kernel_rfl | decide +kernel)
    (case sb_TooMany_ValueError' => first | k_is | rfl | kernel_rfl | decide +kernel)
    (case sb_TooMany_KeyError' => first | k_is | rfl | kernel_rfl | decide +kernel)
    (case sb_TooMany_OverflowError' => first | k_is | rfl | kernel_rfl | decide +kernel)
    (case no_TooMany_most' => first | k_is | rfl | kernel_rfl | decide +kernel)
    (case hc_Style_0 => first | k_is | rfl | kernel_rfl | decide +kernel)
    (case hc_Style_1 => first | k_is | rfl | kernel_rfl | decide +kernel)
    (case hc_Style_2 => first | k_is | rfl | kernel_rfl | decide +kernel)
    (case hc_Style_3 => first | k_is | rfl | kernel_rfl | decide +kernel)
    (case no_Style__name' => first | k_is | rfl | kernel_rfl | decide +kernel)
    (case no_Style__steps' => first | k_is | rfl | kernel_rfl | decide +kernel)
    (case hm_Style_0 => first | k_is | rfl | kernel_rfl | decide +kernel)
    (case hm_Style_1 => first | k_is | rfl | kernel_rfl | decide +kernel)
    (case hm_Style_2 => first | k_is | rfl | kernel_rfl | decide +kernel)
    (case hm_Style_3 => first | k_is | rfl | kernel_rfl | decide +kernel)
    (case hf_Style_step_0 => first | k_is | rfl | kernel_rfl | decide +kernel)
    (case hf_Style_step_1 => first | k_is | rfl | kernel_rfl | decide +kernel)
    (case hf_Style_step_2 => first | k_is | rfl | kernel_rfl | decide +kernel)
    (case hf_Style_len_0 => first | k_is | rfl | kernel_rfl | decide +kernel)
    (case hf_Style_len_1 => first | k_is | rfl | kernel_rfl | decide +kernel)
    (case hf_Style_len_2 => first | k_is | rfl | kernel_rfl | decide +kernel)
    (case ti_Style_len' => first | k_is | rfl | kernel_rfl | decide +kernel)
    (case e_law_right => first | k_is | rfl | kernel_rfl | decide +kernel)
    (case lc_law_right => first | k_is | rfl | kernel_rfl | decide +kernel)
    (case lp_law_right => first | k_is | rfl | kernel_rfl | decide +kernel)
    (case np_law_right => first | k_is | rfl | kernel_rfl | decide +kernel)
