import PyProof.Rows.All
import Wide.All
import OpenK.AllK
import Wide.FinOn
import HandS.ForMost
import HandS.IsInst
import HandS.Defaults
import HandS.Replace
import HandS.TupMul
import HandS.More
import KE.IntTextLaws
import PyProof.ReprBulk
import PySem.Challenge.RW_bindbench_k01_words
set_option Elab.async false
set_option linter.all false
set_option maxRecDepth 100000
set_option maxHeartbeats 2000000
namespace Gd
open PySem PySem.Spec PyProof.Rows L2

/-! ### a promise of a def that holds where no repr is under way -/
structure FnG (P : Program) (w : World) (K : PySem.W.Frag) (mg : Str → Option Value) (base : Heap) (k : Nat) (f : Addr) (fd : FuncData) (ps : List Str) (sp : Sp) : Prop where
  args : ∀ {vs H Q E}, sp vs H Q E → vs.length = ps.length
  runs : ∀ {A : Around} {out : List Env} {s : Shared} {H : Hp} {ar : Args} {us : List Value} {vs : List V} {Q : VK} {E : XK},
    A.guards = some [] → Room k A → Env0 P w K mg base A out s H → BindsTo s fd ar (ps.zip us) → Vals vs us → sp vs H Q E →
    codeAny (model P w) A (.call (.ref f) ar) (CR CX0 out P w H s Q E) s

variable {P : Program} {w : World} {K : PySem.W.Frag} {mg : Str → Option Value} {base : Heap}

theorem FnG.of {k : Nat} {f : Addr} {fd : FuncData} {ps : List Str} {sp : Sp} (F : FnOk P w K mg base CX0 k f fd ps sp) : FnG P w K mg base k f fd ps sp :=
  ⟨fun h => F.len _ _ _ _ h, fun _ hr e hb r h => F.run _ _ _ _ _ _ _ _ _ hr e hb r h⟩

/-- what CR CX0 says of a result -/
theorem cr_out {out : List Env} {H : Hp} {s s' : Shared} {Q : VK} {E : XK} {r : Result} (h : CR CX0 out P w H s Q E r s') : ∃ u, r = .ok (.ret u) ∧ CE out P w H s Q u s' := by
  match r, h with
  | .ok (.ret u), h => exact ⟨u, rfl, h⟩
  | .ok .next, h => exact False.elim h
  | .ok .brk, h => exact False.elim h
  | .ok .cont, h => exact False.elim h
  | .error _, h => exact False.elim h

theorem deeper_guards {A : Around} {env : Env} : (A.deeper env).guards = A.guards := rfl

/-- a def, from its body, where no repr is under way -/
theorem fn_okG {x qual : Str} {st : Stmt} {f : Addr} {fd : FuncData} {N ps : List Str} {k : Nat} {sp : Sp} (F : Fun K x qual st f fd) (S : FnScope N ps (defScope st)) (len : ∀ vs H Q E, sp vs H Q E → vs.length = ps.length)
    (hbody : ∀ (cdv : Value) (A : Around) (out : List Env) (s : Shared) (H : Hp) (vs : List V) (Q : VK) (E : XK), A.guards = some [] → Room k (A.deeper (envOfC qual (defScope st) s.heap.objs.size f cdv)) → sp vs H Q E →
      ∃ t, PSs (cxOf CX0 P w K mg base N qual (defScope st) f cdv A out s H E).nox (defBody st) t ∧ t { nx := fun _ H' => Q .non H', rt := Q } (start N vs) H) : FnG P w K mg base (k + 1) f fd ps sp := by
  obtain ⟨oc, od, kV, doc, pm, an, cdv, ct, osl, rfl, lk, hcd⟩ := F.ex
  refine ⟨fun h => len _ _ _ _ h, ?_⟩
  intro A out s H ar us vs Q E hA room e0 bnd rel pr
  obtain ⟨t, body, start'⟩ := hbody cdv A out s H vs Q E hA (room.deeper _) pr
  have inK : K.In s.heap := e0.mod.kin.keeps (fun b o q => (e0.bs b o q).1)
  have nolim : s.heap.NoLimit := e0.mod.nolimit.keeps (fun b o q => (e0.bs b o q).1)
  refine codeAny_call_function room.depth (inK _ _ lk) rfl S.co S.gen rfl (PySem.W.codeRec_of inK hcd) (bnd _ _ _ _ ?_)
  have kinds : ∀ y ∈ ps.zip us, (defScope st).names.lookup y.1 = some .local ∨ ((defScope st).names.lookup y.1 = some .cell ∧ ((cellsFrom (s.heap.objs.size + 1) (defScope st).names []).lookup y.1).isSome = true) := by
    rintro ⟨nm, val⟩ hy
    have m := (List.of_mem_zip hy).1
    exact (S.par nm m).imp id fun q => ⟨q, PySem.W.cellsFrom_some _ _ _ (.inl q)⟩
  refine wpAny_newFunctionEnv_cells S.kind kinds ?_
  rintro env rfl s1 made
  refine ⟨nolim.keeps made.toInCall.keep, codeAny_func ?_⟩
  have inv0 := inv_start (CX := CX0) (mg := mg) (qual := qual) (cd := cdv) (E := E) S room.hd e0 (len _ _ _ _ pr) rel made
  refine wpAny_mono ((body.nox).run [] s1 (start N vs) H _ inv0 start') ?_ fun e s' z => z
  intro fl s' z
  match fl, z with
  | .ret u, ⟨v, σ', H', J, rv, q⟩ => exact ⟨v, H', J.os, J.bare, J.base, J.hok, rv, q⟩
  | .next, ⟨σ', H', J, q⟩ => exact ⟨.non, H', J.os, J.bare, J.base, J.hok, rfl, q⟩
  | .brk, ⟨_, _, _, q⟩ => exact False.elim q
  | .cont, ⟨_, _, _, q⟩ => exact False.elim q

/-! ### calls of such defs -/
section
variable {X : Cx} {k : Nat} {f : Addr} {fd : FuncData} {ps : List Str} {sp : Sp} {dvs : List V} {ds : List Value} {E : XK} {x : Str} {p pos : Pos} {e : Expr} {es : List Expr} {t : TA}
theorem goG (G : FnG X.prog X.w X.K X.mg X.base k f fd ps sp) (hA : X.A.guards = some []) (room : Room k X.A) (bd : Binds X.K fd ps ds) (dv : Vals dvs ds)
    {pins : List (Addr × Obj)} {σ : L2.St} {H : Hp} {s : Shared} {Q : VK} {us : List Value} {vs : List V} (I : Inv X pins σ H s) (r : Vals vs us) (pr : sp (vs ++ dvs) H Q E) :
    wpAny (model X.prog X.w) X.A (call (.ref f) us) (EP X pins σ Q) X.xe s := by
  have rel := r.append dv
  have n : (us ++ ds).length = ps.length := rel.length ▸ G.args pr
  refine wpAny_call (codeAny_mono (G.runs hA room I.env0 (bd s us I.kIn n) rel pr) ?_)
  intro res s' out
  obtain ⟨u, rfl, ce⟩ := cr_out out
  exact I.after ce
/-- f(e, ..) of such a def -/
theorem pe_callG (G : FnG X.prog X.w X.K X.mg X.base k f fd ps sp) (hA : X.A.guards = some []) (room : Room k X.A) (gl : Gl X x) (at_ : X.mg x = some (.ref f)) (kp : PySem.W.keepIn X.K (.ref f) = true) (bd : Binds X.K fd ps ds) (dv : Vals dvs ds)
    (ha : PA X (e :: es) t) (ndb : (x == ("__debug__" : Str)) = false := by decide) (h1 : starEach (e :: es) X.env = (false, eval e X.env) :: starEach es X.env := by rfl) (h2 : (backTo pos (starEach es X.env)).any (·.1) = false := by rfl) :
    PE X (.Call (.Name x p) (e :: es) [] pos) (tCall sp dvs E t) :=
  ⟨fun pins s σ H Q I h => wpAny_Call_Name_kw (ld_glob I gl at_ (PySem.W.callWith_K (h₀ := X.base) I.ok.mod.kin kp
    (thn (ha.run pos pins s σ H _ I h) fun us s1 ⟨vs, H1, J, r, q⟩ => ⟨J.kIn, goG G hA room bd dv J r q⟩) h1 h2) ndb)⟩
end

/-! ### repr -/
section
variable {X : Cx}
theorem vals_one {x : V} {us : List Value} (r : Vals [x] us) : ∃ u, us = [u] ∧ RelV x u := by
  cases r with
  | cons a b => cases b; exact ⟨_, rfl, a⟩
/-- what may be shown -/
structure Shw (d : PyData) : Prop where
  ok : d.showable = true
  nod : d.hasDict = false
  dep : d.depth ≤ 60
  len : d.shown.length ≤ sizeLine
/-- repr(x) of data: its text hangs on the data alone -/
def rRepr (K : PySem.W.Frag) : List V → Hp → VK → Prop := fun xs H Q => ∃ (x : V) (d : PyData), xs = [x] ∧ Dp K H x d ∧ Shw d ∧ Q (.str d.shown) H
theorem call_repr (hA : X.A.guards = some []) (hu : X.A.units + 64 < cLine) : CallR X (.builtin "repr") (rRepr X.K) := by
  intro pins s σ H xs us Q I r h
  obtain ⟨x, d, rfl, hd, ⟨hs, hn, hdep, hz⟩, q⟩ := h
  obtain ⟨u, rfl, ru⟩ := vals_one r
  obtain ⟨as, rd⟩ := Dp.reads I d _ u hd ru
  have big : ∀ a : Addr, u = .ref a → wpAny (model X.prog X.w) X.A (call (.builtin "repr") [u]) (EP X pins σ Q) X.xe s := by
    rintro a rfl
    refine repr_of_reads' rd hs (PyData.noDict_hsm hn) hA (by omega) (fun _ _ e => e) (fun h' u tk kp => ?_) hz
    exact ⟨.str d.shown, H, I.kept kp, ⟨u, rfl⟩, q⟩
  cases hd with
  | non =>
    obtain rfl : u = Value.none := ru
    exact PySem.P.repr_of_none ⟨.str _, H, I.tok _, ⟨_, rfl⟩, q⟩
  | bl b =>
    obtain rfl : u = Value.bool b := ru
    refine PySem.P.repr_of_bool ⟨.str _, H, I.tok _, ⟨_, rfl⟩, ?_⟩
    cases b <;> exact q
  | int i =>
    obtain ⟨t, rfl⟩ := ru
    refine PySem.P.repr_of_int ?_ ⟨.str _, H, I.tok _, ⟨_, rfl⟩, q⟩
    simpa [PyData.showable] using hs
  | str z =>
    obtain ⟨t, rfl⟩ := ru
    exact PySem.P.repr_of_str ⟨.str _, H, I.tok _, ⟨_, rfl⟩, q⟩ hz
  | lst _ _ => exact big _ ru
  | tup _ _ => exact big _ ru
end
/-! ### the law's own call, where no repr is under way -/
/-- the heap below: all but the script -/
theorem below_script {s : Shared} {H : Hp} {a : Addr} {vs : Array Value} {n : Nat} {mb : Str → Option Value} (KX : K.In s.heap) (hns : s.heap.Ns mainGlobals mg) (hb : s.heap.Ns builtinsNs mb) (hbb : ∀ x : Str, x ≠ "__name__" → mb x = bootBuiltins x)
    (lim : s.heap.NoLimit) (ha : s.heap.get? a = some { cls := .type "list", data := .seq vs n }) (only : ∀ b, b ≠ a → H b = none) (apart : K.lookup a = none ∨ H a = none) :
    K.In (hidT s.heap H) ∧ (hidT s.heap H).Ns mainGlobals mg ∧ Mod K mg (hidT s.heap H) := by
  have names : ∀ (b : Addr) (m : Str → Option Value), s.heap.Ns b m → (hidT s.heap H).Ns b m := by
    rintro b m ⟨o, es, ep, q, dat, rest⟩
    refine ⟨o, es, ep, hidT_get q (only b fun z => ?_), dat, rest⟩
    subst z
    rw [ha] at q
    cases q
    cases (show Data.seq vs n = Data.dict es ep from dat)
  have inK : K.In (hidT s.heap H) := fun b o q => hidT_get (KX b o q) (by
    by_cases z : b = a
    · subst z
      rcases apart with w1 | w1
      · rw [w1] at q; cases q
      · exact w1
    · exact only b z)
  obtain ⟨mc, c1, c2⟩ := lim
  exact ⟨inK, names _ _ hns, ⟨inK, names _ _ hns, ⟨mb, names _ _ hb, hbb⟩, ⟨mc, names _ _ c1, c2⟩⟩⟩

theorem run_script {mb : Str → Option Value} {k : Nat} {fa a : Addr} {fd : FuncData} {x : Str} {sp : Sp} {s : Shared} {vs : List Value} {H : Hp}
    (KX : K.In s.heap) (hns : s.heap.Ns mainGlobals mg) (hb : s.heap.Ns builtinsNs mb) (hbb : ∀ x : Str, x ≠ "__name__" → mb x = bootBuiltins x) (lim : s.heap.NoLimit) (nog : s.gens = #[])
    (ha : s.heap.get? a = some { cls := .type "list", data := .seq vs.toArray }) (room : Room k callerA)
    (G : ∀ base : Heap, K.In base → base.Ns mainGlobals mg → FnG P w K mg base k fa fd [x] sp) (bind : ∀ (s : Shared) (u : Value), BindsTo s fd ⟨[u], []⟩ [(x, u)])
    (only : ∀ b, b ≠ a → H b = none) (apart : K.lookup a = none ∨ H a = none) (ok : HOk P w H s.heap) (fz : ∀ u, H a = some u → ∃ o v, u = .frz o v)
    (pr : sp [.ref a] H (fun v _ => v = .bl true) fun _ _ _ => False) :
    codeAny (model P w) callerA (.call (.ref fa) ⟨[.ref a], []⟩) (fun r s' => r = .ok (.ret (.bool true)) ∧ OldK s.heap s'.heap ∧ s'.os = s.os ∧ AllBare s'.gens) s := by
  obtain ⟨inK, nsm, md⟩ := below_script KX hns hb hbb lim ha only apart
  have none_in : ∀ b : Addr, b ∈ frs ([] : List Env) → False := fun b z => by cases z
  have env0 : Env0 P w K mg (hidT s.heap H) callerA [] s H :=
    { frames := rfl, mod := md, bs := fun b o q => of_hidT q, bsz := Nat.le_of_eq (hidT_size _ _), funs := trivial, frf := fun b z => (none_in b z).elim, hok := ok, bare := .of_eq nog }
  refine codeAny_mono ((G _ inK nsm).runs (us := [.ref a]) (vs := [.ref a]) rfl room env0 (bind s (.ref a)) (.cons rfl .nil) pr) ?_
  intro r s' out
  obtain ⟨u, rfl, v, H', os, bare, un, ok', rel, q⟩ := cr_out out
  subst q
  obtain rfl : u = Value.bool true := rel
  refine ⟨rfl, OldK.of_keep ?_, os, bare⟩
  intro b o old
  cases q : H b with
  | none => exact un.keep b o old q (fun z => none_in b z) (fun z => by cases z)
  | some ho =>
    by_cases z : b = a
    · subst z
      obtain ⟨ob, v', rfl⟩ := fz _ q
      have e1 := (ok b _ q).1
      have e2 := (ok' b _ (un.frzs b ob _ q)).1
      rw [old] at e1
      cases e1
      exact e2
    · rw [only b z] at q
      cases q

/-- what k_head leaves, from the promise of the law's def -/
theorem walkG {l : PySem.W.OpenLaw} {n k : Nat} {q : Program} {loose : List Str} {XP : (Str → Option Value) → Heap → Prop} {YP : World → Heap → Prop} {d : DefRec} {KK : Params → PySem.W.Frag} {sp : World → Sp} {x : Str}
    (hn : l.most = some n) (hn2 : n ≤ sizeLine) (nod : d.params.defaults = []) (room : Room k callerA) (hY : ∀ (w : World) (h : Heap), YP w h → (KK w.params).In h)
    (G : ∀ (w : World) (mg : Str → Option Value) (fa : Addr) (h : Heap), (KK w.params).In h → h.Ns mainGlobals mg → mg d.name = some (.ref fa) →
      ∃ fd : FuncData, (∀ (s : Shared) (u : Value), BindsTo s fd ⟨[u], []⟩ [(x, u)]) ∧ ∀ base : Heap, (KK w.params).In base → base.Ns mainGlobals mg → FnG l.prog w (KK w.params) mg base k fa fd [x] (sp w))
    (pr : ∀ (w : World) (H : Hp) (a : Addr) (ns : List Int), ns.length ≤ n → SqL (KK w.params) H a (ns.map V.int) → (∀ b, b ≠ a → H b = none) → sp w [.ref a] H (fun v _ => v = .bl true) fun _ _ _ => False) :
    PySem.W.WalkO q loose XP YP l.row.toRowW d [] (fun f vs => PySem.call f vs) := by
  refine Att.attach_call hn nod ?_
  intro w s0 s1 mg mb fa o pm cd doc a vs ns T Y _ _ _ at_ obj intsA len nog
  have KX := hY w _ Y
  obtain ⟨fd, bind, F⟩ := G w mg fa _ KX T.T.g at_
  have size : (ns.map V.int).length ≤ sizeLine := by
    rw [List.length_map]
    exact Nat.le_trans len hn2
  cases z : (KK w.params).lookup a with
  | none =>
    have at1 : (fun b => if b = a then some (HO.frz { cls := .type "list", data := .seq vs.toArray } (.lst (ns.map V.int))) else none : Hp) a = some (HO.frz { cls := .type "list", data := .seq vs.toArray } (.lst (ns.map V.int))) := if_pos rfl
    refine run_script (H := fun b => if b = a then some (.frz { cls := .type "list", data := .seq vs.toArray } (.lst (ns.map V.int))) else none) KX T.T.g T.T.b T.T.builtins T.T.nolimit nog obj room F bind (fun b ne => if_neg ne) (.inl z) ?_ ?_ ?_
    · intro b u e
      by_cases ne : b = a
      · subst ne
        have e2 := at1.symm.trans e
        cases e2
        exact ⟨obj, size, vs, _, vals_ints intsA, obj⟩
      · have e' := (if_neg ne).symm.trans e
        cases e'
    · intro u e
      have e2 := at1.symm.trans e
      cases e2
      exact ⟨_, _, rfl⟩
    · exact pr w _ a ns len (.inl (.inr ⟨_, at1⟩)) fun b ne => if_neg ne
  | some ob =>
    have e := KX a ob z
    rw [obj] at e
    cases e
    refine run_script (H := fun _ => none) KX T.T.g T.T.b T.T.builtins T.T.nolimit nog obj room F bind (fun _ _ => rfl) (.inr rfl) (fun b u e => by cases (show (none : Option HO) = some u from e)) (fun u e => by cases (show (none : Option HO) = some u from e)) ?_
    refine pr w _ a ns len (.inr ⟨_, vs.toArray, _, z, rfl, rfl, rfl, ?_, by simpa using vals_ints intsA⟩) fun _ _ => rfl
    rw [List.size_toArray, intsA.length]
    rw [List.length_map] at size
    exact size
end Gd

set_option maxRecDepth 100000
set_option maxHeartbeats 2000000
namespace Gd
open PySem PySem.Spec PyProof.Rows L2

/-! ### walks of any kind, by a word at each turn -/
section
variable {J : It} {g : TG} {tb : TS} {D : Ends} {σ : L2.St} {H : Hp}
theorem for_gen (n : Nat) (Pv : Nat → L2.St → Hp → Prop) (h0 : Pv 0 σ H) (go : ∀ i σ H, i < n → Pv i σ H → J.go i H) (stop : ∀ σ H, Pv n σ H → J.stop n H)
    (turn : ∀ i σ H x H', i < n → Pv i σ H → J.yld i H x H' → g x σ H' fun σ2 H2 => tb { D with nx := Pv (i + 1), ct := Pv (i + 1), bk := D.nx } σ2 H2) (fin : ∀ σ H, Pv n σ H → D.nx σ H) :
    ∃ W : Nat → Nat → L2.St → Hp → Prop, (∃ m, W 0 m σ H) ∧ ∀ i m σ H, W i m σ H → (J.stop i H ∧ D.nx σ H) ∨
      (J.go i H ∧ ∃ N : L2.St → Hp → Prop, (∀ σ' H', N σ' H' → ∃ m', m' < m ∧ W (i + 1) m' σ' H') ∧ ∀ x H', J.yld i H x H' → g x σ H' fun σ2 H2 => tb { D with nx := N, ct := N, bk := D.nx } σ2 H2) := by
  refine ⟨fun i m s h => i + m = n ∧ Pv i s h, ⟨n, Nat.zero_add n, h0⟩, fun i m s h hw => ?_⟩
  obtain ⟨e, p⟩ := hw
  match m, e with
  | 0, e =>
    obtain rfl : i = n := e
    exact .inl ⟨stop s h p, fin s h p⟩
  | m + 1, e =>
    have lt : i < n := by omega
    exact .inr ⟨go i s h lt p, Pv (i + 1), fun s' h' p' => ⟨m, Nat.lt_succ_self m, by omega, p'⟩, fun x h' y => turn i s h x h' lt p y⟩
theorem lc_gen {tt : TT} {te : TE} {vs : List Nat} {A : Addr} {Qd : Hp → Prop} (n : Nat) (Pv : Nat → Hp → Prop) (h0 : Pv 0 (upd H A (.lst []))) (go : ∀ i H, i < n → Pv i H → J.go i H) (stop : ∀ H, Pv n H → J.stop n H)
    (turn : ∀ i H x H', i < n → Pv i H → J.yld i H x H' → g x (wipe σ vs) H' fun σ2 H2 => wipe σ2 vs = wipe σ vs ∧ tt σ2 H2 fun b H3 =>
      if b = true then te σ2 H3 fun y H4 => ∃ acc, H4 A = some (.lst acc) ∧ acc.length < sizeLine ∧ Pv (i + 1) (upd H4 A (.lst (acc ++ [y]))) else Pv (i + 1) H3) (fin : ∀ H, Pv n H → Qd H) :
    ∃ W : Nat → Nat → Hp → Prop, (∃ m, W 0 m (upd H A (.lst []))) ∧ ∀ i m H, W i m H → (J.stop i H ∧ Qd H) ∨
      (J.go i H ∧ ∃ Nx : Hp → Prop, (∀ H', Nx H' → ∃ m', m' < m ∧ W (i + 1) m' H') ∧ ∀ x H', J.yld i H x H' → g x (wipe σ vs) H' fun σ2 H2 => wipe σ2 vs = wipe σ vs ∧ tt σ2 H2 fun b H3 =>
        if b = true then te σ2 H3 fun y H4 => ∃ acc, H4 A = some (.lst acc) ∧ acc.length < sizeLine ∧ Nx (upd H4 A (.lst (acc ++ [y]))) else Nx H3) := by
  refine ⟨fun i m h => i + m = n ∧ Pv i h, ⟨n, Nat.zero_add n, h0⟩, fun i m h hw => ?_⟩
  obtain ⟨e, p⟩ := hw
  match m, e with
  | 0, e =>
    obtain rfl : i = n := e
    exact .inl ⟨stop h p, fin h p⟩
  | m + 1, e =>
    have lt : i < n := by omega
    exact .inr ⟨go i h lt p, Pv (i + 1), fun h' p' => ⟨m, Nat.lt_succ_self m, by omega, p'⟩, fun x h' y => turn i h x h' lt p y⟩
end
/-- over enumerate(list) -/
theorem for_enum {K : PySem.W.Frag} {a : Addr} {xs : List V} {g : TG} {tb : TS} {D : Ends} {σ : L2.St} {H : Hp} (Pv : Nat → L2.St → Hp → Prop) (h0 : Pv 0 σ H) (st : ∀ i σ H, Pv i σ H → SqL K H a xs)
    (turn : ∀ i x σ H T, i < xs.length → xs[i]? = some x → Pv i σ H → H T = none → g (.ref T) σ (upd H T (.tup [.int (i : Nat), x])) fun σ2 H2 => tb { D with nx := Pv (i + 1), ct := Pv (i + 1), bk := D.nx } σ2 H2) (fin : ∀ σ H, Pv xs.length σ H → D.nx σ H) :
    ∃ W : Nat → Nat → L2.St → Hp → Prop, (∃ m, W 0 m σ H) ∧ ∀ i m σ H, W i m σ H → ((Ite K a).stop i H ∧ D.nx σ H) ∨
      ((Ite K a).go i H ∧ ∃ N : L2.St → Hp → Prop, (∀ σ' H', N σ' H' → ∃ m', m' < m ∧ W (i + 1) m' σ' H') ∧ ∀ x H', (Ite K a).yld i H x H' → g x σ H' fun σ2 H2 => tb { D with nx := N, ct := N, bk := D.nx } σ2 H2) := by
  refine for_gen xs.length Pv h0 (fun i s h lt p => ⟨xs, xs[i], st i s h p, List.getElem?_eq_getElem lt⟩) (fun s h p => ⟨xs, st _ s h p, Nat.le_refl _⟩) (fun i s h x h' lt p y => ?_) fin
  obtain ⟨T, z, rfl, fresh, rfl, known⟩ := y
  exact turn i z s h T lt (known xs (st i s h p)) p fresh
/-- over a text -/
theorem for_str {x : PySem.Str} {g : TG} {tb : TS} {D : Ends} {σ : L2.St} {H : Hp} (Pv : Nat → L2.St → Hp → Prop) (h0 : Pv 0 σ H)
    (turn : ∀ i c σ H, i < x.cps.toList.length → x.cps.toList[i]? = some c → Pv i σ H → g (.str ⟨#[c]⟩) σ H fun σ2 H2 => tb { D with nx := Pv (i + 1), ct := Pv (i + 1), bk := D.nx } σ2 H2) (fin : ∀ σ H, Pv x.cps.toList.length σ H → D.nx σ H) :
    ∃ W : Nat → Nat → L2.St → Hp → Prop, (∃ m, W 0 m σ H) ∧ ∀ i m σ H, W i m σ H → ((Its x).stop i H ∧ D.nx σ H) ∨
      ((Its x).go i H ∧ ∃ N : L2.St → Hp → Prop, (∀ σ' H', N σ' H' → ∃ m', m' < m ∧ W (i + 1) m' σ' H') ∧ ∀ v H', (Its x).yld i H v H' → g v σ H' fun σ2 H2 => tb { D with nx := N, ct := N, bk := D.nx } σ2 H2) := by
  refine for_gen x.cps.toList.length Pv h0 (fun i s h lt p => by show i < x.cps.size; simpa using lt) (fun s h p => by show x.cps.size ≤ x.cps.toList.length; simp) (fun i s h v h' lt p y => ?_) fin
  obtain ⟨rfl, c, e, rfl⟩ := y
  exact turn i c s _ lt (by simpa using e) p
theorem lc_str {x : PySem.Str} {g : TG} {σ : L2.St} {H : Hp} {tt : TT} {te : TE} {vs : List Nat} {A : Addr} {Qd : Hp → Prop} (Pv : Nat → Hp → Prop) (h0 : Pv 0 (upd H A (.lst [])))
    (turn : ∀ i c H, i < x.cps.toList.length → x.cps.toList[i]? = some c → Pv i H → g (.str ⟨#[c]⟩) (wipe σ vs) H fun σ2 H2 => wipe σ2 vs = wipe σ vs ∧ tt σ2 H2 fun b H3 =>
      if b = true then te σ2 H3 fun y H4 => ∃ acc, H4 A = some (.lst acc) ∧ acc.length < sizeLine ∧ Pv (i + 1) (upd H4 A (.lst (acc ++ [y]))) else Pv (i + 1) H3) (fin : ∀ H, Pv x.cps.toList.length H → Qd H) :
    ∃ W : Nat → Nat → Hp → Prop, (∃ m, W 0 m (upd H A (.lst []))) ∧ ∀ i m H, W i m H → ((Its x).stop i H ∧ Qd H) ∨
      ((Its x).go i H ∧ ∃ Nx : Hp → Prop, (∀ H', Nx H' → ∃ m', m' < m ∧ W (i + 1) m' H') ∧ ∀ v H', (Its x).yld i H v H' → g v (wipe σ vs) H' fun σ2 H2 => wipe σ2 vs = wipe σ vs ∧ tt σ2 H2 fun b H3 =>
        if b = true then te σ2 H3 fun y H4 => ∃ acc, H4 A = some (.lst acc) ∧ acc.length < sizeLine ∧ Nx (upd H4 A (.lst (acc ++ [y]))) else Nx H3) := by
  refine lc_gen x.cps.toList.length Pv h0 (fun i h lt p => by show i < x.cps.size; simpa using lt) (fun h p => by show x.cps.size ≤ x.cps.toList.length; simp) (fun i h v h' lt p y => ?_) fin
  obtain ⟨rfl, c, e, rfl⟩ := y
  exact turn i c _ lt (by simpa using e) p

/-! ### heaps -/
theorem same_new {H : Hp} {p : Addr} {o : HO} (h : H p = none) : Same H (upd H p o) := fun b u e => by
  rw [upd_ne (ne_of_none e h)]
  exact e
theorem same_put {H H' : Hp} {p : Addr} {o : HO} (s : Same H H') (h : H p = none) : Same H (upd H' p o) := fun b u e => by
  rw [upd_ne (ne_of_none e h)]
  exact s b u e
theorem same_both {H H' : Hp} {p : Addr} {o : HO} (s : Same H H') : Same (upd H p o) (upd H' p o) := fun b u e => by
  by_cases z : b = p
  · subst z
    rw [upd_same] at e ⊢
    exact e
  · rw [upd_ne z] at e ⊢
    exact s b u e

/-! ### a call by keywords alone -/
section
variable {X : Cx} {CX : CXT} {k : Nat} {f : Addr} {fd : FuncData} {ps ks : List PySem.Str} {sp : Sp} {E : XK} {x : PySem.Str} {p pos : Pos} {kws : List Keyword} {tk : TA} {g : List Value → List Value → List Value} {gV : List V → List V → List V}
theorem pe_callK0 (F : FnOk X.prog X.w X.K X.mg X.base CX k f fd ps sp) (room : Room k X.A) (gl : Gl X x) (at_ : X.mg x = some (.ref f)) (kp : PySem.W.keepIn X.K (.ref f) = true) (kb : KBinds X.K fd ps ks g gV) (pass : Passes CX X E)
    (hkw : PK X kws tk) (h1 : (backToKw pos (keywordEach kws X.env)).all (·.1.isSome) = true := by rfl) (h2 : (backToKw pos (keywordEach kws X.env)).filterMap (·.1) = ks := by rfl) (ndb : (x == ("__debug__" : PySem.Str)) = false := by decide)
    (h3 : ((backTo pos (starEach [] X.env)).any (·.1) || (backToKw pos (keywordEach kws X.env)).any (·.1.isNone)) = false := by rfl) :
    PE X (.Call (.Name x p) [] kws pos) (fun σ H Q => tk σ H fun zs H1 => sp (gV [] zs) H1 Q E) := by
  refine ⟨fun pins s σ H Q I h => wpAny_Call_Name_kw (ld_glob I gl at_ (PySem.W.callWith_KW0 (h₀ := X.base) I.ok.mod.kin kp h1 (thn (hkw.run pos pins s σ H _ I h) fun ws s2 z => ?_) h3) ndb)⟩
  obtain ⟨zs, H2, J, rz, q⟩ := z
  refine ⟨J.kIn, ?_⟩
  rw [h2]
  exact run_fnk (us := []) (vs := []) F room kb pass J .nil rz q
end

/-! ### texts and tuples repeated -/
section
variable {X : Cx}
theorem op_rep_str : OpR X (binaryOp .Mult) (fun x y H Q => ∃ (z : PySem.Str) (k : Int), x = .str z ∧ y = .int k ∧ MulOk z k ∧ Q (.str (Txt.mul z k)) H) := by
  intro pins s σ H x y v u Q I rx ry h
  obtain ⟨z, k, rfl, rfl, ok, q⟩ := h
  obtain ⟨t, rfl⟩ := rx
  obtain ⟨t', rfl⟩ := ry
  exact SB.mul ok fun t2 n => ⟨.str (Txt.mul z k), H, I.tok n, ⟨t2, rfl⟩, q⟩
/-- a tuple that is not empty, at least twice -/
theorem op_repTW : OpR X (binaryOp .Mult) (fun x y H Q => ∃ (l : Addr) (k : Int) (xs : List V), x = .ref l ∧ y = .int k ∧ H l = some (.tup xs) ∧ xs ≠ [] ∧ 2 ≤ k ∧ xs.length * k.toNat ≤ 1000000 ∧ ∀ p, H p = none → Q (.ref p) (upd H p (.tup (List.replicate k.toNat xs).flatten))) := by
  intro pins s σ H x y v u Q I rx ry h
  obtain ⟨l, k, xs, rfl, rfl, hl, some_, two, many, q⟩ := h
  cases rx
  obtain ⟨t, rfl⟩ := ry
  obtain ⟨its, rel, ⟨⟨cls, dd, data, sl⟩, at_, hc, n, hd⟩, _⟩ := I.tuple (.inl (.inl hl))
  simp only at hc hd
  subst hc hd
  have same : its.length = xs.length := rel.length.symm
  have cnt : its.toArray.size = xs.length := by rw [List.size_toArray, same]
  have k1 : ((k.toNat : Nat) : Int) = k := Int.toNat_of_nonneg (by omega)
  have big : ((its.toArray.size : Nat) : Int) * k ≤ 1000000 := by
    have z := Int.ofNat_le.mpr many
    rw [Int.natCast_mul, k1] at z
    rw [cnt]
    exact z
  have pos : 0 < xs.length := List.length_pos_iff.mpr some_
  have kle : k ≤ 1000000 := by
    have := Nat.le_mul_of_pos_left k.toNat pos
    omega
  have fl : (List.replicate k.toNat its).flatten.length ≤ 1000000 := by
    rw [PyProof.Rows.lm_len_rep_flat, same, Nat.mul_comm]
    exact many
  have line : (1000000 : Nat) ≤ sizeLine := by rw [sizeLine_eq]; decide
  have ne : its.toArray.isEmpty = false := by
    cases its with
    | nil => exact absurd (List.eq_nil_of_length_eq_zero same.symm) some_
    | cons a b => rfl
  have c0 : (decide (k < -(2 ^ 63)) || decide (k ≥ 2 ^ 63)) = false := by
    rw [Bool.or_eq_false_iff]
    exact ⟨decide_eq_false (by omega), decide_eq_false (by omega)⟩
  have c1 : (its.toArray.isEmpty || k == 1) = false := by
    rw [ne]
    exact beq_eq_false_iff_ne.mpr (by omega)
  have c2 : (decide (k ≤ 0) || its.toArray.isEmpty) = false := by
    rw [ne, Bool.or_false]
    exact decide_eq_false (by omega)
  have c3 : Builtin.Tuple.tupleTooMany (((its.toArray.size : Nat) : Int) * k) = false := by
    unfold Builtin.Tuple.tupleTooMany
    rw [sizeLine_eq]
    exact decide_eq_false (by omega)
  have typ : s.TypeIs (.ref l) "tuple" := ⟨_, at_, rfl⟩
  refine wpAny_binaryOp_repeat_ref (T := "tuple") (U := "int") (by decide) typ (fun s' => typeIs_int s' k t) noFill_tuple_mul F.fills_int_mul F.slot_int_rmul repeat_tuple F.slot_int_index.lookup
    (call_meets F.slot_int_rmul (typeIs_int s k t) F.entry_int_rmul (F.args_int_rmul_2 _ _) (int_rmul_tuple k t l its.toArray n dd sl) ⟨at_, rfl, typ,
      call_meets F.slot_tuple_mul typ F.entry_tuple_mul (F.args_tuple_mul_2 _ _) (tuple_mulW l its.toArray n dd sl k t c0 c1 c2 (by omega) c3 (by rw [size_rep, List.size_toArray]; exact Nat.le_trans fl line)) ⟨at_, ?_⟩⟩)
  rw [size_rep]
  have new : ObjOk X.prog X.w (upd H s.heap.objs.size (.tup (List.replicate k.toNat xs).flatten)) _ s.heap.objs.size (.tup (List.replicate k.toNat xs).flatten) :=
    ⟨by rw [PyProof.Rows.lm_len_rep_flat, Nat.mul_comm]; exact Nat.le_trans many line, _, rel.rep k.toNat, IsTup.new _ _⟩
  exact ⟨.ref s.heap.objs.size, _, I.laid (t' := s.toks) (fun b ob z => Heap.get?_push_of_some _ z) (Nat.le_refl _) new, rfl, q _ (I.hok.fresh (Nat.le_refl _))⟩
end

/-! ### the same rules with the written part by its name (within a comprehension) -/
section
variable {X : Cx} {K : PySem.W.Frag}
def rLenK (K : PySem.W.Frag) : List V → Hp → VK → Prop := fun xs H Q => ∃ p ys, xs = [.ref p] ∧ (SqL K H p ys ∨ SqT K H p ys) ∧ Q (.int ys.length) H
theorem lenK (h : X.K = K) : CallR X (.builtin "len") (rLenK K) := by
  subst h
  exact call_len_seq
theorem ixlK (h : X.K = K) : IxR X (rIxL K) := by
  subst h
  exact ix_list
theorem ixtK (h : X.K = K) : IxR X (rIxT K) := by
  subst h
  exact ix_tup
theorem inK (h : X.K = K) : OpR X (compareOp .In) (rIn K false) := by
  subst h
  exact op_in_seq
theorem notInK (h : X.K = K) : OpR X (compareOp .NotIn) (rIn K true) := by
  subst h
  exact op_notIn_seq
theorem eqDK (h : X.K = K) (hu : X.A.units + 64 < cLine) : OpR X (compareOp .Eq) (rEqD K) := by
  subst h
  exact op_eqD hu
theorem neDK (h : X.K = K) (hu : X.A.units + 64 < cLine) : OpR X (compareOp .NotEq) (rNeD K) := by
  subst h
  exact op_neD hu
theorem sllK (h : X.K = K) : SlR X (rSlL K) := by
  subst h
  exact sl_list
theorem sltK (h : X.K = K) : SlR X (rSlT K) := by
  subst h
  exact sl_tup
theorem typeK (h : X.K = K) : CallR X (.type "type") (rTyp K) := by
  subst h
  exact call_type1
theorem isiK (h : X.K = K) : CallR X (.builtin "isinstance") (rIsi K) := by
  subst h
  exact call_isi
theorem reprK (h : X.K = K) (hA : X.A.guards = some []) (hu : X.A.units + 64 < cLine) : CallR X (.builtin "repr") (rRepr K) := by
  subst h
  exact call_repr hA hu
end

/-! ### texts that are short and whose signs are signs -/
def Tx (n : Nat) (z : PySem.Str) : Prop := z.cps.toList.length ≤ n ∧ ∀ c ∈ z.cps.toList, c < 1114112
theorem Tx.mono {n m : Nat} {z : PySem.Str} (h : Tx n z) (e : n ≤ m) : Tx m z := ⟨Nat.le_trans h.1 e, h.2⟩
theorem Tx.add {n m : Nat} {z y : PySem.Str} (h : Tx n z) (k : Tx m y) : Tx (n + m) (z ++ y) := by
  have e : (z ++ y).cps.toList = z.cps.toList ++ y.cps.toList := Array.toList_append
  refine ⟨?_, fun c hc => ?_⟩
  · rw [e, List.length_append]
    exact Nat.add_le_add h.1 k.1
  · rw [e] at hc
    exact (List.mem_append.mp hc).elim (h.2 c) (k.2 c)
theorem Tx.cut {n : Nat} {z : PySem.Str} (h : Tx n z) (lo hi : Option Int) : Tx n (cutS z lo hi) := by
  have e : (cutS z lo hi).cps.toList = (z.cps.toList.drop (HT.sIx z.length 0 lo)).take (HT.sIx z.length z.length hi - HT.sIx z.length 0 lo) := by
    show (List.toArray _).toList = _
    rw [List.toList_toArray]
  refine ⟨?_, fun c hc => ?_⟩
  · rw [e, List.length_take, List.length_drop]
    have := h.1
    omega
  · rw [e] at hc
    exact h.2 c (List.mem_of_mem_drop (List.mem_of_mem_take hc))
theorem Tx.one {c : Nat} {n : Nat} {z : PySem.Str} (h : Tx n z) (hc : c ∈ z.cps.toList) : Tx 1 ⟨#[c]⟩ := ⟨by simp, fun d hd => by
  have : d = c := by simpa using hd
  rw [this]
  exact h.2 c hc⟩
theorem Tx.line {n : Nat} {z : PySem.Str} (h : Tx n z) (e : n ≤ 1000000) : z.length ≤ sizeLine := by
  have : z.length = z.cps.toList.length := by show z.cps.size = _; simp
  rw [this]
  exact Nat.le_trans h.1 (Nat.le_trans e (by rw [sizeLine_eq]; decide))
theorem atI_mem {α : Type} {l : List α} {i : Int} {x : α} (h : atI l i = some x) : x ∈ l := by
  unfold atI at h
  obtain ⟨j, _, e⟩ := Option.bind_eq_some_iff.mp h
  exact List.mem_of_getElem? e
theorem foldl_app {α : Type} : ∀ (n : Nat) (x a : Array α), ((List.replicate n x).foldl (· ++ ·) a).toList = a.toList ++ (List.replicate n x.toList).flatten
  | 0, x, a => by simp
  | n + 1, x, a => by
    rw [List.replicate_succ, List.foldl_cons, foldl_app n x (a ++ x), Array.toList_append, List.replicate_succ, List.flatten_cons, List.append_assoc]
theorem Tx.rep {n : Nat} {z : PySem.Str} (h : Tx n z) {k : Int} : Tx (n * k.toNat) (Txt.mul z k) := by
  unfold Txt.mul
  by_cases h1 : k < 1
  · rw [if_pos h1]
    exact ⟨Nat.zero_le _, fun c hc => by cases hc⟩
  · rw [if_neg h1]
    by_cases h2 : (k == 1 || z.length == 0) = true
    · rw [if_pos h2]
      exact h.mono (Nat.le_mul_of_pos_right n (by omega))
    · rw [if_neg h2]
      refine ⟨?_, fun c hc => ?_⟩
      · show ((List.replicate k.toNat z.cps).foldl (· ++ ·) #[]).toList.length ≤ _
        rw [foldl_app]
        simp only [List.nil_append, List.length_flatten, List.map_replicate, List.sum_replicate_nat]
        rw [Nat.mul_comm]
        exact Nat.mul_le_mul_right _ h.1
      · rw [show (⟨(List.replicate k.toNat z.cps).foldl (· ++ ·) #[]⟩ : PySem.Str).cps.toList = _ from foldl_app _ _ _] at hc
        simp only [List.nil_append, List.mem_flatten, List.mem_replicate] at hc
        obtain ⟨l, ⟨_, rfl⟩, hc⟩ := hc
        exact h.2 c hc
end Gd

set_option maxRecDepth 100000
set_option maxHeartbeats 2000000
namespace Gd
open PySem PySem.Spec PyProof.Rows L2

/-! ### what the numbers are drawn by: a dict of three -/
abbrev kC : Key := Sum.inr "cells"
abbrev kL : Key := Sum.inr "left"
abbrev kS : Key := Sum.inr "spot"
def mK (lc ll : Addr) (k : Int) : List (Key × V) := [(kC, .ref lc), (kL, .ref ll), (kS, .int k)]
theorem nCL : ¬ kC = kL := by decide +kernel
theorem nCS : ¬ kC = kS := by decide +kernel
theorem nLS : ¬ kL = kS := by decide +kernel
theorem mK_C {lc ll : Addr} {k : Int} : valV (mK lc ll k) kC = some (.ref lc) := valV_pos rfl
theorem mK_L {lc ll : Addr} {k : Int} : valV (mK lc ll k) kL = some (.ref ll) := (valV_neg nCL).trans (valV_pos rfl)
theorem mK_S {lc ll : Addr} {k : Int} : valV (mK lc ll k) kS = some (.int k) := (valV_neg nCS).trans ((valV_neg nLS).trans (valV_pos rfl))
theorem mK_put {lc ll : Addr} {k j : Int} : putK (mK lc ll k) kS (.int j) = mK lc ll j := by
  unfold putK
  rw [valV_any, mK_S, Option.isSome_some, if_pos rfl]
  show [if kC = kS then (kC, V.int j) else (kC, .ref lc), if kL = kS then (kL, V.int j) else (kL, .ref ll), if kS = kS then (kS, V.int j) else (kS, .int k)] = _
  rw [if_neg nCS, if_neg nLS, if_pos rfl]
  rfl
theorem mK_putL {lc ll l2 : Addr} {k : Int} : putK (mK lc ll k) kL (.ref l2) = mK lc l2 k := by
  unfold putK
  rw [valV_any, mK_L, Option.isSome_some, if_pos rfl]
  show [if kC = kL then (kC, V.ref l2) else (kC, .ref lc), if kL = kL then (kL, V.ref l2) else (kL, .ref ll), if kS = kL then (kS, V.ref l2) else (kS, .int k)] = _
  rw [if_neg nCL, if_pos rfl, if_neg (Ne.symm nLS)]
  rfl
/-- the dict at d stands so, n more numbers may be drawn; of the heap H0 nothing is touched by that -/
structure Dr (H0 H : Hp) (d n : Nat) : Prop where
  ex : ∃ (lc ll : Addr) (cs ls : List Int) (k : Int), H d = some (.dK (mK lc ll k)) ∧ H lc = some (.lst (cs.map V.int)) ∧ H ll = some (.lst (ls.map V.int)) ∧ lc ≠ ll ∧
    cs.length = 64 ∧ (∀ c ∈ cs, 0 ≤ c ∧ c < 2147483647) ∧ ls.length ≤ 63 ∧ 0 ≤ k ∧ k + n ≤ 2147483648 ∧ H0 lc = none ∧ H0 ll = none
  same : Same H0 H
  free : H0 d = none
theorem Dr.less {H0 H : Hp} {d n m : Nat} (h : Dr H0 H d n) (e : m ≤ n) : Dr H0 H d m := by
  obtain ⟨⟨lc, ll, cs, ls, k, h1, h2, h3, h4, h5, h6, h7, h8, h9, h10⟩, s, f⟩ := h
  exact ⟨⟨lc, ll, cs, ls, k, h1, h2, h3, h4, h5, h6, h7, h8, by omega, h10⟩, s, f⟩
theorem Dr.put {H0 H : Hp} {d n : Nat} (h : Dr H0 H d n) {p : Addr} (o : HO) (hp : H p = none ∨ ∃ u, H0 p = some u) : Dr (upd H0 p o) (upd H p o) d n := by
  obtain ⟨⟨lc, ll, cs, ls, k, h1, h2, h3, h4, h5, h6, h7, h8, h9, h10, h11⟩, s, f⟩ := h
  have apart : ∀ {q : Addr} {u : HO}, H q = some u → H0 q = none → q ≠ p := by
    intro q u e e0 z
    subst z
    rcases hp with w1 | ⟨u', w1⟩
    · rw [w1] at e; cases e
    · rw [w1] at e0; cases e0
  have a1 := apart h1 f
  have a2 := apart h2 h10
  have a3 := apart h3 h11
  exact ⟨⟨lc, ll, cs, ls, k, by rw [upd_ne a1]; exact h1, by rw [upd_ne a2]; exact h2, by rw [upd_ne a3]; exact h3, h4, h5, h6, h7, h8, h9, by rw [upd_ne a2]; exact h10, by rw [upd_ne a3]; exact h11⟩, same_both s, by rw [upd_ne a1]; exact f⟩
theorem Dr.new {H0 H : Hp} {d n : Nat} (h : Dr H0 H d n) {p : Addr} (o : HO) (hp : H p = none) : Dr (upd H0 p o) (upd H p o) d n := h.put o (.inl hp)
/-- a new object of which H0 is not told -/
theorem Dr.side {H0 H : Hp} {d n : Nat} (h : Dr H0 H d n) {p : Addr} (o : HO) (hp : H p = none) : Dr H0 (upd H p o) d n := by
  obtain ⟨⟨lc, ll, cs, ls, k, h1, h2, h3, h4⟩, s, f⟩ := h
  exact ⟨⟨lc, ll, cs, ls, k, by rw [upd_ne (ne_of_none h1 hp)]; exact h1, by rw [upd_ne (ne_of_none h2 hp)]; exact h2, by rw [upd_ne (ne_of_none h3 hp)]; exact h3, h4⟩, fun b u e => by rw [upd_ne (ne_of_none (s b u e) hp)]; exact s b u e, f⟩
theorem Dr.base {H0 H1 H : Hp} {d n : Nat} (h : Dr H1 H d n) (s : Same H0 H1) : Dr H0 H d n := by
  obtain ⟨⟨lc, ll, cs, ls, k, h1, h2, h3, h4, h5, h6, h7, h8, h9, h10, h11⟩, s1, f⟩ := h
  exact ⟨⟨lc, ll, cs, ls, k, h1, h2, h3, h4, h5, h6, h7, h8, h9, s.free h10, s.free h11⟩, s.trans s1, s.free f⟩

/-! ### lists of ints by their places -/
theorem ixN_in {n : Nat} {i : Int} (h : 0 ≤ i) (k : i < n) : ixN n i = some i.toNat := by
  unfold ixN
  rw [if_pos h, if_pos k]
theorem at_in {α : Type} {l : List α} {i : Int} (h : 0 ≤ i) (k : i < l.length) : ∃ x, x ∈ l ∧ l[i.toNat]? = some x ∧ atI l i = some x := by
  have lt : i.toNat < l.length := by omega
  refine ⟨l[i.toNat], List.getElem_mem lt, List.getElem?_eq_getElem lt, ?_⟩
  unfold atI
  rw [ixN_in h k]
  exact List.getElem?_eq_getElem lt
theorem at_int {cs : List Int} {i : Int} (h : 0 ≤ i) (k : i < cs.length) : ∃ c, c ∈ cs ∧ atI (cs.map V.int) i = some (.int c) ∧ ixN (cs.map V.int).length i = some i.toNat := by
  obtain ⟨x, m, _, e⟩ := at_in (l := cs.map V.int) h (by rw [List.length_map]; exact k)
  obtain ⟨c, hc, rfl⟩ := List.mem_map.mp m
  exact ⟨c, hc, e, ixN_in h (by rw [List.length_map]; exact k)⟩
theorem set_int {cs : List Int} {j : Nat} {v : Int} : (cs.map V.int).set j (.int v) = (cs.set j v).map V.int := (List.map_set ..).symm
theorem all_set {cs : List Int} {j : Nat} {v : Int} {p : Int → Prop} (h : ∀ c ∈ cs, p c) (hv : p v) : ∀ c ∈ cs.set j v, p c := fun c hc =>
  (List.mem_or_eq_of_mem_set hc).elim (h c) fun e => e ▸ hv
theorem int_of {ns : List Int} {i : Nat} {x : V} (h : (ns.map V.int)[i]? = some x) : ∃ z, x = .int z := by
  rw [List.getElem?_map] at h
  obtain ⟨z, _, e⟩ := Option.map_eq_some_iff.mp h
  exact ⟨z, e.symm⟩

/-! ### data -/
theorem dp_ints {K : PySem.W.Frag} {H : Hp} : ∀ l : List Int, DpAll K H (l.map V.int) (l.map PyData.int)
  | [] => .nil
  | x :: r => .cons (.int x) (dp_ints r)
theorem dp_strs {K : PySem.W.Frag} {H : Hp} : ∀ l : List PySem.Str, DpAll K H (l.map V.str) (l.map PyData.str)
  | [] => .nil
  | x :: r => .cons (.str x) (dp_strs r)
theorem lay_flat : ∀ ds : List PyData, (∀ d ∈ ds, d.canLay0 = true ∧ d.depth = 0) → PyData.canLayAll0 ds = true ∧ PyData.depthAll ds = 0
  | [], _ => ⟨by simp [PyData.canLayAll0], by simp [PyData.depthAll]⟩
  | d :: r, h => by
    obtain ⟨a, b⟩ := h d List.mem_cons_self
    obtain ⟨a2, b2⟩ := lay_flat r fun z hz => h z (List.mem_cons_of_mem _ hz)
    exact ⟨by simp [PyData.canLayAll0, a, a2], by simp [PyData.depthAll, b, b2]⟩
theorem shaped_flat {ds : List PyData} (h : ∀ d ∈ ds, d.canLay0 = true ∧ d.depth = 0) : SeqAt.shaped (.list ds) = true := by
  obtain ⟨a, b⟩ := lay_flat ds h
  simp [SeqAt.shaped, PyData.canLay0, PyData.depth, a, b]
theorem shaped_ints (l : List Int) : SeqAt.shaped (.list (l.map PyData.int)) = true := shaped_flat fun d hd => by
  obtain ⟨i, _, rfl⟩ := List.mem_map.mp hd
  exact ⟨by simp [PyData.canLay0], by simp [PyData.depth]⟩
theorem shaped_nil : SeqAt.shaped (.list []) = true := shaped_flat fun d hd => absurd hd List.not_mem_nil
theorem eqv_nil {ds : List PyData} : PyData.eqv (.list ds) (.list []) = ds.isEmpty := by
  cases ds <;> simp [PyData.eqv, PyData.eqvAll]

/-! ### the promises of what draws -/
def spMixed : Sp := fun vs H Q _ => ∃ cell k : Int, vs = [.int cell, .int k] ∧ 0 ≤ cell ∧ cell < 1099511627776 ∧ 0 ≤ k ∧ k < 4294967296 ∧ ∀ v : Int, 0 ≤ v → v < 2147483648 → Q (.int v) H
def spDraw : Sp := fun vs H Q _ => ∃ (d : Addr) (many : Int) (H0 : Hp) (n : Nat), vs = [.ref d, .int many] ∧ 0 < many ∧ many < 1073741824 ∧ Dr H0 H d (n + 1) ∧ ∀ (v : Int) (H' : Hp), 0 ≤ v → v < many → Dr H0 H' d n → Q (.int v) H'
def spFolded (K : PySem.W.Frag) : Sp := fun vs H Q _ => ∃ (a : Addr) (ns : List Int), vs = [.ref a] ∧ SqL K H a (ns.map V.int) ∧ ns.length ≤ 63 ∧
  ∀ (p : Addr) (cs : List Int) (H' : Hp), H p = none → cs.length = 64 → (∀ c ∈ cs, 0 ≤ c ∧ c < 2147483647) → Same H H' → H' p = some (.lst (cs.map V.int)) → Q (.ref p) H'
def spBegun (K : PySem.W.Frag) : Sp := fun vs H Q _ => ∃ (a : Addr) (ns : List Int), vs = [.ref a] ∧ SqL K H a (ns.map V.int) ∧ ns.length ≤ 63 ∧ ∀ (d : Addr) (H' : Hp), Dr H H' d 1000000 → Q (.ref d) H'
theorem at_last {α : Type} {l : List α} (h : l ≠ []) : ∃ x, x ∈ l ∧ atI l (-1) = some x := by
  have pos : 0 < l.length := List.length_pos_iff.mpr h
  have e : ixN l.length (-1) = some (l.length - 1) := by
    unfold ixN
    rw [if_neg (by decide), if_pos (by omega)]
    congr 1
    omega
  have lt : l.length - 1 < l.length := by omega
  refine ⟨l[l.length - 1], List.getElem_mem lt, ?_⟩
  unfold atI
  rw [e]
  exact List.getElem?_eq_getElem lt
theorem Tx.line2 {n m : Nat} {z y : PySem.Str} (h : Tx n z) (k : Tx m y) (e : n + m ≤ 1000000) : z.length + y.length ≤ sizeLine := by
  have a : z.length = z.cps.toList.length := by show z.cps.size = _; simp
  have b : y.length = y.cps.toList.length := by show y.cps.size = _; simp
  rw [a, b]
  exact Nat.le_trans (Nat.add_le_add h.1 k.1) (Nat.le_trans e (by rw [sizeLine_eq]; decide))
theorem at_str {z : PySem.Str} {n : Nat} (t : Tx n z) {i : Int} (h : 0 ≤ i) (k : i < (z.cps.toList.length : Nat)) : ∃ c, c ∈ z.cps.toList ∧ atI z.cps.toList i = some c ∧ Tx 1 ⟨#[c]⟩ := by
  obtain ⟨c, m, _, e⟩ := at_in h k
  exact ⟨c, m, e, t.one m⟩
theorem Tx.cutTo {n : Nat} {z : PySem.Str} (h : Tx n z) (k : Nat) : Tx k (cutS z none (some (k : Int))) := by
  refine ⟨?_, (h.cut _ _).2⟩
  have e : (cutS z none (some (k : Int))).cps.toList = (z.cps.toList.drop (HT.sIx z.length 0 none)).take (HT.sIx z.length z.length (some (k : Int)) - HT.sIx z.length 0 none) := by
    show (List.toArray _).toList = _
    rw [List.toList_toArray]
  rw [e, List.length_take, HT.sIx_nat, HT.sIx_none]
  omega
/-- a number is drawn, one object more is told of -/
theorem Dr.told {H0 H : Hp} {d n : Nat} {p : Addr} {o : HO} (h : Dr (upd H0 p o) H d n) : H p = some o := h.same _ _ upd_same
theorem Dr.drop {H0 H : Hp} {d n : Nat} {p : Addr} {o : HO} (h : Dr (upd H0 p o) H d n) (f : H0 p = none) : Dr H0 H d n := h.base (same_new f)
def spCalled : Sp := fun vs H Q _ => ∃ (d : Addr) (M : Nat) (H0 : Hp) (n : Nat), vs = [.ref d, .int (M : Int)] ∧ M ≤ 100 ∧ Dr H0 H d (n + 2 + 8 * M) ∧
  ∀ (p : Addr) (zs : List PySem.Str) (H' : Hp), H0 p = none → zs.length = M → (∀ z ∈ zs, Tx 10 z) → Dr (upd H0 p (.lst (zs.map V.str))) H' d n → Q (.ref p) H'
def spSigned : Sp := fun vs H Q _ => ∃ (d : Addr) (bit : PySem.Str) (H0 : Hp) (n : Nat), vs = [.ref d, .str bit] ∧ Tx 1000 bit ∧ Dr H0 H d (n + 3) ∧ ∀ (z : PySem.Str) (H' : Hp), Tx 2001 z → Dr H0 H' d n → Q (.str z) H'
theorem Dr.keep {H0 H H' : Hp} {d n : Nat} (h : Dr H0 H d n) (s : Same H H') : Dr H0 H' d n := by
  obtain ⟨⟨lc, ll, cs, ls, k, h1, h2, h3, h4⟩, sm, f⟩ := h
  exact ⟨⟨lc, ll, cs, ls, k, s _ _ h1, s _ _ h2, s _ _ h3, h4⟩, sm.trans s, f⟩
end Gd

set_option maxRecDepth 100000
set_option maxHeartbeats 2000000
namespace Gd
open PySem PySem.Spec PyProof.Rows L2

/-! ### things of any kind, by their types -/
inductive Od (H : Hp) : V → String → Prop
  | non : Od H .non "NoneType"
  | bl (b : Bool) : Od H (.bl b) "bool"
  | int (i : Int) : Od H (.int i) "int"
  | str {z : PySem.Str} (t : Tx 5000 z) : Od H (.str z) "str"
  | lst {a : Addr} {xs : List V} (e : H a = some (.lst xs)) : Od H (.ref a) "list"
  | tup {a : Addr} {xs : List V} (e : H a = some (.tup xs)) : Od H (.ref a) "tuple"
  | dK {a : Addr} {kvs : List (Key × V)} (e : H a = some (.dK kvs)) : Od H (.ref a) "dict"
section
variable {K : PySem.W.Frag} {H H' : Hp} {x : V} {T : String}
theorem Od.mono (s : Same H H') (o : Od H x T) : Od H' x T := by
  cases o with
  | non => exact .non
  | bl b => exact .bl b
  | int i => exact .int i
  | str t => exact .str t
  | lst e => exact .lst (s _ _ e)
  | tup e => exact .tup (s _ _ e)
  | dK e => exact .dK (s _ _ e)
theorem Od.ty (o : Od H x T) : TyB K H x T := by
  cases o with
  | non => exact .non
  | bl b => exact .bl b
  | int i => exact .int i
  | str t => exact .str _
  | lst e => exact .lst (SqL.of e)
  | tup e => exact .tup (SqT.of e)
  | dK e => exact .dK e
theorem Od.tx (o : Od H x T) : TyX K H x (.type T) := by
  cases o with
  | non => exact .base .non
  | bl b => exact .base (.bl b)
  | int i => exact .base (.int i)
  | str t => exact .base (.str _)
  | lst e => exact .base (.lst e)
  | tup e => exact .base (.tup e)
  | dK e => exact .base (.dK e)
theorem Od.kstr (o : Od H x T) : PySem.W.kitOne K (.type T) (.type "str") = some (decide (T = "str")) := by
  cases o <;> exact kit_ty (by decide +kernel)
theorem Od.kint (o : Od H x T) : PySem.W.kitOne K (.type T) (.type "int") = some (decide (T = "int" ∨ T = "bool")) := by
  cases o <;> exact kit_ty (by decide +kernel)
theorem Od.kbool (o : Od H x T) : PySem.W.kitOne K (.type T) (.type "bool") = some (decide (T = "bool")) := by
  cases o <;> exact kit_ty (by decide +kernel)
theorem Od.is (o : Od H x T) (e : T = "str") : ∃ z, x = .str z ∧ Tx 5000 z := by
  cases o with
  | str t => exact ⟨_, rfl, t⟩
  | non => exact absurd e (by decide)
  | bl b => exact absurd e (by decide)
  | int i => exact absurd e (by decide)
  | lst _ => exact absurd e (by decide)
  | tup _ => exact absurd e (by decide)
  | dK _ => exact absurd e (by decide)
theorem Od.isI (o : Od H x T) (e : T = "int") : ∃ i, x = .int i := by
  cases o with
  | int i => exact ⟨_, rfl⟩
  | str t => exact absurd e (by decide)
  | non => exact absurd e (by decide)
  | bl b => exact absurd e (by decide)
  | lst _ => exact absurd e (by decide)
  | tup _ => exact absurd e (by decide)
  | dK _ => exact absurd e (by decide)
theorem Od.not {z : PySem.Str} (o : Od H x T) (e : T ≠ "str") : x ≠ .str z := by
  intro q
  subst q
  cases o
  exact e rfl
end
theorem iteTy {T S : String} {A B : Prop} (h1 : T ≠ S → A) (h2 : T = S → B) : if (!decide (T = S)) = true then A else B := by
  by_cases e : T = S
  · rw [if_neg (by simp [e])]
    exact h2 e
  · rw [if_pos (by simp [e])]
    exact h1 e
theorem iteIs {T S : String} {A B : Prop} (h1 : T ≠ S → B) (h2 : T = S → A) : if decide (T = S) = true then A else B := by
  by_cases e : T = S
  · rw [if_pos (by simp [e])]
    exact h2 e
  · rw [if_neg (by simp [e])]
    exact h1 e
theorem len_tl (z : PySem.Str) : z.length = z.cps.toList.length := by show z.cps.size = _; simp

/-! ### signs -/
theorem lt_one (c d : Nat) : decide (([c] : List Nat) < [d]) = decide (c < d) := by
  have e : (([c] : List Nat) < [d]) ↔ c < d := by
    rw [List.cons_lt_cons_iff]
    simp
  by_cases h : c < d
  · rw [decide_eq_true h, decide_eq_true (e.mpr h)]
  · rw [decide_eq_false h, decide_eq_false fun q => h (e.mp q)]
theorem le_sign {c d : Nat} {a : PySem.Str} (ea : a.cps.toList = [d]) : (!decide ((⟨#[c]⟩ : PySem.Str).cps.toList < a.cps.toList)) = decide (d ≤ c) := by
  rw [ea, show (⟨#[c]⟩ : PySem.Str).cps.toList = [c] from rfl, lt_one]
  by_cases h : d ≤ c
  · rw [decide_eq_true h, decide_eq_false (by omega)]; rfl
  · rw [decide_eq_false h, decide_eq_true (by omega)]; rfl
theorem ge_sign {c d : Nat} {a : PySem.Str} (ea : a.cps.toList = [d]) : (!decide (a.cps.toList < (⟨#[c]⟩ : PySem.Str).cps.toList)) = decide (c ≤ d) := by
  rw [ea, show (⟨#[c]⟩ : PySem.Str).cps.toList = [c] from rfl, lt_one]
  by_cases h : c ≤ d
  · rw [decide_eq_true h, decide_eq_false (by omega)]; rfl
  · rw [decide_eq_false h, decide_eq_true (by omega)]; rfl
theorem all_take {α : Type} {l : List α} {i : Nat} {c : α} (h : l[i]? = some c) : l.take (i + 1) = l.take i ++ [c] := by
  rw [List.take_add_one, h]
  rfl

/-! ### a comprehension over a text: a truth for each sign; those signs that are to be kept -/
theorem lc_truths {z : PySem.Str} {σ : L2.St} {H : Hp} {te : TE} {j : Nat} {A : Addr} {Qd : Hp → Prop} (n : Tx 5000 z) (f : Nat → Bool) (hA : H A = none)
    (el : ∀ c H' Q, Q (V.bl (f c)) H' → te ((wipe σ [j]).set j (some (.str ⟨#[c]⟩))) H' Q) (same : ∀ c, wipe ((wipe σ [j]).set j (some (.str ⟨#[c]⟩))) [j] = wipe σ [j])
    (fin : ∀ H', Same H H' → H' A = some (.lst ((z.cps.toList.map f).map V.bl)) → Qd H') :
    ∃ W : Nat → Nat → Hp → Prop, (∃ m, W 0 m (upd H A (.lst []))) ∧ ∀ i m H, W i m H → ((Its z).stop i H ∧ Qd H) ∨
      ((Its z).go i H ∧ ∃ Nx : Hp → Prop, (∀ H', Nx H' → ∃ m', m' < m ∧ W (i + 1) m' H') ∧ ∀ v H', (Its z).yld i H v H' → gName j v (wipe σ [j]) H' fun σ2 H2 => wipe σ2 [j] = wipe σ [j] ∧ tYes σ2 H2 fun b H3 =>
        if b = true then te σ2 H3 fun y H4 => ∃ acc, H4 A = some (.lst acc) ∧ acc.length < sizeLine ∧ Nx (upd H4 A (.lst (acc ++ [y]))) else Nx H3) := by
  refine lc_str (fun i H1 => Same H H1 ∧ H1 A = some (.lst (((z.cps.toList.take i).map f).map V.bl))) ⟨same_new hA, by rw [upd_same]; rfl⟩ ?_ ?_
  · rintro i c H1 lt hc ⟨sm, e⟩
    refine ⟨same c, ?_⟩
    refine el c H1 _ ⟨_, e, ?_, same_put sm hA, ?_⟩
    · simp only [List.length_map, List.length_take]
      have := n.1
      have s5 : (5000 : Nat) < sizeLine := by rw [sizeLine_eq]; decide
      omega
    · rw [upd_same, all_take hc]
      simp only [List.map_append, List.map_cons, List.map_nil]
  · rintro H1 ⟨sm, e⟩
    rw [List.take_length] at e
    exact fin H1 sm e
theorem lc_kept {z : PySem.Str} {σ : L2.St} {H : Hp} {tt : TT} {te : TE} {j : Nat} {A : Addr} {Qd : Hp → Prop} (n : Tx 5000 z) (f : Nat → Bool) (hA : H A = none)
    (ts : ∀ c H' Q, Q (f c) H' → tt ((wipe σ [j]).set j (some (.str ⟨#[c]⟩))) H' Q) (el : ∀ c H' Q, Q (V.str ⟨#[c]⟩) H' → te ((wipe σ [j]).set j (some (.str ⟨#[c]⟩))) H' Q) (same : ∀ c, wipe ((wipe σ [j]).set j (some (.str ⟨#[c]⟩))) [j] = wipe σ [j])
    (fin : ∀ H', Same H H' → H' A = some (.lst (((z.cps.toList.filter f).map fun c => (⟨#[c]⟩ : PySem.Str)).map V.str)) → Qd H') :
    ∃ W : Nat → Nat → Hp → Prop, (∃ m, W 0 m (upd H A (.lst []))) ∧ ∀ i m H, W i m H → ((Its z).stop i H ∧ Qd H) ∨
      ((Its z).go i H ∧ ∃ Nx : Hp → Prop, (∀ H', Nx H' → ∃ m', m' < m ∧ W (i + 1) m' H') ∧ ∀ v H', (Its z).yld i H v H' → gName j v (wipe σ [j]) H' fun σ2 H2 => wipe σ2 [j] = wipe σ [j] ∧ tt σ2 H2 fun b H3 =>
        if b = true then te σ2 H3 fun y H4 => ∃ acc, H4 A = some (.lst acc) ∧ acc.length < sizeLine ∧ Nx (upd H4 A (.lst (acc ++ [y]))) else Nx H3) := by
  refine lc_str (fun i H1 => Same H H1 ∧ H1 A = some (.lst ((((z.cps.toList.take i).filter f).map fun c => (⟨#[c]⟩ : PySem.Str)).map V.str))) ⟨same_new hA, by rw [upd_same]; rfl⟩ ?_ ?_
  · rintro i c H1 lt hc ⟨sm, e⟩
    refine ⟨same c, ts c H1 _ ?_⟩
    cases fc : f c with
    | false =>
      refine iteF ⟨sm, ?_⟩
      rw [e, all_take hc, List.filter_append, List.filter_cons, fc]
      simp
    | true =>
      refine iteT (el c H1 _ ⟨_, e, ?_, same_put sm hA, ?_⟩)
      · simp only [List.length_map]
        have := n.1
        have l1 := List.length_filter_le f (z.cps.toList.take i)
        have l2 : (z.cps.toList.take i).length ≤ z.cps.toList.length := by rw [List.length_take]; omega
        have s5 : (5000 : Nat) < sizeLine := by rw [sizeLine_eq]; decide
        omega
      · rw [upd_same, all_take hc, List.filter_append, List.filter_cons, fc]
        simp
  · rintro H1 ⟨sm, e⟩
    rw [List.take_length] at e
    exact fin H1 sm e
theorem strOk_one {c : Nat} (h : c < 1114112) : (PyData.str ⟨#[c]⟩).canLay0 = true := by
  simp [PyData.canLay0, PyData.strOk, h]
/-- signs that are kept, as data -/
theorem shaped_signs {l : List Nat} (h : ∀ c ∈ l, c < 1114112) : SeqAt.shaped (.list ((l.map fun c => (⟨#[c]⟩ : PySem.Str)).map PyData.str)) = true := shaped_flat fun d hd => by
  simp only [List.map_map, List.mem_map, Function.comp_apply] at hd
  obtain ⟨c, hc, rfl⟩ := hd
  exact ⟨strOk_one (h c hc), by simp [PyData.depth]⟩
theorem small1000' {n : Nat} (h : n ≤ 1000000) : n < sizeLine := Nat.lt_of_le_of_lt h (by rw [sizeLine_eq]; decide)
end Gd

set_option maxRecDepth 100000
set_option maxHeartbeats 4000000
namespace K
open PySem PySem.Spec PyProof.Rows L2 Gd
def topS (i : Nat) : Stmt := PySem.Challenge.pw_bindbench_k01_words.main.body.getD i (.Pass ⟨0, 0, 0, 0⟩)
abbrev s_is_whole : Stmt := topS 4
theorem sc_is_whole : FnScope ["thing", "least", "most"] ["thing", "least", "most"] (defScope s_is_whole) := ⟨rfl, rfl, rfl, by decide +kernel, rfl, by decide +kernel, by decide +kernel⟩
abbrev s_is_name : Stmt := topS 5
theorem sc_is_name : FnScope ["thing", "sign"] ["thing"] (defScope s_is_name) := ⟨rfl, rfl, rfl, by decide +kernel, rfl, by decide +kernel, by decide +kernel⟩
abbrev s_number_of : Stmt := topS 6
theorem sc_number_of : FnScope ["word", "sign"] ["word"] (defScope s_number_of) := ⟨rfl, rfl, rfl, by decide +kernel, rfl, by decide +kernel, by decide +kernel⟩
abbrev s_words_of : Stmt := topS 7
theorem sc_words_of : FnScope ["row", "words"] ["row"] (defScope s_words_of) := ⟨rfl, rfl, rfl, by decide +kernel, rfl, by decide +kernel, by decide +kernel⟩
abbrev s_law_mixed : Stmt := topS 9
theorem sc_law_mixed : FnScope ["cell", "k", "turned"] ["cell", "k"] (defScope s_law_mixed) := ⟨rfl, rfl, rfl, by decide +kernel, rfl, by decide +kernel, by decide +kernel⟩
abbrev s_law_folded : Stmt := topS 10
theorem sc_law_folded : FnScope ["script", "found", "k", "cell"] ["script"] (defScope s_law_folded) := ⟨rfl, rfl, rfl, by decide +kernel, rfl, by decide +kernel, by decide +kernel⟩
abbrev s_law_draw : Stmt := topS 11
theorem sc_law_draw : FnScope ["m", "many", "k", "spot", "cell"] ["m", "many"] (defScope s_law_draw) := ⟨rfl, rfl, rfl, by decide +kernel, rfl, by decide +kernel, by decide +kernel⟩
abbrev s_law_begun : Stmt := topS 12
theorem sc_law_begun : FnScope ["script", "m", "cell"] ["script"] (defScope s_law_begun) := ⟨rfl, rfl, rfl, by decide +kernel, rfl, by decide +kernel, by decide +kernel⟩
abbrev s_law_called : Stmt := topS 13
theorem sc_law_called : FnScope ["m", "many", "letters", "found", "shift", "stride", "k", "said", "j"] ["m", "many"] (defScope s_law_called) := ⟨rfl, rfl, rfl, by decide +kernel, rfl, by decide +kernel, by decide +kernel⟩
abbrev s_law_whole : Stmt := topS 14
theorem sc_law_whole : FnScope ["odd", "low", "high"] ["odd", "low", "high"] (defScope s_law_whole) := ⟨rfl, rfl, rfl, by decide +kernel, rfl, by decide +kernel, by decide +kernel⟩
abbrev s_law_is_name : Stmt := topS 15
theorem sc_law_is_name : FnScope ["odd", "small", "banned", "sign"] ["odd"] (defScope s_law_is_name) := ⟨rfl, rfl, rfl, by decide +kernel, rfl, by decide +kernel, by decide +kernel⟩
abbrev s_law_number : Stmt := topS 16
theorem sc_law_number : FnScope ["text", "found", "sign"] ["text"] (defScope s_law_number) := ⟨rfl, rfl, rfl, by decide +kernel, rfl, by decide +kernel, by decide +kernel⟩
abbrev s_law_parted : Stmt := topS 17
theorem sc_law_parted : FnScope ["text", "found", "bit", "sign"] ["text"] (defScope s_law_parted) := ⟨rfl, rfl, rfl, by decide +kernel, rfl, by decide +kernel, by decide +kernel⟩
abbrev s_law_signed : Stmt := topS 18
theorem sc_law_signed : FnScope ["m", "bit", "signs", "sign", "spot"] ["m", "bit"] (defScope s_law_signed) := ⟨rfl, rfl, rfl, by decide +kernel, rfl, by decide +kernel, by decide +kernel⟩
abbrev s_law_far : Stmt := topS 19
theorem sc_law_far : FnScope ["deep", "twice", "bout"] [] (defScope s_law_far) := ⟨rfl, rfl, rfl, by decide +kernel, rfl, by decide +kernel, by decide +kernel⟩
abbrev s_law_right : Stmt := topS 20
theorem sc_law_right : FnScope ["odd", "due", "found"] ["odd"] (defScope s_law_right) := ⟨rfl, rfl, rfl, by decide +kernel, rfl, by decide +kernel, by decide +kernel⟩
abbrev s_law_whole_right : Stmt := topS 21
theorem sc_law_whole_right : FnScope ["m", "low", "high", "odd", "due", "found"] ["m"] (defScope s_law_whole_right) := ⟨rfl, rfl, rfl, by decide +kernel, rfl, by decide +kernel, by decide +kernel⟩
abbrev s_law : Stmt := topS 22
theorem sc_law : FnScope ["script", "m", "some", "odd", "bout"] ["script"] (defScope s_law) := ⟨rfl, rfl, rfl, by decide +kernel, rfl, by decide +kernel, by decide +kernel⟩
structure Txt (mg : PySem.Str → Option Value) (K : PySem.W.Frag) where
  n_all : mg "all" = none
  n_bool : mg "bool" = none
  n_enumerate : mg "enumerate" = none
  n_int : mg "int" = none
  n_isinstance : mg "isinstance" = none
  n_len : mg "len" = none
  n_range : mg "range" = none
  n_repr : mg "repr" = none
  n_str : mg "str" = none
  n_type : mg "type" = none
  t_MOST_FIGURES : Tok
  c_MOST_FIGURES : mg "MOST_FIGURES" = some (.int 7 t_MOST_FIGURES)
  t_MOST_LETTERS : Tok
  c_MOST_LETTERS : mg "MOST_LETTERS" = some (.int 8 t_MOST_LETTERS)
  a_NO_NAMES : Addr
  c_NO_NAMES : mg "NO_NAMES" = some (.ref a_NO_NAMES)
  q_NO_NAMES : ∀ H : Hp, SqT K H a_NO_NAMES [.str "style", .str "job", .str "round", .str "sew", .str "glue", .str "cover", .str "letter", .str "press", .str "hand", .str "haste"]
  f_is_whole : Addr
  fd_is_whole : FuncData
  F_is_whole : FunD K "is_whole" "is_whole" (defArgs s_is_whole) (defBody s_is_whole) (defScope s_is_whole) [.int 1000000] [] f_is_whole fd_is_whole
  g_is_whole : mg "is_whole" = some (.ref f_is_whole)
  f_is_name : Addr
  fd_is_name : FuncData
  F_is_name : Fun K "is_name" "is_name" s_is_name f_is_name fd_is_name
  g_is_name : mg "is_name" = some (.ref f_is_name)
  f_number_of : Addr
  fd_number_of : FuncData
  F_number_of : Fun K "number_of" "number_of" s_number_of f_number_of fd_number_of
  g_number_of : mg "number_of" = some (.ref f_number_of)
  f_words_of : Addr
  fd_words_of : FuncData
  F_words_of : Fun K "words_of" "words_of" s_words_of f_words_of fd_words_of
  g_words_of : mg "words_of" = some (.ref f_words_of)
  f_law_mixed : Addr
  fd_law_mixed : FuncData
  F_law_mixed : Fun K "_law_mixed" "_law_mixed" s_law_mixed f_law_mixed fd_law_mixed
  g_law_mixed : mg "_law_mixed" = some (.ref f_law_mixed)
  f_law_folded : Addr
  fd_law_folded : FuncData
  F_law_folded : Fun K "_law_folded" "_law_folded" s_law_folded f_law_folded fd_law_folded
  g_law_folded : mg "_law_folded" = some (.ref f_law_folded)
  f_law_draw : Addr
  fd_law_draw : FuncData
  F_law_draw : Fun K "_law_draw" "_law_draw" s_law_draw f_law_draw fd_law_draw
  g_law_draw : mg "_law_draw" = some (.ref f_law_draw)
  f_law_begun : Addr
  fd_law_begun : FuncData
  F_law_begun : Fun K "_law_begun" "_law_begun" s_law_begun f_law_begun fd_law_begun
  g_law_begun : mg "_law_begun" = some (.ref f_law_begun)
  f_law_called : Addr
  fd_law_called : FuncData
  F_law_called : Fun K "_law_called" "_law_called" s_law_called f_law_called fd_law_called
  g_law_called : mg "_law_called" = some (.ref f_law_called)
  f_law_whole : Addr
  fd_law_whole : FuncData
  F_law_whole : Fun K "_law_whole" "_law_whole" s_law_whole f_law_whole fd_law_whole
  g_law_whole : mg "_law_whole" = some (.ref f_law_whole)
  f_law_is_name : Addr
  fd_law_is_name : FuncData
  F_law_is_name : Fun K "_law_is_name" "_law_is_name" s_law_is_name f_law_is_name fd_law_is_name
  g_law_is_name : mg "_law_is_name" = some (.ref f_law_is_name)
  f_law_number : Addr
  fd_law_number : FuncData
  F_law_number : Fun K "_law_number" "_law_number" s_law_number f_law_number fd_law_number
  g_law_number : mg "_law_number" = some (.ref f_law_number)
  f_law_parted : Addr
  fd_law_parted : FuncData
  F_law_parted : Fun K "_law_parted" "_law_parted" s_law_parted f_law_parted fd_law_parted
  g_law_parted : mg "_law_parted" = some (.ref f_law_parted)
  f_law_signed : Addr
  fd_law_signed : FuncData
  F_law_signed : Fun K "_law_signed" "_law_signed" s_law_signed f_law_signed fd_law_signed
  g_law_signed : mg "_law_signed" = some (.ref f_law_signed)
  f_law_far : Addr
  fd_law_far : FuncData
  F_law_far : Fun K "_law_far" "_law_far" s_law_far f_law_far fd_law_far
  g_law_far : mg "_law_far" = some (.ref f_law_far)
  f_law_right : Addr
  fd_law_right : FuncData
  F_law_right : Fun K "_law_right" "_law_right" s_law_right f_law_right fd_law_right
  g_law_right : mg "_law_right" = some (.ref f_law_right)
  f_law_whole_right : Addr
  fd_law_whole_right : FuncData
  F_law_whole_right : Fun K "_law_whole_right" "_law_whole_right" s_law_whole_right f_law_whole_right fd_law_whole_right
  g_law_whole_right : mg "_law_whole_right" = some (.ref f_law_whole_right)
  f_law : Addr
  fd_law : FuncData
  F_law : Fun K "law" "law" s_law f_law fd_law
  g_law : mg "law" = some (.ref f_law)
local macro_rules | `(tactic| walk_at "mulok") => `(tactic| first | exact Or.inr ⟨by decide, by decide⟩ | exact Or.inl ⟨by decide, by decide⟩ | exact Or.inr ⟨by omega, by omega⟩ | exact Or.inl ⟨by omega, by omega⟩)
local macro_rules | `(tactic| walk_at "st") => `(tactic| first
  | refine ⟨_, rfl, ?_⟩
  | refine ⟨_, _, rfl, rfl, (by walk_at "mulok"), ?_⟩
  | refine ⟨_, _, rfl, rfl, (by show (0 : Int) < _; decide), ?_⟩
  | refine ⟨_, _, rfl, rfl, ⟨by decide, by decide⟩, ?_⟩
  | refine ⟨_, _, rfl, rfl, ?_⟩)
section
variable {P : Program} {w : World} {K : PySem.W.Frag} {mg : PySem.Str → Option Value} {base : Heap}
theorem b_is_name (T : Txt mg K) : Binds K T.fd_is_name ["thing"] [] := T.F_is_name.binds (ps := ["thing"]) fun _ _ _ _ _ _ us hl => match us, hl with | [_], _ => rfl
theorem b_number_of (T : Txt mg K) : Binds K T.fd_number_of ["word"] [] := T.F_number_of.binds (ps := ["word"]) fun _ _ _ _ _ _ us hl => match us, hl with | [_], _ => rfl
theorem b_words_of (T : Txt mg K) : Binds K T.fd_words_of ["row"] [] := T.F_words_of.binds (ps := ["row"]) fun _ _ _ _ _ _ us hl => match us, hl with | [_], _ => rfl
theorem b_law_mixed (T : Txt mg K) : Binds K T.fd_law_mixed ["cell", "k"] [] := T.F_law_mixed.binds (ps := ["cell", "k"]) fun _ _ _ _ _ _ us hl => match us, hl with | [_, _], _ => rfl
theorem b_law_folded (T : Txt mg K) : Binds K T.fd_law_folded ["script"] [] := T.F_law_folded.binds (ps := ["script"]) fun _ _ _ _ _ _ us hl => match us, hl with | [_], _ => rfl
theorem b_law_draw (T : Txt mg K) : Binds K T.fd_law_draw ["m", "many"] [] := T.F_law_draw.binds (ps := ["m", "many"]) fun _ _ _ _ _ _ us hl => match us, hl with | [_, _], _ => rfl
theorem b_law_begun (T : Txt mg K) : Binds K T.fd_law_begun ["script"] [] := T.F_law_begun.binds (ps := ["script"]) fun _ _ _ _ _ _ us hl => match us, hl with | [_], _ => rfl
theorem b_law_called (T : Txt mg K) : Binds K T.fd_law_called ["m", "many"] [] := T.F_law_called.binds (ps := ["m", "many"]) fun _ _ _ _ _ _ us hl => match us, hl with | [_, _], _ => rfl
theorem b_law_whole (T : Txt mg K) : Binds K T.fd_law_whole ["odd", "low", "high"] [] := T.F_law_whole.binds (ps := ["odd", "low", "high"]) fun _ _ _ _ _ _ us hl => match us, hl with | [_, _, _], _ => rfl
theorem b_law_is_name (T : Txt mg K) : Binds K T.fd_law_is_name ["odd"] [] := T.F_law_is_name.binds (ps := ["odd"]) fun _ _ _ _ _ _ us hl => match us, hl with | [_], _ => rfl
theorem b_law_number (T : Txt mg K) : Binds K T.fd_law_number ["text"] [] := T.F_law_number.binds (ps := ["text"]) fun _ _ _ _ _ _ us hl => match us, hl with | [_], _ => rfl
theorem b_law_parted (T : Txt mg K) : Binds K T.fd_law_parted ["text"] [] := T.F_law_parted.binds (ps := ["text"]) fun _ _ _ _ _ _ us hl => match us, hl with | [_], _ => rfl
theorem b_law_signed (T : Txt mg K) : Binds K T.fd_law_signed ["m", "bit"] [] := T.F_law_signed.binds (ps := ["m", "bit"]) fun _ _ _ _ _ _ us hl => match us, hl with | [_, _], _ => rfl
theorem b_law_far (T : Txt mg K) : Binds K T.fd_law_far [] [] := T.F_law_far.binds (ps := []) fun _ _ _ _ _ _ us hl => match us, hl with | [], _ => rfl
theorem b_law_right (T : Txt mg K) : Binds K T.fd_law_right ["odd"] [] := T.F_law_right.binds (ps := ["odd"]) fun _ _ _ _ _ _ us hl => match us, hl with | [_], _ => rfl
theorem b_law_whole_right (T : Txt mg K) : Binds K T.fd_law_whole_right ["m"] [] := T.F_law_whole_right.binds (ps := ["m"]) fun _ _ _ _ _ _ us hl => match us, hl with | [_], _ => rfl
theorem b_law (T : Txt mg K) : Binds K T.fd_law ["script"] [] := T.F_law.binds (ps := ["script"]) fun _ _ _ _ _ _ us hl => match us, hl with | [_], _ => rfl
theorem ok_law_mixed (T : Txt mg K) : FnOk P w K mg base CX0 1 T.f_law_mixed T.fd_law_mixed ["cell", "k"] spMixed := by
  refine T.F_law_mixed.ok sc_law_mixed (fun vs H Q E h => ?_) (fun cdv A outer s H vs Q E hr h => ?_)
  · obtain ⟨_, _, rfl, _⟩ := h
    rfl
  · obtain ⟨cell, k, rfl, c0, c1, k0, k1, q⟩ := h
    refine ⟨_, pss_cons (ps_set (i := 2) sc_law_mixed.nd rfl (.inl rfl) (pe_op op_add (pe_op op_add (pe_op op_mod (pe_op op_mul (pe_op op_mul (pv 0) (pe_op op_add (pe_int) (pe_op op_mul (pe_int) (pv 1)))) (pe_int)) (pe_int)) (pe_op op_mul (pe_op op_mul (pe_int) (pv 1)) (pv 1))) (pe_op op_mul (pe_int) (pv 1))))
 (pss_one (ps_ret (pe_op op_fdiv (pe_op op_mod (pe_op op_mul (pv 2) (pe_int)) (pe_int)) (pe_int)))), ?_⟩
    have e1 : 0 ≤ cell * (1 + 2 * k) * 48271 % 2147483647 := Int.emod_nonneg _ (by decide)
    have e2 : 0 ≤ 7919 * k * k := Int.mul_nonneg (Int.mul_nonneg (by decide) k0) k0
    have e3 : 0 ≤ 104729 * k := Int.mul_nonneg (by decide) k0
    repeat walk_at "st"
    refine q _ ?_ ?_
    · exact Int.ediv_nonneg (Int.emod_nonneg _ (by decide)) (by decide)
    · show _ % 2147483629 / 7 < 2147483648
      omega
theorem ok_law_folded (T : Txt mg K) : FnOk P w K mg base CX0 1 T.f_law_folded T.fd_law_folded ["script"] (spFolded K) := by
  refine T.F_law_folded.ok sc_law_folded (fun vs H Q E h => ?_) (fun cdv A outer s H vs Q E hr h => ?_)
  · obtain ⟨_, _, rfl, _⟩ := h
    rfl
  · obtain ⟨a, ns, rfl, hS, hlen, q⟩ := h
    refine ⟨_, pss_cons (ps_setLc (i := 1) (own := [("k", 2)]) (g := gName 2) (tt := tYes) (by rfl) sc_law_folded.nd rfl rfl (sw_true rfl rfl rfl (by decide +kernel)) (pi_range1 (by rfl) T.n_range (pa_cons (pe_int) pa_nil)) (blkOk_by (own := [("k", 2)]) (N := ["script", "found", "k", "cell"]) (sc := defScope s_law_folded) (by decide +kernel)) (fun _ _ _ _ _ => pg_name (i := 2) sc_law_folded.nd rfl (Or.inl rfl)) (fun _ _ _ _ _ => pts_nil) (fun _ _ _ _ _ => pe_op op_add (pe_int) (pv 2)))
 (pss_cons (ps_for PassesOwn.never rfl (pi_enum (by rfl) T.n_enumerate (pa_cons (pv 0) pa_nil)) (pg_tup rfl (pgs_cons (pg_name (i := 2) sc_law_folded.nd rfl (.inl rfl)) (pgs_cons (pg_name (i := 3) sc_law_folded.nd rfl (.inl rfl)) (pgs_nil)))) (pss_one (ps_asg (pe_op op_mod (pe_op op_add (pe_op op_mul (pe_ix ix_list (pv 1) (pe_op op_mod (pv 2) (pe_int)) (fun _ _ => rfl)) (pe_int)) (pv 3)) (pe_int)) (pg_sub (pv 1) (pe_op op_mod (pv 2) (pe_int)) set_list))))
 (pss_cons (ps_for PassesOwn.never rfl (pi_range2 (by rfl) T.n_range (pa_cons (pe_int) (pa_cons (pe_int) pa_nil))) (pg_name (i := 2) sc_law_folded.nd rfl (.inl rfl)) (pss_one (ps_asg (pe_op op_mod (pe_op op_add (pe_ix ix_list (pv 1) (pv 2) (fun _ _ => rfl)) (pe_op op_mul (pe_ix ix_list (pv 1) (pe_op op_sub (pv 2) (pe_int)) (fun _ _ => rfl)) (pe_int))) (pe_int)) (pg_sub (pv 1) (pv 2) set_list))))
 (pss_one (ps_ret (pv 1))))), ?_⟩
    refine ⟨64, rfl, by decide, by decide, fun p fresh => lc_range (lo := 0) (n := 64) (fun i H1 => Same H H1 ∧ H1 p = some (.lst (((List.range i).map fun j : Nat => (17 : Int) + (0 + (j : Int))).map V.int))) ⟨same_new fresh, upd_same⟩ ?_ ?_⟩
    · rintro i H1 lt ⟨sm, e⟩
      refine ⟨rfl, ?_⟩
      repeat walk_at "st"
      refine ⟨_, e, ?_, same_put sm fresh, ?_⟩
      · simp only [List.length_map, List.length_range]
        exact small1000 (by omega)
      · rw [upd_same, List.range_succ]
        simp only [List.map_append, List.map_cons, List.map_nil]
    · rintro H1 ⟨sm, e⟩
      refine ⟨_, rfl, a, _, rfl, sm.seq hS, for_enum (K := K) (a := a) (xs := ns.map V.int) (fun i σ H2 => ∃ (v2 v3 : Option V) (cs : List Int), σ = [some (.ref a), some (.ref p), v2, v3] ∧ Same H H2 ∧ H2 p = some (.lst (cs.map V.int)) ∧ cs.length = 64 ∧ ∀ c ∈ cs, 0 ≤ c ∧ c < 2147483647)
        ⟨none, none, _, rfl, sm, e, by simp, ?_⟩ (fun i σ H2 ⟨_, _, _, _, sm2, _⟩ => sm2.seq hS) ?_ ?_⟩
      · intro c hc
        obtain ⟨j, hj, rfl⟩ := List.mem_map.mp hc
        have := List.mem_range.mp hj
        omega
      · rintro i x σ H2 T2 lt hx ⟨v2, v3, cs, rfl, sm2, e2, l2, b2⟩ fr
        obtain ⟨z, rfl⟩ := int_of hx
        have ep : (upd H2 T2 (.tup [.int (i : Nat), .int z])) p = some (.lst (cs.map V.int)) := by
          rw [upd_ne (ne_of_none e2 fr)]
          exact e2
        refine ⟨T2, _, rfl, .inl (.inl upd_same), rfl, _, _, rfl, _, _, rfl, rfl, ?_⟩
        have i0 : (0 : Int) ≤ (i : Int) % 64 := Int.emod_nonneg _ (by decide)
        have i1 : (i : Int) % 64 < cs.length := by
          rw [l2]
          exact Int.emod_lt_of_pos _ (by decide)
        obtain ⟨c, hc, ac, ax⟩ := at_int i0 i1
        repeat walk_at "st"
        refine ⟨p, _, _, _, rfl, rfl, .inl (.inl ep), ac, ?_⟩
        repeat walk_at "st"
        refine ⟨p, _, _, _, rfl, rfl, ep, ax, ?_⟩
        rw [set_int]
        refine ⟨_, _, _, rfl, ?_, upd_same, by rw [List.length_set]; exact l2, all_set b2 ⟨Int.emod_nonneg _ (by decide), Int.emod_lt_of_pos _ (by decide)⟩⟩
        exact same_put (sm2.trans (same_new fr)) fresh
      · rintro σ H2 ⟨v2, v3, cs, rfl, sm2, e2, l2, b2⟩
        refine ⟨1, 64, rfl, by decide, for_range (lo := 1) (n := 63) (fun i σ H3 => ∃ (v2 v3 : Option V) (cs : List Int), σ = [some (.ref a), some (.ref p), v2, v3] ∧ Same H H3 ∧ H3 p = some (.lst (cs.map V.int)) ∧ cs.length = 64 ∧ ∀ c ∈ cs, 0 ≤ c ∧ c < 2147483647)
          ⟨v2, v3, cs, rfl, sm2, e2, l2, b2⟩ ?_ ?_⟩
        · rintro i σ H3 lt ⟨v2, v3, cs, rfl, sm3, e3, l3, b3⟩
          obtain ⟨c, hc, ac, ax⟩ := at_int (cs := cs) (i := 1 + (i : Int)) (by omega) (by omega)
          obtain ⟨c', hc', ac', _⟩ := at_int (cs := cs) (i := 1 + (i : Int) - 1) (by omega) (by omega)
          have := b3 c' hc'
          repeat walk_at "st"
          refine ⟨p, _, _, _, rfl, rfl, .inl (.inl e3), ac, ?_⟩
          repeat walk_at "st"
          refine ⟨p, _, _, _, rfl, rfl, .inl (.inl e3), ac', ?_⟩
          repeat walk_at "st"
          refine ⟨p, _, _, _, rfl, rfl, e3, ax, ?_⟩
          rw [set_int]
          exact ⟨_, _, _, rfl, same_put sm3 fresh, upd_same, by rw [List.length_set]; exact l3, all_set b3 ⟨Int.emod_nonneg _ (by decide), Int.emod_lt_of_pos _ (by decide)⟩⟩
        · rintro σ H3 ⟨v2, v3, cs, rfl, sm3, e3, l3, b3⟩
          exact ⟨_, rfl, q p cs H3 fresh l3 b3 sm3 e3⟩
theorem ok_law_draw (T : Txt mg K) : FnOk P w K mg base CX0 2 T.f_law_draw T.fd_law_draw ["m", "many"] spDraw := by
  refine T.F_law_draw.ok sc_law_draw (fun vs H Q E h => ?_) (fun cdv A outer s H vs Q E hr h => ?_)
  · obtain ⟨_, _, _, _, rfl, _⟩ := h
    rfl
  · obtain ⟨d, many, H0, n, rfl, m0, m1, ⟨⟨lc, ll, cs, ls, k, hd, hc, hl, ne, c64, cb, l63, k0, kn, f1, f2⟩, sm, fr⟩, q⟩ := h
    have ndc : d ≠ lc := ne_of hd hc (by intro z; cases z)
    have ndl : d ≠ ll := ne_of hd hl (by intro z; cases z)
    refine ⟨_, pss_cons (ps_set (i := 2) sc_law_draw.nd rfl (.inl rfl) (pe_dget (hu_of hr) (pv 0) (pe_str) (fun _ _ => rfl)))
 (pss_cons (ps_dput (hu_of hr) (pv 0) (pe_str) (pe_op op_add (pv 2) (pe_int)) rfl)
 (pss_cons (ps_if (pt_cmpR (op_neD hr.units) (pe_dget (hu_of hr) (pv 0) (pe_str) (fun _ _ => rfl)) (pe_lst (pa_nil)) (by first | rfl | exact nomark _)) (pss_cons (ps_set (i := 3) sc_law_draw.nd rfl (.inl rfl) (pe_op op_mod (pv 2) (pe_callB call_len_seq (by rfl) T.n_len (by decide +kernel) (pa_cons (pe_dget (hu_of hr) (pv 0) (pe_str) (fun _ _ => rfl)) pa_nil))))
 (pss_cons (ps_set (i := 4) sc_law_draw.nd rfl (.inl rfl) (pe_ix ix_list (pe_dget (hu_of hr) (pv 0) (pe_str) (fun _ _ => rfl)) (pv 3) (fun _ _ => rfl)))
 (pss_one (ps_if (pt_cmpR op_gt (pv 4) (pe_int) (by first | rfl | exact nomark _)) (pss_cons (ps_asg (pe_op op_fdivN (pv 4) (pv 1)) (pg_sub (pe_dget (hu_of hr) (pv 0) (pe_str) (fun _ _ => rfl)) (pv 3) set_list))
 (pss_one (ps_ret (pe_op op_mod (pv 4) (pv 1))))) (pss_nil))))) (pss_nil))
 (pss_one (ps_ret (pe_op op_mod (pe_call (ok_law_mixed T) (hr.mono (by decide)) (by rfl) T.g_law_mixed T.F_law_mixed.kp (b_law_mixed T) .nil pass0 (pa_cons (pe_call (ok_law_mixed T) (hr.mono (by decide)) (by rfl) T.g_law_mixed T.F_law_mixed.kp (b_law_mixed T) .nil pass0 (pa_cons (pe_op op_add (pe_ix ix_list (pe_dget (hu_of hr) (pv 0) (pe_str) (fun _ _ => rfl)) (pe_op op_mod (pv 2) (pe_int)) (fun _ _ => rfl)) (pe_op op_mul (pe_int) (pe_op op_fdiv (pv 2) (pe_int)))) (pa_cons (pv 2) pa_nil))) (pa_cons (pe_op op_add (pv 2) (pe_int)) pa_nil))) (pv 1)))))), ?_⟩
    -- k = m["spot"]; m["spot"] = k + 1
    refine ⟨_, rfl, d, _, rfl, mK_S ▸ DGet.k (k := kS) hd, ?_⟩
    refine ⟨_, rfl, _, _, rfl, rfl, _, rfl, d, _, rfl, DPut.k (k := kS) hd (small1000 (by show 3 ≤ 1000; decide)), ?_⟩
    rw [mK_put]
    have hd1 : (upd H d (.dK (mK lc ll (k + 1)))) d = some (.dK (mK lc ll (k + 1))) := upd_same
    have hc1 : (upd H d (.dK (mK lc ll (k + 1)))) lc = some (.lst (cs.map V.int)) := by rw [upd_ne ndc.symm]; exact hc
    have hl1 : (upd H d (.dK (mK lc ll (k + 1)))) ll = some (.lst (ls.map V.int)) := by rw [upd_ne ndl.symm]; exact hl
    have sm1 : Same H0 (upd H d (.dK (mK lc ll (k + 1)))) := same_put sm fr
    -- if m["left"] != []
    refine ⟨_, rfl, d, _, rfl, mK_L ▸ DGet.k (k := kL) hd1, Nat.zero_le _, fun e fe => ?_⟩
    obtain ⟨H1, eH1⟩ : ∃ H1, H1 = upd H d (.dK (mK lc ll (k + 1))) := ⟨_, rfl⟩
    rw [← eH1] at hd1 hc1 hl1 sm1 fe ⊢
    have nde : d ≠ e := ne_of_none hd1 fe
    have nce : lc ≠ e := ne_of_none hc1 fe
    have nle : ll ≠ e := ne_of_none hl1 fe
    obtain ⟨H2, eH2⟩ : ∃ H2, H2 = upd H1 e (.lst []) := ⟨_, rfl⟩
    rw [← eH2]
    have he2 : H2 e = some (.lst []) := by rw [eH2, upd_same]
    have hd2 : H2 d = some (.dK (mK lc ll (k + 1))) := by rw [eH2, upd_ne nde]; exact hd1
    have hc2 : H2 lc = some (.lst (cs.map V.int)) := by rw [eH2, upd_ne nce]; exact hc1
    have hl2 : H2 ll = some (.lst (ls.map V.int)) := by rw [eH2, upd_ne nle]; exact hl1
    have sm2 : Same H0 H2 := by rw [eH2]; exact fun b u z => by rw [upd_ne (ne_of_none (sm1 b u z) fe)]; exact sm1 b u z
    refine ⟨_, _, .lst (.inl (.inl hl2)) (dp_ints ls), .lst (.inl (.inl he2)) .nil, shaped_ints ls, shaped_nil, _, rfl, ?_⟩
    have dr2 : Dr H0 H2 d n := ⟨⟨lc, ll, cs, ls, k + 1, hd2, hc2, hl2, ne, c64, cb, l63, by omega, by omega, f1, f2⟩, sm2, fr⟩
    have i0 : (0 : Int) ≤ k % 64 := Int.emod_nonneg _ (by decide)
    obtain ⟨c, hcc, ac, _⟩ := at_int (cs := cs) i0 (by rw [c64]; exact Int.emod_lt_of_pos _ (by decide))
    have cbb := cb c hcc
    rw [eqv_nil]
    cases ls with
    | nil =>
      refine ⟨_, rfl, d, _, rfl, mK_C ▸ DGet.k (k := kC) hd2, ?_⟩
      repeat walk_at "st"
      refine ⟨lc, _, _, _, rfl, rfl, .inl (.inl hc2), ac, ?_⟩
      repeat walk_at "st"
      refine ⟨_, k, rfl, by omega, by omega, k0, by omega, fun v v0 v1 => ?_⟩
      repeat walk_at "st"
      refine ⟨v, k + 7, rfl, v0, by omega, by omega, by omega, fun u u0 u1 => ?_⟩
      refine ⟨_, rfl, _, _, rfl, rfl, m0, ?_⟩
      exact q _ _ (Int.emod_nonneg _ (by omega)) (Int.emod_lt_of_pos _ m0) dr2
    | cons x r =>
      refine ⟨_, rfl, _, rfl, d, _, rfl, mK_L ▸ DGet.k (k := kL) hd2, ll, _, rfl, .inl (.inl (.inl hl2)), ?_⟩
      have n0 : (0 : Int) < ((((x :: r).map V.int).length : Nat) : Int) := by
        rw [List.length_map, List.length_cons]
        omega
      refine ⟨_, _, rfl, rfl, n0, ?_⟩
      obtain ⟨y, hy, ay, ix⟩ := at_int (cs := x :: r) (i := k % ((((x :: r).map V.int).length : Nat) : Int)) (Int.emod_nonneg _ (by omega)) (by
        have z := Int.emod_lt_of_pos k n0
        rw [List.length_map] at z
        rw [List.length_map]
        exact z)
      refine ⟨_, rfl, d, _, rfl, mK_L ▸ DGet.k (k := kL) hd2, ?_⟩
      repeat walk_at "st"
      refine ⟨ll, _, _, _, rfl, rfl, .inl (.inl hl2), ay, ?_⟩
      repeat walk_at "st"
      refine ite2 (fun _ => ?_) (fun _ => ?_)
      · refine ⟨_, rfl, _, rfl, _, _, rfl, rfl, ⟨by omega, by omega⟩, ?_⟩
        refine ⟨_, rfl, d, _, rfl, mK_L ▸ DGet.k (k := kL) hd2, _, rfl, ll, _, _, _, rfl, rfl, hl2, ix, ?_⟩
        rw [set_int]
        refine ⟨_, rfl, _, rfl, _, _, rfl, rfl, m0, ?_⟩
        refine q _ _ (Int.emod_nonneg _ (by omega)) (Int.emod_lt_of_pos _ m0) ⟨⟨lc, ll, cs, _, k + 1, by rw [upd_ne ndl]; exact hd2, by rw [upd_ne ne]; exact hc2, upd_same, ne, c64, cb, by rw [List.length_set]; exact l63, by omega, by omega, f1, f2⟩, same_put sm2 f2, fr⟩
      · refine ⟨_, rfl, d, _, rfl, mK_C ▸ DGet.k (k := kC) hd2, ?_⟩
        repeat walk_at "st"
        refine ⟨lc, _, _, _, rfl, rfl, .inl (.inl hc2), ac, ?_⟩
        repeat walk_at "st"
        refine ⟨_, k, rfl, by omega, by omega, k0, by omega, fun v v0 v1 => ?_⟩
        repeat walk_at "st"
        refine ⟨v, k + 7, rfl, v0, by omega, by omega, by omega, fun u u0 u1 => ?_⟩
        refine ⟨_, rfl, _, _, rfl, rfl, m0, ?_⟩
        exact q _ _ (Int.emod_nonneg _ (by omega)) (Int.emod_lt_of_pos _ m0) dr2
theorem ok_law_begun (T : Txt mg K) : FnOk P w K mg base CX0 2 T.f_law_begun T.fd_law_begun ["script"] (spBegun K) := by
  refine T.F_law_begun.ok sc_law_begun (fun vs H Q E h => ?_) (fun cdv A outer s H vs Q E hr h => ?_)
  · obtain ⟨_, _, rfl, _⟩ := h
    rfl
  · obtain ⟨a, ns, rfl, hS, l63, q⟩ := h
    refine ⟨_, pss_cons (ps_set (i := 1) sc_law_begun.nd rfl (.inl rfl) (pe_disp (pps_cons (pe_str) (pe_call (ok_law_folded T) (hr.mono (by decide)) (by rfl) T.g_law_folded T.F_law_folded.kp (b_law_folded T) .nil pass0 (pa_cons (pv 0) pa_nil)) (pps_cons (pe_str) (pe_lst (pa_nil)) (pps_cons (pe_str) (pe_int) (pps_nil)))) (by rfl) (by rfl) (fun z => by cases z) (by decide)))
 (pss_cons (ps_dput (hu_of hr) (pv 1) (pe_str) (pe_lc (own := [("cell", 2)]) (g := gName 2) (tt := tYes) (by rfl) sc_law_begun.nd (pi_list (pv 0)) (blkOk_by (own := [("cell", 2)]) (N := ["script", "m", "cell"]) (sc := defScope s_law_begun) (by decide +kernel)) (fun _ _ _ _ _ => pg_name (i := 2) sc_law_begun.nd rfl (Or.inl rfl)) (fun _ _ _ _ _ => pts_nil) (fun _ _ _ _ _ => pe_ifExp (pt_cmpR op_ge (pv 2) (pe_op op_pow (pe_int) (pe_int)) (by first | rfl | exact nomark _)) (pv 2) (pe_int))) rfl)
 (pss_one (ps_ret (pv 1)))), ?_⟩
    -- the dict
    intro d fd
    have s0 : Same H (upd H d (.dK [])) := same_new fd
    refine ⟨_, rfl, a, ns, rfl, s0.seq hS, l63, fun p cs H1 fp c64 cb s1 e1 => ?_⟩
    have hd1 : H1 d = some (.dK []) := s1 _ _ upd_same
    refine ⟨Nat.zero_le _, fun l fl => ?_⟩
    have ndl : d ≠ l := ne_of_none hd1 fl
    have npl : p ≠ l := ne_of_none e1 fl
    have npd : p ≠ d := ne_of e1 hd1 (by intro z; cases z)
    refine ⟨by rw [upd_ne ndl]; exact hd1, [(kC, V.ref p), (kL, V.ref l), (kS, V.int 0)], rfl, by show 3 ≤ 15; decide, ?_⟩
    have em : mergeK [] [(kC, V.ref p), (kL, V.ref l), (kS, V.int 0)] = mK p l 0 := by
      show putK (putK (putK [] kC (V.ref p)) kL (V.ref l)) kS (V.int 0) = _
      rw [putK_new (kvs := []) _ valV_nil]
      rw [putK_new (kvs := [] ++ [(kC, V.ref p)]) _ ((valV_neg nCL).trans valV_nil)]
      rw [putK_new (kvs := [] ++ [(kC, V.ref p)] ++ [(kL, V.ref l)]) _ ((valV_neg nCS).trans ((valV_neg nLS).trans valV_nil))]
      rfl
    rw [em]
    obtain ⟨H2, eH2⟩ : ∃ H2, H2 = upd (upd H1 l (.lst [])) d (.dK (mK p l 0)) := ⟨_, rfl⟩
    rw [← eH2]
    have hd2 : H2 d = some (.dK (mK p l 0)) := by rw [eH2, upd_same]
    have hp2 : H2 p = some (.lst (cs.map V.int)) := by rw [eH2, upd_ne npd, upd_ne npl]; exact e1
    have s2 : Same H H2 := by
      intro b u z
      rw [eH2, upd_ne (ne_of_none z fd), upd_ne (ne_of_none (s1 b u (s0 b u z)) fl)]
      exact s1 b u (s0 b u z)
    -- m["left"] = [.. for cell in script]
    refine ⟨_, rfl, a, rfl, ⟨_, s2.seq hS⟩, fun D fD => lc_list (K := K) (a := a) (xs := ns.map V.int) (fun i H3 => Same H2 H3 ∧ ∃ ls : List Int, H3 D = some (.lst (ls.map V.int)) ∧ ls.length = i) ⟨same_new fD, [], upd_same, rfl⟩ (fun i H3 _ hw => hw.1.seq (s2.seq hS)) ?_ ?_⟩
    · rintro i x H3 hx ⟨s3, ls, e3, l3⟩
      obtain ⟨z, rfl⟩ := int_of hx
      have il : i < ns.length := by
        have := (List.getElem?_eq_some_iff.mp hx).1
        rw [List.length_map] at this
        exact this
      refine ⟨rfl, ?_⟩
      have fin : ∀ y : Int, ∃ acc, H3 D = some (.lst acc) ∧ acc.length < sizeLine ∧ (Same H2 (upd H3 D (.lst (acc ++ [V.int y]))) ∧ ∃ ls : List Int, (upd H3 D (.lst (acc ++ [V.int y]))) D = some (.lst (ls.map V.int)) ∧ ls.length = i + 1) := fun y =>
        ⟨_, e3, small1000 (by rw [List.length_map]; omega), same_put s3 fD, ls ++ [y], by rw [upd_same, List.map_append]; rfl, by rw [List.length_append, l3]; rfl⟩
      refine ⟨_, rfl, _, _, rfl, rfl, ⟨by decide, by decide, by decide⟩, _, _, rfl, rfl, _, rfl, ite2 (fun _ => ?_) (fun _ => ?_)⟩
      · exact ⟨_, rfl, fin z⟩
      · exact fin 0
    · rintro H3 ⟨s3, ls, e3, l3⟩
      have hd3 := s3 _ _ hd2
      have hp3 := s3 _ _ hp2
      rw [List.length_map] at l3
      refine ⟨_, rfl, d, _, rfl, DPut.k (k := kL) hd3 (small1000 (by show 3 ≤ 1000; decide)), ?_⟩
      rw [mK_putL]
      refine ⟨_, rfl, q d _ ⟨⟨p, D, cs, ls, 0, upd_same, ?_, ?_, ?_, c64, cb, by omega, by decide, by decide, ?_, ?_⟩, ?_, fd⟩⟩
      · rw [upd_ne npd]; exact hp3
      · rw [upd_ne (fun z => by rw [z] at e3; rw [e3] at hd3; cases hd3)]; exact e3
      · intro z; subst z; rw [hp2] at fD; cases fD
      · exact s0.free fp
      · exact s2.free fD
      · exact same_put (s2.trans s3) fd
end
end K

set_option maxRecDepth 100000
set_option maxHeartbeats 4000000
namespace K
open PySem PySem.Spec PyProof.Rows L2 Gd
local macro_rules | `(tactic| walk_at "mulok") => `(tactic| first | exact Or.inr ⟨by decide, by decide⟩ | exact Or.inl ⟨by decide, by decide⟩ | exact Or.inr ⟨by omega, by omega⟩ | exact Or.inl ⟨by omega, by omega⟩)
local macro_rules | `(tactic| walk_at "st") => `(tactic| first
  | refine ⟨_, rfl, ?_⟩
  | refine ⟨_, _, rfl, rfl, (by walk_at "mulok"), ?_⟩
  | refine ⟨_, _, rfl, rfl, (by show (0 : Int) < _; decide), ?_⟩
  | refine ⟨_, _, rfl, rfl, ⟨by decide, by decide⟩, ?_⟩
  | refine ⟨_, _, rfl, rfl, ?_⟩)
def abc : PySem.Str := "abcdefghijklmnopqrstuvwxyz"
theorem abc_tx : Tx 26 abc := ⟨by decide +kernel, by decide +kernel⟩
theorem abc_len : abc.cps.toList.length = 26 := by decide +kernel
def vow : PySem.Str := "aeiou"
theorem vow_tx : Tx 5 vow := ⟨by decide +kernel, by decide +kernel⟩
theorem vow_len : vow.cps.toList.length = 5 := by decide +kernel
section
variable {P : Program} {w : World} {K : PySem.W.Frag} {mg : PySem.Str → Option Value} {base : Heap}
theorem ok_law_called (T : Txt mg K) : FnOk P w K mg base CX0 3 T.f_law_called T.fd_law_called ["m", "many"] spCalled := by
  refine T.F_law_called.ok sc_law_called (fun vs H Q E h => ?_) (fun cdv A outer s H vs Q E hr h => ?_)
  · obtain ⟨_, _, _, _, rfl, _⟩ := h
    rfl
  · obtain ⟨d, M, H0, n, rfl, m100, dr, q⟩ := h
    refine ⟨_, pss_cons (ps_par (i := 2) (j := 3) (by rfl) sc_law_called.nd rfl rfl (by decide) rfl rfl (pa_cons (pe_str) (pa_cons (pe_lst (pa_nil)) pa_nil)) (by rfl))
 (pss_cons (ps_set (i := 4) sc_law_called.nd rfl (.inl rfl) (pe_call (ok_law_draw T) (hr.mono (by decide)) (by rfl) T.g_law_draw T.F_law_draw.kp (b_law_draw T) .nil pass0 (pa_cons (pv 0) (pa_cons (pe_int) pa_nil))))
 (pss_cons (ps_set (i := 5) sc_law_called.nd rfl (.inl rfl) (pe_ix ix_list (pe_lst (pa_cons (pe_int) (pa_cons (pe_int) (pa_cons (pe_int) (pa_cons (pe_int) (pa_cons (pe_int) (pa_cons (pe_int) (pa_cons (pe_int) (pa_cons (pe_int) (pa_cons (pe_int) (pa_cons (pe_int) (pa_cons (pe_int) (pa_cons (pe_int) pa_nil))))))))))))) (pe_call (ok_law_draw T) (hr.mono (by decide)) (by rfl) T.g_law_draw T.F_law_draw.kp (b_law_draw T) .nil pass0 (pa_cons (pv 0) (pa_cons (pe_int) pa_nil))) (fun _ _ => rfl)))
 (pss_cons (ps_for PassesOwn.never rfl (pi_range1 (by rfl) T.n_range (pa_cons (pv 1) pa_nil)) (pg_name (i := 6) sc_law_called.nd rfl (.inl rfl)) (pss_cons (ps_set (i := 7) sc_law_called.nd rfl (.inl rfl) (pe_ix ix_str (pv 2) (pe_op op_mod (pe_op op_add (pv 4) (pe_op op_mul (pv 5) (pv 6))) (pe_int)) (fun _ _ => rfl)))
 (pss_cons (ps_set (i := 7) sc_law_called.nd rfl (.inl rfl) (pe_op op_add_str (pv 7) (pe_ix ix_str (pv 2) (pe_op op_mod (pe_op op_add (pv 4) (pe_op op_fdiv (pv 6) (pe_int))) (pe_int)) (fun _ _ => rfl))))
 (pss_cons (ps_for PassesOwn.never rfl (pi_range1 (by rfl) T.n_range (pa_cons (pe_ix ix_list (pe_lst (pa_cons (pe_int) (pa_cons (pe_int) (pa_cons (pe_int) (pa_cons (pe_call (ok_law_draw T) (hr.mono (by decide)) (by rfl) T.g_law_draw T.F_law_draw.kp (b_law_draw T) .nil pass0 (pa_cons (pv 0) (pa_cons (pe_int) pa_nil))) pa_nil))))) (pe_call (ok_law_draw T) (hr.mono (by decide)) (by rfl) T.g_law_draw T.F_law_draw.kp (b_law_draw T) .nil pass0 (pa_cons (pv 0) (pa_cons (pe_int) pa_nil))) (fun _ _ => rfl)) pa_nil)) (pg_name (i := 8) sc_law_called.nd rfl (.inl rfl)) (pss_one (ps_set (i := 7) sc_law_called.nd rfl (.inl rfl) (pe_op op_add_str (pv 7) (pe_ix ix_str (pe_str) (pe_call (ok_law_draw T) (hr.mono (by decide)) (by rfl) T.g_law_draw T.F_law_draw.kp (b_law_draw T) .nil pass0 (pa_cons (pv 0) (pa_cons (pe_int) pa_nil))) (fun _ _ => rfl))))))
 (pss_cons (ps_if (pt_cmpR op_eq (pv 7) (pe_str) (by first | rfl | exact nomark _)) (pss_one (ps_set (i := 7) sc_law_called.nd rfl (.inl rfl) (pe_str))) (pss_nil))
 (pss_cons (ps_if (PW.pt (pw_and (pt_cmpR op_eq (pe_op op_mod (pv 6) (pe_int)) (pe_int) (by first | rfl | exact nomark _)) (pw_and1 (pt_cmpR op_eq (pe_call (ok_law_draw T) (hr.mono (by decide)) (by rfl) T.g_law_draw T.F_law_draw.kp (b_law_draw T) .nil pass0 (pa_cons (pv 0) (pa_cons (pe_int) pa_nil))) (pe_int) (by first | rfl | exact nomark _))))) (pss_one (ps_set (i := 7) sc_law_called.nd rfl (.inl rfl) (pe_op op_add_str (pe_slice sl_str (pe_ix ix_list (pv 3) (pe_un un_neg (pe_int)) (fun _ _ => rfl)) po_none (po_some (pe_int))) (pe_str)))) (pss_nil))
 (pss_one (ps_expr (pe_bm PySem.F.plainAttrs_list PySem.F.slot_list_append PySem.F.type_list_append mt_append (pv 3) (pa_cons (pv 7) pa_nil))))))))))
 (pss_one (ps_ret (pv 3)))))), ?_⟩
    refine ⟨Nat.zero_le _, fun p fp => ⟨_, _, rfl, ?_⟩⟩
    have fp0 : H0 p = none := dr.same.free fp
    have drA := dr.new (.lst []) fp
    -- shift
    refine ⟨_, rfl, d, 26, upd H0 p (.lst []), n + 1 + 8 * M, rfl, by decide, by decide, drA.less (by omega), fun shift H1 s0 s1 dr1 => ?_⟩
    -- stride
    refine ⟨by show 12 ≤ sizeLine; decide, fun e fe => ?_⟩
    have fe0 := dr1.same.free fe
    refine ⟨_, rfl, d, 12, _, n + 8 * M, rfl, by decide, by decide, (dr1.new _ fe).less (by omega), fun i H2 i0 i1 dr2 => ?_⟩
    obtain ⟨stride, hs, as, _⟩ := at_int (cs := [1, 3, 5, 7, 9, 11, 15, 17, 19, 21, 23, 25]) i0 i1
    have sb : ∀ c ∈ ([1, 3, 5, 7, 9, 11, 15, 17, 19, 21, 23, 25] : List Int), 0 ≤ c ∧ c ≤ 25 := by decide
    have := sb _ hs
    refine ⟨e, _, _, _, rfl, rfl, .inl (.inl dr2.told), as, ?_⟩
    have dr3 := dr2.drop fe0
    -- for k in range(many)
    refine ⟨_, rfl, (M : Int), rfl, by omega, by omega, for_range (lo := 0) (n := ((M : Int)).toNat) (fun k σ H3 => ∃ (zs : List PySem.Str) (v6 v7 v8 : Option V), σ = [some (.ref d), some (.int (M : Int)), some (.str abc), some (.ref p), some (.int shift), some (.int stride), v6, v7, v8] ∧ zs.length = k ∧ (∀ z ∈ zs, Tx 10 z) ∧ Dr (upd H0 p (.lst (zs.map V.str))) H3 d (n + 8 * (M - k)))
      ⟨[], none, none, none, rfl, rfl, fun z hz => absurd hz List.not_mem_nil, dr3⟩ ?_ ?_⟩
    · rintro k σ H3 kM ⟨zs, v6, v7, v8, rfl, lz, bz, drk⟩
      have kM' : k < M := by omega
      have x0 : 0 ≤ (shift + stride * (0 + (k : Int))) % 26 := Int.emod_nonneg _ (by decide)
      have x1 : (shift + stride * (0 + (k : Int))) % 26 < (abc.cps.toList.length : Nat) := by rw [abc_len]; exact Int.emod_lt_of_pos _ (by decide)
      obtain ⟨c, hc, ac, tc⟩ := at_str abc_tx x0 x1
      have y0 : 0 ≤ (shift + (0 + (k : Int)) / 26) % 26 := Int.emod_nonneg _ (by decide)
      have y1 : (shift + (0 + (k : Int)) / 26) % 26 < (abc.cps.toList.length : Nat) := by rw [abc_len]; exact Int.emod_lt_of_pos _ (by decide)
      obtain ⟨c2, hc2, ac2, tc2⟩ := at_str abc_tx y0 y1
      repeat walk_at "st"
      refine ⟨abc, _, _, rfl, rfl, abc_tx.line (by decide), ac, ?_⟩
      repeat walk_at "st"
      refine ⟨abc, _, _, rfl, rfl, abc_tx.line (by decide), ac2, ?_⟩
      refine ⟨_, _, rfl, rfl, tc.line2 tc2 (by decide), ?_⟩
      -- range([0, 0, 1, draw][draw])
      refine ⟨_, rfl, d, 6, _, n + 7 + 8 * (M - k - 1), rfl, by decide, by decide, drk.less (by omega), fun v H4 v0 v1 dr4 => ?_⟩
      refine ⟨by show 4 ≤ sizeLine; decide, fun e4 fe4 => ?_⟩
      have fe40 := dr4.same.free fe4
      refine ⟨_, rfl, d, 4, _, n + 6 + 8 * (M - k - 1), rfl, by decide, by decide, (dr4.new _ fe4).less (by omega), fun i4 H5 i40 i41 dr5 => ?_⟩
      obtain ⟨j, hj, aj, _⟩ := at_int (cs := [0, 0, 1, v]) i40 i41
      have jb : 0 ≤ j ∧ j ≤ 5 := by
        simp only [List.mem_cons, List.not_mem_nil, or_false] at hj
        omega
      refine ⟨e4, _, _, _, rfl, rfl, .inl (.inl dr5.told), aj, ?_⟩
      have dr6 := dr5.drop fe40
      refine ⟨j, rfl, by omega, by omega, for_range (lo := 0) (n := j.toNat) (fun i σ H6 => ∃ (said : PySem.Str) (v8 : Option V), σ = [some (.ref d), some (.int (M : Int)), some (.str abc), some (.ref p), some (.int shift), some (.int stride), some (.int (0 + (k : Int))), some (.str said), v8] ∧ Tx (2 + i) said ∧ Dr (upd H0 p (.lst (zs.map V.str))) H6 d (n + 1 + (5 - i) + 8 * (M - k - 1)))
        ⟨_, _, rfl, tc.add tc2, dr6.less (by omega)⟩ ?_ ?_⟩
      · rintro i σ H6 ij ⟨said, v8, rfl, ts, drj⟩
        refine ⟨_, rfl, _, rfl, d, 5, _, n + 1 + (5 - (i + 1)) + 8 * (M - k - 1), rfl, by decide, by decide, drj.less (by omega), fun u H7 u0 u1 dr7 => ?_⟩
        obtain ⟨c5, hc5, ac5, tc5⟩ := at_str vow_tx u0 (by rw [vow_len]; exact u1)
        refine ⟨vow, _, _, rfl, rfl, vow_tx.line (by decide), ac5, _, _, rfl, rfl, ts.line2 tc5 (by omega), ?_⟩
        exact ⟨_, _, rfl, (ts.add tc5).mono (by omega), dr7⟩
      · rintro σ H6 ⟨said, v8, rfl, ts, drj⟩
        have ts' : Tx 10 said := ts.mono (by omega)
        have fin : ∀ (said2 : PySem.Str) (H8 : Hp), Tx 10 said2 → Dr (upd H0 p (.lst (zs.map V.str))) H8 d (n + 8 * (M - k - 1)) →
            ∃ (zs' : List PySem.Str) (v6 v7 v8' : Option V), [some (V.ref d), some (.int (M : Int)), some (.str abc), some (.ref p), some (.int shift), some (.int stride), some (.int (0 + (k : Int))), some (.str said2), v8] = [some (.ref d), some (.int (M : Int)), some (.str abc), some (.ref p), some (.int shift), some (.int stride), v6, v7, v8'] ∧ zs'.length = k + 1 ∧ (∀ z ∈ zs', Tx 10 z) ∧ Dr (upd H0 p (.lst (zs'.map V.str))) (upd H8 p (.lst (zs.map V.str ++ [.str said2]))) d (n + 8 * (M - (k + 1))) := by
          intro said2 H8 t2 d8
          refine ⟨zs ++ [said2], _, _, _, rfl, by rw [List.length_append, lz]; rfl, fun z hz => ?_, ?_⟩
          · rcases List.mem_append.mp hz with h1 | h1
            · exact bz z h1
            · rw [List.mem_singleton.mp h1]
              exact t2
          · rw [List.map_append, List.map_cons, List.map_nil]
            have d9 := d8.put (.lst (zs.map V.str ++ [.str said2])) (.inr ⟨_, upd_same⟩)
            rw [upd_upd] at d9
            exact d9.less (by omega)
        have app : ∀ (said2 : PySem.Str) (H8 : Hp), Tx 10 said2 → Dr (upd H0 p (.lst (zs.map V.str))) H8 d (n + 8 * (M - k - 1)) → (zs.map V.str).length < sizeLine := fun _ _ _ _ => small1000 (by rw [List.length_map]; omega)
        -- if said == "glue"
        refine ⟨_, rfl, rfl, _, rfl, ite2 (fun _ => ?_) (fun _ => ?_)⟩
        · have tg : Tx 10 "gluea" := ⟨by decide +kernel, by decide +kernel⟩
          -- if k % 2 == 1 and draw == 0
          repeat walk_at "st"
          refine ⟨rfl, _, rfl, ?_⟩
          refine ite2 (fun odd => ?_) (fun _ => ?_)
          · refine ⟨_, rfl, d, 5, _, n + 8 * (M - k - 1), rfl, by decide, by decide, drj.less (by omega), fun u H7 u0 u1 dr7 => ?_⟩
            refine ⟨rfl, _, rfl, ite2 (fun _ => ?_) (fun _ => ?_)⟩
            · have ne : zs ≠ [] := by
                intro z
                rw [z] at lz
                have lz0 : k = 0 := lz.symm
                subst lz0
                simp at odd
              obtain ⟨x, hx, ax⟩ := at_last (l := zs.map V.str) (by simpa using ne)
              obtain ⟨y, hy, rfl⟩ := List.mem_map.mp hx
              refine ⟨_, rfl, 1, rfl, p, _, _, _, rfl, rfl, .inl (.inl dr7.told), ax, ?_⟩
              refine ⟨_, rfl, _, rfl, ((bz y hy).line (by decide)), ?_⟩
              have ty : Tx 10 (cutS y none (some 7) ++ "y") := (((bz y hy).cutTo 7).add (m := 1) ⟨by decide +kernel, by decide +kernel⟩).mono (by decide)
              refine ⟨_, _, rfl, rfl, ((bz y hy).cutTo 7).line2 (m := 1) ⟨by decide +kernel, by decide +kernel⟩ (by decide), ?_⟩
              refine ⟨_, rfl, .inl ⟨rfl, _, SqL.of dr7.told⟩, _, rfl, p, _, _, rfl, rfl, dr7.told, app _ _ ty dr7, ?_⟩
              exact fin _ _ ty dr7
            · refine ⟨_, rfl, .inl ⟨rfl, _, SqL.of dr7.told⟩, _, rfl, p, _, _, rfl, rfl, dr7.told, app _ _ tg dr7, ?_⟩
              exact fin _ _ tg dr7
          · refine ⟨_, rfl, .inl ⟨rfl, _, SqL.of drj.told⟩, _, rfl, p, _, _, rfl, rfl, drj.told, app _ _ tg (drj.less (by omega)), ?_⟩
            exact fin _ _ tg (drj.less (by omega))
        · skip
          -- if k % 2 == 1 and draw == 0
          repeat walk_at "st"
          refine ⟨rfl, _, rfl, ?_⟩
          refine ite2 (fun odd => ?_) (fun _ => ?_)
          · refine ⟨_, rfl, d, 5, _, n + 8 * (M - k - 1), rfl, by decide, by decide, drj.less (by omega), fun u H7 u0 u1 dr7 => ?_⟩
            refine ⟨rfl, _, rfl, ite2 (fun _ => ?_) (fun _ => ?_)⟩
            · have ne : zs ≠ [] := by
                intro z
                rw [z] at lz
                have lz0 : k = 0 := lz.symm
                subst lz0
                simp at odd
              obtain ⟨x, hx, ax⟩ := at_last (l := zs.map V.str) (by simpa using ne)
              obtain ⟨y, hy, rfl⟩ := List.mem_map.mp hx
              refine ⟨_, rfl, 1, rfl, p, _, _, _, rfl, rfl, .inl (.inl dr7.told), ax, ?_⟩
              refine ⟨_, rfl, _, rfl, ((bz y hy).line (by decide)), ?_⟩
              have ty : Tx 10 (cutS y none (some 7) ++ "y") := (((bz y hy).cutTo 7).add (m := 1) ⟨by decide +kernel, by decide +kernel⟩).mono (by decide)
              refine ⟨_, _, rfl, rfl, ((bz y hy).cutTo 7).line2 (m := 1) ⟨by decide +kernel, by decide +kernel⟩ (by decide), ?_⟩
              refine ⟨_, rfl, .inl ⟨rfl, _, SqL.of dr7.told⟩, _, rfl, p, _, _, rfl, rfl, dr7.told, app _ _ ty dr7, ?_⟩
              exact fin _ _ ty dr7
            · refine ⟨_, rfl, .inl ⟨rfl, _, SqL.of dr7.told⟩, _, rfl, p, _, _, rfl, rfl, dr7.told, app _ _ ts' dr7, ?_⟩
              exact fin _ _ ts' dr7
          · refine ⟨_, rfl, .inl ⟨rfl, _, SqL.of drj.told⟩, _, rfl, p, _, _, rfl, rfl, drj.told, app _ _ ts' (drj.less (by omega)), ?_⟩
            exact fin _ _ ts' (drj.less (by omega))
    · rintro σ H3 ⟨zs, v6, v7, v8, rfl, lz, bz, drk⟩
      exact ⟨_, rfl, q p zs H3 fp0 (by omega) bz (drk.less (by omega))⟩
theorem ok_law_signed (T : Txt mg K) : FnOk P w K mg base CX0 3 T.f_law_signed T.fd_law_signed ["m", "bit"] spSigned := by
  refine T.F_law_signed.ok sc_law_signed (fun vs H Q E h => ?_) (fun cdv A outer s H vs Q E hr h => ?_)
  · obtain ⟨_, _, _, _, rfl, _⟩ := h
    rfl
  · obtain ⟨d, bit, H0, n, rfl, tb, dr, q⟩ := h
    refine ⟨_, pss_cons (ps_set (i := 2) sc_law_signed.nd rfl (.inl rfl) (pe_str))
 (pss_cons (ps_set (i := 2) sc_law_signed.nd rfl (.inl rfl) (pe_op op_add_str (pv 2) (pe_str)))
 (pss_cons (ps_par (i := 3) (j := 4) (by rfl) sc_law_signed.nd rfl rfl (by decide) rfl rfl (pa_cons (pe_ix ix_str (pv 2) (pe_call (ok_law_draw T) (hr.mono (by decide)) (by rfl) T.g_law_draw T.F_law_draw.kp (b_law_draw T) .nil pass0 (pa_cons (pv 0) (pa_cons (pe_callB call_len_str (by rfl) T.n_len (by decide +kernel) (pa_cons (pv 2) pa_nil)) pa_nil))) (fun _ _ => rfl)) (pa_cons (pe_call (ok_law_draw T) (hr.mono (by decide)) (by rfl) T.g_law_draw T.F_law_draw.kp (b_law_draw T) .nil pass0 (pa_cons (pv 0) (pa_cons (pe_op op_add (pe_callB call_len_str (by rfl) T.n_len (by decide +kernel) (pa_cons (pv 1) pa_nil)) (pe_int)) pa_nil))) pa_nil)) (by rfl))
 (pss_one (ps_ret (pe_ix ix_list (pe_lst (pa_cons (pe_op op_add_str (pe_op op_add_str (pe_slice sl_str (pv 1) po_none (po_some (pv 4))) (pv 3)) (pe_slice sl_str (pv 1) (po_some (pv 4)) po_none)) (pa_cons (pe_op op_add_str (pe_op op_add_str (pe_slice sl_str (pv 1) po_none (po_some (pv 4))) (pv 3)) (pe_slice sl_str (pv 1) (po_some (pe_op op_add (pv 4) (pe_int))) po_none)) (pa_cons (pe_op op_add_str (pv 1) (pv 3)) (pa_cons (pv 3) pa_nil))))) (pe_call (ok_law_draw T) (hr.mono (by decide)) (by rfl) T.g_law_draw T.F_law_draw.kp (b_law_draw T) .nil pass0 (pa_cons (pv 0) (pa_cons (pe_int) pa_nil))) (fun _ _ => rfl)))))), ?_⟩
    have t1 : Tx 62 "abcdefghijklmnopqrstuvwxyzABCDEFGHIJKLMNOPQRSTUVWXYZ0123456789" := ⟨by decide +kernel, by decide +kernel⟩
    have t2 : Tx 40 " _-+*/.,:;<>[](){}=?!#&@^|~`$\"'\\\n" := ⟨by decide +kernel, by decide +kernel⟩
    refine ⟨_, rfl, _, _, rfl, rfl, t1.line2 t2 (by decide), ?_⟩
    obtain ⟨z, ez⟩ : ∃ z : PySem.Str, z = ("abcdefghijklmnopqrstuvwxyzABCDEFGHIJKLMNOPQRSTUVWXYZ0123456789" : PySem.Str) ++ (" _-+*/.,:;<>[](){}=?!#&@^|~`$\"'\\\n" : PySem.Str) := ⟨_, rfl⟩
    rw [← ez]
    have tz : Tx 102 z := by rw [ez]; exact t1.add t2
    have lz : 0 < z.cps.toList.length := by rw [ez]; decide +kernel
    have ln : z.length = z.cps.toList.length := by show z.cps.size = _; simp
    have lb : bit.length = bit.cps.toList.length := by show bit.cps.size = _; simp
    refine ⟨_, rfl, _, rfl, _, rfl, z, rfl, tz.line (by decide), d, _, H0, n + 2, rfl, by omega, by have := tz.1; omega, dr, fun i H1 i0 i1 dr1 => ?_⟩
    obtain ⟨c, hc, ac, tc⟩ := at_str tz i0 (by rw [← ln]; exact i1)
    refine ⟨z, _, _, rfl, rfl, tz.line (by decide), ac, ?_⟩
    refine ⟨_, rfl, _, rfl, bit, rfl, tb.line (by decide), _, _, rfl, rfl, d, _, H0, n + 1, rfl, by omega, by have := tb.1; omega, dr1, fun sp H2 s0 s1 dr2 => ⟨_, _, rfl, ?_⟩⟩
    have a1 := (tb.cut none (some sp)).add tc
    have a2 := a1.add (tb.cut (some sp) none)
    have a3 := a1.add (tb.cut (some (sp + 1)) none)
    have a4 := tb.add tc
    refine ⟨_, rfl, _, rfl, _, rfl, _, rfl, tb.line (by decide), _, rfl, _, _, rfl, rfl, (tb.cut none (some sp)).line2 tc (by decide), ?_⟩
    refine ⟨_, rfl, _, rfl, _, rfl, _, rfl, tb.line (by decide), _, _, rfl, rfl, a1.line2 (tb.cut (some sp) none) (by decide), ?_⟩
    refine ⟨_, rfl, _, rfl, _, rfl, _, rfl, tb.line (by decide), _, rfl, _, _, rfl, rfl, (tb.cut none (some sp)).line2 tc (by decide), ?_⟩
    refine ⟨_, rfl, _, rfl, _, _, rfl, rfl, _, rfl, _, rfl, tb.line (by decide), _, _, rfl, rfl, a1.line2 (tb.cut (some (sp + 1)) none) (by decide), ?_⟩
    refine ⟨_, rfl, _, rfl, _, _, rfl, rfl, tb.line2 tc (by decide), ?_⟩
    refine ⟨_, rfl, by show 4 ≤ sizeLine; decide, fun e fe => ?_⟩
    have fe0 := dr2.same.free fe
    refine ⟨_, rfl, d, 4, _, n, rfl, by decide, by decide, dr2.new _ fe, fun j H3 j0 j1 dr3 => ?_⟩
    obtain ⟨v, hv, _, av⟩ := at_in (l := [V.str (cutS bit none (some sp) ++ ⟨#[c]⟩ ++ cutS bit (some sp) none), V.str (cutS bit none (some sp) ++ ⟨#[c]⟩ ++ cutS bit (some (sp + 1)) none), V.str (bit ++ ⟨#[c]⟩), V.str ⟨#[c]⟩]) j0 j1
    refine ⟨e, _, _, v, rfl, rfl, .inl (.inl dr3.told), av, ?_⟩
    have done := dr3.drop fe0
    simp only [List.mem_cons, List.not_mem_nil, or_false] at hv
    rcases hv with rfl | rfl | rfl | rfl
    · exact q _ _ (a2.mono (by decide)) done
    · exact q _ _ (a3.mono (by decide)) done
    · exact q _ _ (a4.mono (by decide)) done
    · exact q _ _ (tc.mono (by decide)) done
end
end K

set_option maxRecDepth 100000
set_option maxHeartbeats 4000000
namespace K
open PySem PySem.Spec PyProof.Rows L2 Gd
local macro_rules | `(tactic| walk_at "mulok") => `(tactic| first | exact Or.inr ⟨by decide, by decide⟩ | exact Or.inl ⟨by decide, by decide⟩ | exact Or.inr ⟨by omega, by omega⟩ | exact Or.inl ⟨by omega, by omega⟩)
local macro_rules | `(tactic| walk_at "st") => `(tactic| first
  | refine ⟨_, rfl, ?_⟩
  | refine ⟨_, _, rfl, rfl, (by walk_at "mulok"), ?_⟩
  | refine ⟨_, _, rfl, rfl, (by show (0 : Int) < _; decide), ?_⟩
  | refine ⟨_, _, rfl, rfl, ⟨by decide, by decide⟩, ?_⟩
  | refine ⟨_, _, rfl, rfl, ?_⟩)
def banW : List V := [.str "style", .str "job", .str "round", .str "sew", .str "glue", .str "cover", .str "letter", .str "press", .str "hand", .str "haste"]
def small (c : Nat) : Bool := decide (97 ≤ c) && decide (c ≤ 122)
def nm : V → Bool
  | .str z => (decide ((1 : Int) ≤ (z.length : Nat)) && decide (((z.length : Nat) : Int) ≤ 8)) && z.cps.toList.all small && !inV (.str z) banW
  | _ => false
theorem nm_not {H : Hp} {x : V} {ty : String} (o : Od H x ty) (e : ty ≠ "str") : nm x = false := by
  cases o with
  | str t => exact absurd rfl e
  | non => rfl
  | bl b => rfl
  | int i => rfl
  | lst _ => rfl
  | tup _ => rfl
  | dK _ => rfl
def spName : Sp := fun vs H Q _ => ∃ (x : V) (ty : String), vs = [x] ∧ Od H x ty ∧ ∀ H', Same H H' → Q (.bl (nm x)) H'
section
variable {P : Program} {w : World} {K : PySem.W.Frag} {mg : PySem.Str → Option Value} {base : Heap}
theorem ok_is_name (T : Txt mg K) : FnOk P w K mg base CX0 1 T.f_is_name T.fd_is_name ["thing"] spName := by
  refine T.F_is_name.ok sc_is_name (fun vs H Q E h => ?_) (fun cdv A outer s H vs Q E hr h => ?_)
  · obtain ⟨_, _, rfl, _⟩ := h
    rfl
  · obtain ⟨x, ty, rfl, o, q⟩ := h
    refine ⟨_, pss_cons (ps_if (PW.pt (pw_or (pt_cmpR op_notTyB (pe_callTy call_type1 (by rfl) T.n_type (by decide +kernel) (pa_cons (pv 0) pa_nil)) (pe_bltn (v := .ty "str") (by rfl) T.n_str (by decide +kernel) rfl) (by first | rfl | exact nomark _)) (pw_or1 (pt_not (pt_chain op_le op_le (pe_int) (pe_callB call_len_str (by rfl) T.n_len (by decide +kernel) (pa_cons (pv 0) pa_nil)) (pe_glob (v := .int 8) (by rfl) T.c_MOST_LETTERS (by first | exact rfl | exact ⟨_, rfl⟩))))))) (pss_one (ps_ret (pe_bl))) (pss_nil))
 (pss_one (ps_ret (pe_and (pe_callB (cr_all rfl) (by rfl) T.n_all (by decide +kernel) (pa_cons (pe_lc (own := [("sign", 1)]) (g := gName 1) (tt := tYes) (by rfl) sc_is_name.nd (pi_str (pv 0)) (blkOk_by (own := [("sign", 1)]) (N := ["thing", "sign"]) (sc := defScope s_is_name) (by decide +kernel)) (fun _ _ _ _ _ => pg_name (i := 1) sc_is_name.nd rfl (Or.inl rfl)) (fun _ _ _ _ _ => pts_nil) (fun _ _ _ _ _ => pe_chain op_le_str op_le_str (pe_str) (pv 1) (pe_str))) pa_nil)) (pe_one (pe_cmpR op_notIn_seq (pv 0) (pe_glob (v := .ref T.a_NO_NAMES) (by rfl) T.c_NO_NAMES (by first | exact rfl | exact ⟨_, rfl⟩)) (by first | rfl | exact nomark _)))))), ?_⟩
    refine ⟨_, rfl, x, ty, rfl, o.ty, _, _, rfl, rfl, _, rfl, iteTy (fun ne => ?_) (fun is => ?_)⟩
    · have k := q H (Same.refl H)
      rw [nm_not o ne] at k
      exact k
    · obtain ⟨z, rfl, tz⟩ := o.is is
      have q' : ∀ H', Same H H' → Q (.bl ((decide ((1 : Int) ≤ (z.length : Nat)) && decide (((z.length : Nat) : Int) ≤ 8)) && z.cps.toList.all small && !inV (.str z) banW)) H' := q
      refine ⟨_, rfl, z, rfl, tz.line (by decide), _, _, rfl, rfl, _, rfl, ite2 (fun h1 => ?_) (fun h1 => ?_)⟩
      · rw [h1] at q'
        refine ⟨_, _, rfl, rfl, _, rfl, ?_⟩
        by_cases h8 : ((z.length : Nat) : Int) ≤ 8
        · rw [decide_eq_true h8] at q' ⊢
          -- all([..]) and thing not in NO_NAMES
          refine ⟨_, rfl, z, rfl, fun D fD => lc_truths (j := 1) tz small fD (fun c H1 Q1 h => ?_) (fun c => by rfl) fun H1 s1 e1 => ?_⟩
          · refine ⟨_, rfl, _, _, rfl, rfl, _, rfl, ?_⟩
            rw [le_sign (d := 97) (by decide +kernel)]
            refine ite2 (fun g => ?_) (fun g => ?_)
            · refine ⟨_, _, rfl, rfl, ?_⟩
              rw [ge_sign (d := 122) (by decide +kernel)]
              unfold small at h
              rw [g, Bool.true_and] at h
              exact h
            · unfold small at h
              rw [Bool.eq_false_iff.mpr g, Bool.false_and] at h
              exact h
          · refine ⟨D, _, rfl, .inl (.inl e1), _, rfl, ?_⟩
            have ea : (List.map small z.cps.toList).all id = z.cps.toList.all small := by rw [List.all_map]; rfl
            rw [ea]
            cases hb : z.cps.toList.all small with
            | false =>
              rw [hb] at q'
              exact q' H1 s1
            | true =>
              rw [hb] at q'
              exact ⟨_, rfl, T.a_NO_NAMES, banW, rfl, .inr (T.q_NO_NAMES H1), rfl, by decide +kernel, q' H1 s1⟩
        · rw [decide_eq_false h8] at q' ⊢
          exact q' H (Same.refl H)
      · have h1' : decide ((1 : Int) ≤ (z.length : Nat)) = false := by simpa using h1
        rw [h1'] at q'
        exact ⟨_, rfl, q' H (Same.refl H)⟩
theorem ok_law_is_name (T : Txt mg K) : FnOk P w K mg base CX0 1 T.f_law_is_name T.fd_law_is_name ["odd"] spName := by
  refine T.F_law_is_name.ok sc_law_is_name (fun vs H Q E h => ?_) (fun cdv A outer s H vs Q E hr h => ?_)
  · obtain ⟨_, _, rfl, _⟩ := h
    rfl
  · obtain ⟨x, ty, rfl, o, q⟩ := h
    refine ⟨_, pss_cons (ps_set (i := 1) sc_law_is_name.nd rfl (.inr rfl) (pe_str))
 (pss_cons (ps_set (i := 2) sc_law_is_name.nd rfl (.inl rfl) (pe_lst (pa_cons (pe_str) (pa_cons (pe_str) (pa_cons (pe_str) (pa_cons (pe_str) (pa_cons (pe_str) (pa_cons (pe_str) (pa_cons (pe_str) (pa_cons (pe_str) (pa_cons (pe_str) (pa_cons (pe_str) pa_nil))))))))))))
 (pss_cons (ps_if (PW.pt (pw_or (pt_not (pt_val (pe_callB call_isi (by rfl) T.n_isinstance (by decide +kernel) (pa_cons (pv 0) (pa_cons (pe_bltn (v := .ty "str") (by rfl) T.n_str (by decide +kernel) rfl) pa_nil))))) (pw_or (pt_not (pt_chain op_le op_le (pe_int) (pe_callB call_len_str (by rfl) T.n_len (by decide +kernel) (pa_cons (pv 0) pa_nil)) (pe_int))) (pw_or1 (pt_cmpR op_in_seq (pv 0) (pv 2) (by first | rfl | exact nomark _)))))) (pss_one (ps_ret (pe_bl))) (pss_nil))
 (pss_one (ps_ret (pe_cmpR (op_eqD hr.units) (pe_lc (own := [("sign", 3)]) (g := gName 3) (by rfl) sc_law_is_name.nd (pi_str (pv 0)) (blkOk_by (own := [("sign", 3)]) (N := ["odd", "small", "banned", "sign"]) (sc := defScope s_law_is_name) (by decide +kernel)) (fun _ _ _ _ _ => pg_name (i := 3) sc_law_is_name.nd rfl (Or.inl rfl)) (fun _ _ _ _ _ => pts_one (pt_cmpR op_notIn_sign (pv 3) (pv 1) (by first | rfl | exact nomark _))) (fun _ _ _ _ _ => pv 3)) (pe_lst (pa_nil)) (by first | rfl | exact nomark _)))))), ?_⟩
    refine ⟨by show 10 ≤ sizeLine; decide, fun e fe => ?_⟩
    have s0 : Same H (upd H e (.lst banW)) := same_new fe
    refine ⟨_, rfl, x, .ty "str", _, _, _, rfl, .ty "str", (o.mono s0).tx, o.kstr, _, rfl, ?_⟩
    show if (!decide (ty = "str")) = true then _ else _
    refine iteTy (fun ne => ?_) (fun is => ?_)
    · have k := q _ s0
      rw [nm_not o ne] at k
      exact k
    · obtain ⟨z, rfl, tz⟩ := o.is is
      have q' : ∀ H', Same H H' → Q (.bl ((decide ((1 : Int) ≤ (z.length : Nat)) && decide (((z.length : Nat) : Int) ≤ 8)) && z.cps.toList.all small && !inV (.str z) banW)) H' := q
      refine ⟨_, rfl, z, rfl, tz.line (by decide), _, _, rfl, rfl, _, rfl, ite2 (fun h1 => ?_) (fun h1 => ?_)⟩
      · rw [h1] at q'
        refine ⟨_, _, rfl, rfl, _, rfl, ?_⟩
        by_cases h8 : ((z.length : Nat) : Int) ≤ 8
        · rw [decide_eq_true h8] at q' ⊢
          refine ⟨_, rfl, _, rfl, e, banW, rfl, .inl (SqL.of upd_same), rfl, by decide +kernel, _, rfl, ?_⟩
          cases hb : inV (.str z) banW with
          | true =>
            rw [hb] at q'
            simp only [Bool.not_true, Bool.and_false] at q'
            exact q' _ s0
          | false =>
            rw [hb] at q'
            simp only [Bool.not_false, Bool.and_true, Bool.true_and] at q'
            refine ⟨_, rfl, z, rfl, fun D fD => lc_kept (j := 3) tz (fun c => !small c) fD (fun c H1 Q1 h => ?_) (fun c H1 Q1 h => ⟨_, rfl, h⟩) (fun c => by rfl) fun H1 s1 e1 => ?_⟩
            · refine ⟨_, rfl, _, rfl, c, _, rfl, rfl, _, rfl, ?_⟩
              have es : (!decide (c ∈ (PySem.Str.ofString "abcdefghijklmnopqrstuvwxyz").cps.toList)) = !small c := by
                have el : (PySem.Str.ofString "abcdefghijklmnopqrstuvwxyz").cps.toList = (List.range 26).map (· + 97) := by decide +kernel
                rw [el]
                unfold small
                by_cases g1 : 97 ≤ c
                · by_cases g2 : c ≤ 122
                  · rw [decide_eq_true g1, decide_eq_true g2, decide_eq_true (List.mem_map.mpr ⟨c - 97, List.mem_range.mpr (by omega), by omega⟩)]
                    rfl
                  · rw [decide_eq_true g1, decide_eq_false g2, decide_eq_false]
                    · rfl
                    · intro m
                      obtain ⟨j, hj, rfl⟩ := List.mem_map.mp m
                      have := List.mem_range.mp hj
                      omega
                · rw [decide_eq_false g1, decide_eq_false]
                  · rfl
                  · intro m
                    obtain ⟨j, hj, rfl⟩ := List.mem_map.mp m
                    omega
              rw [es]
              exact h
            · refine ⟨Nat.zero_le _, fun f ff => ?_⟩
              have e2 : (upd H1 f (.lst [])) D = some (.lst (((z.cps.toList.filter fun c => !small c).map fun c => (⟨#[c]⟩ : PySem.Str)).map V.str)) := by
                rw [upd_ne (ne_of_none e1 ff)]
                exact e1
              refine ⟨_, _, .lst (SqL.of e2) (dp_strs _), .lst (SqL.of upd_same) .nil, shaped_signs fun c hc => tz.2 c (List.mem_filter.mp hc).1, shaped_nil, ?_⟩
              rw [eqv_nil]
              have eb : (((z.cps.toList.filter fun c => !small c).map fun c => (⟨#[c]⟩ : PySem.Str)).map PyData.str).isEmpty = z.cps.toList.all small := by
                rw [List.isEmpty_map, List.isEmpty_map]
                cases ha : z.cps.toList.all small with
                | true =>
                  rw [List.isEmpty_iff, List.filter_eq_nil_iff]
                  intro c hc
                  rw [List.all_eq_true.mp ha c hc]
                  decide
                | false =>
                  rw [Bool.eq_false_iff, Ne, List.isEmpty_iff, List.filter_eq_nil_iff]
                  intro no
                  rw [Bool.eq_false_iff, Ne, List.all_eq_true] at ha
                  exact ha fun c hc => by simpa using no c hc
              rw [eb]
              exact q' _ ((s0.trans s1).trans (same_new ff))
        · rw [decide_eq_false h8] at q' ⊢
          exact q' _ s0
      · have h1' : decide ((1 : Int) ≤ (z.length : Nat)) = false := by simpa using h1
        rw [h1'] at q'
        exact ⟨_, rfl, q' _ s0⟩
end
end K

set_option maxRecDepth 100000
set_option maxHeartbeats 4000000
namespace K
open PySem PySem.Spec PyProof.Rows L2 Gd
local macro_rules | `(tactic| walk_at "mulok") => `(tactic| first | exact Or.inr ⟨by decide, by decide⟩ | exact Or.inl ⟨by decide, by decide⟩ | exact Or.inr ⟨by omega, by omega⟩ | exact Or.inl ⟨by omega, by omega⟩)
local macro_rules | `(tactic| walk_at "st") => `(tactic| first
  | refine ⟨_, rfl, ?_⟩
  | refine ⟨_, _, rfl, rfl, (by walk_at "mulok"), ?_⟩
  | refine ⟨_, _, rfl, rfl, (by show (0 : Int) < _; decide), ?_⟩
  | refine ⟨_, _, rfl, rfl, ⟨by decide, by decide⟩, ?_⟩
  | refine ⟨_, _, rfl, rfl, ?_⟩)
open PySem.NumText
def dig (c : Nat) : Bool := decide (48 ≤ c) && decide (c ≤ 57)
def lead (z : PySem.Str) : Bool := match z.cps.toList with
  | [] => false
  | c :: _ => decide (V.str ⟨#[c]⟩ = V.str "0") && !decide (V.str z = V.str "0")
def okN (z : PySem.Str) : Bool := (decide ((1 : Int) ≤ (z.length : Nat)) && decide (((z.length : Nat) : Int) ≤ 7)) && z.cps.toList.all dig && !lead z
def nu : V → Option Int
  | .str z => if okN z = true then some ((digitsVal z.cps.toList : Nat) : Int) else none
  | _ => none
def ovI : Option Int → V
  | none => .non
  | some n => .int n
theorem nu_not {H : Hp} {x : V} {ty : String} (o : Od H x ty) (e : ty ≠ "str") : nu x = none := by
  cases o with
  | str t => exact absurd rfl e
  | non => rfl
  | bl b => rfl
  | int i => rfl
  | lst _ => rfl
  | tup _ => rfl
  | dK _ => rfl
theorem nu_no {z : PySem.Str} (e : okN z = false) : ovI (nu (.str z)) = .non := by
  show ovI (if okN z = true then _ else _) = _
  rw [e]
  rfl
theorem nu_yes {z : PySem.Str} (e : okN z = true) : ovI (nu (.str z)) = .int ((digitsVal z.cps.toList : Nat) : Int) := by
  show ovI (if okN z = true then _ else _) = _
  rw [e]
  rfl
def spNum : Sp := fun vs H Q _ => ∃ (x : V) (ty : String), vs = [x] ∧ Od H x ty ∧ ∀ H', Same H H' → Q (ovI (nu x)) H'
theorem all_dig {z : PySem.Str} (h : z.cps.toList.all dig = true) : AllDigits z.cps.toList := fun c hc => by
  have := List.all_eq_true.mp h c hc
  unfold dig at this
  simp only [Bool.and_eq_true, decide_eq_true_eq] at this
  exact this
theorem dig_occ {c : Nat} (h : 48 ≤ c ∧ c ≤ 57) : ∃ rest, Builtin.Str.occurrences "0123456789" ⟨#[c]⟩ 0 ("0123456789" : PySem.Str).length 1 = (c - 48) :: rest := by
  have e : c = 48 ∨ c = 49 ∨ c = 50 ∨ c = 51 ∨ c = 52 ∨ c = 53 ∨ c = 54 ∨ c = 55 ∨ c = 56 ∨ c = 57 := by omega
  rcases e with rfl | rfl | rfl | rfl | rfl | rfl | rfl | rfl | rfl | rfl <;> exact ⟨[], by decide +kernel⟩
theorem val_more (l : List Nat) (c : Nat) : digitsVal (l ++ [c]) = digitsVal l * 10 + (c - 48) := by
  unfold digitsVal
  rw [List.foldl_append]
  rfl
section
variable {P : Program} {w : World} {K : PySem.W.Frag} {mg : PySem.Str → Option Value} {base : Heap}
theorem ok_number_of (T : Txt mg K) : FnOk P w K mg base CX0 1 T.f_number_of T.fd_number_of ["word"] spNum := by
  refine T.F_number_of.ok sc_number_of (fun vs H Q E h => ?_) (fun cdv A outer s H vs Q E hr h => ?_)
  · obtain ⟨_, _, rfl, _⟩ := h
    rfl
  · obtain ⟨x, ty, rfl, o, q⟩ := h
    refine ⟨_, pss_cons (ps_if (PW.pt (pw_or (pt_cmpR op_notTyB (pe_callTy call_type1 (by rfl) T.n_type (by decide +kernel) (pa_cons (pv 0) pa_nil)) (pe_bltn (v := .ty "str") (by rfl) T.n_str (by decide +kernel) rfl) (by first | rfl | exact nomark _)) (pw_or1 (pt_not (pt_chain op_le op_le (pe_int) (pe_callB call_len_str (by rfl) T.n_len (by decide +kernel) (pa_cons (pv 0) pa_nil)) (pe_glob (v := .int 7) (by rfl) T.c_MOST_FIGURES (by first | exact rfl | exact ⟨_, rfl⟩))))))) (pss_one (ps_ret (pe_non))) (pss_nil))
 (pss_cons (ps_if (pt_not (pt_val (pe_callB (cr_all rfl) (by rfl) T.n_all (by decide +kernel) (pa_cons (pe_lc (own := [("sign", 1)]) (g := gName 1) (tt := tYes) (by rfl) sc_number_of.nd (pi_str (pv 0)) (blkOk_by (own := [("sign", 1)]) (N := ["word", "sign"]) (sc := defScope s_number_of) (by decide +kernel)) (fun _ _ _ _ _ => pg_name (i := 1) sc_number_of.nd rfl (Or.inl rfl)) (fun _ _ _ _ _ => pts_nil) (fun _ _ _ _ _ => pe_chain op_le_str op_le_str (pe_str) (pv 1) (pe_str))) pa_nil)))) (pss_one (ps_ret (pe_non))) (pss_nil))
 (pss_cons (ps_if (PW.pt (pw_and (pt_cmpR op_eq (pe_ix ix_str (pv 0) (pe_int) (fun _ _ => rfl)) (pe_str) (by first | rfl | exact nomark _)) (pw_and1 (pt_cmpR op_ne (pv 0) (pe_str) (by first | rfl | exact nomark _))))) (pss_one (ps_ret (pe_non))) (pss_nil))
 (pss_one (ps_ret (pe_callTy call_int_str (by rfl) T.n_int (by decide +kernel) (pa_cons (pv 0) pa_nil)))))), ?_⟩
    refine ⟨_, rfl, x, ty, rfl, o.ty, _, _, rfl, rfl, _, rfl, iteTy (fun ne => ?_) (fun is => ?_)⟩
    · have k := q H (Same.refl H)
      rw [nu_not o ne] at k
      exact k
    · obtain ⟨z, rfl, tz⟩ := o.is is
      have no : okN z = false → ∀ H', Same H H' → Q .non H' := fun e H' s => by
        have k := q H' s
        rw [nu_no e] at k
        exact k
      have yes : okN z = true → ∀ H', Same H H' → Q (.int ((digitsVal z.cps.toList : Nat) : Int)) H' := fun e H' s => by
        have k := q H' s
        rw [nu_yes e] at k
        exact k
      unfold okN at no yes
      refine ⟨_, rfl, z, rfl, tz.line (by decide), _, _, rfl, rfl, _, rfl, ite2 (fun h1 => ?_) (fun h1 => ?_)⟩
      · rw [h1] at no yes
        refine ⟨_, _, rfl, rfl, _, rfl, ?_⟩
        by_cases h8 : ((z.length : Nat) : Int) ≤ 7
        · rw [decide_eq_true h8] at no yes ⊢
          refine ⟨_, rfl, z, rfl, fun D fD => lc_truths (j := 1) tz dig fD (fun c H1 Q1 h => ?_) (fun c => by rfl) fun H1 s1 e1 => ?_⟩
          · refine ⟨_, rfl, _, _, rfl, rfl, _, rfl, ?_⟩
            rw [le_sign (d := 48) (by decide +kernel)]
            refine ite2 (fun g => ?_) (fun g => ?_)
            · refine ⟨_, _, rfl, rfl, ?_⟩
              rw [ge_sign (d := 57) (by decide +kernel)]
              unfold dig at h
              rw [g, Bool.true_and] at h
              exact h
            · unfold dig at h
              rw [Bool.eq_false_iff.mpr g, Bool.false_and] at h
              exact h
          · refine ⟨D, _, rfl, .inl (.inl e1), _, rfl, ?_⟩
            have ea : (List.map dig z.cps.toList).all id = z.cps.toList.all dig := by rw [List.all_map]; rfl
            rw [ea]
            cases hb : z.cps.toList.all dig with
            | false =>
              rw [hb] at no
              exact no rfl H1 s1
            | true =>
              rw [hb] at no yes
              have ne : z.cps.toList ≠ [] := by
                intro e
                rw [len_tl, e] at h1
                simp at h1
              obtain ⟨c0, r, el⟩ : ∃ c r, z.cps.toList = c :: r := by
                cases hz : z.cps.toList with
                | nil => exact absurd hz ne
                | cons c r => exact ⟨c, r, rfl⟩
              have la : lead z = (decide (V.str ⟨#[c0]⟩ = V.str "0") && !decide (V.str z = V.str "0")) := by
                unfold lead
                rw [el]
              rw [la] at no yes
              refine ⟨_, rfl, z, _, c0, rfl, rfl, tz.line (by decide), (by rw [el]; exact atI_nat (j := 0) rfl), rfl, _, rfl, ite2 (fun g0 => ?_) (fun g0 => ?_)⟩
              · rw [g0] at no yes
                refine ⟨_, rfl, rfl, _, rfl, ?_⟩
                cases gz : decide (V.str z = V.str "0") with
                | false =>
                  rw [gz] at no
                  exact no rfl H1 s1
                | true =>
                  rw [gz] at yes
                  refine ⟨_, rfl, z, _, rfl, intText_digits (all_dig hb) ne (by rw [len_tl] at h8 ⊢; omega), by rw [len_tl] at h8 ⊢; omega, yes rfl H1 s1⟩
              · rw [Bool.eq_false_iff.mpr g0] at yes
                exact ⟨_, rfl, z, _, rfl, intText_digits (all_dig hb) ne (by rw [len_tl] at h8 ⊢; omega), by rw [len_tl] at h8 ⊢; omega, yes rfl H1 s1⟩
        · rw [decide_eq_false h8] at no ⊢
          exact no rfl H (Same.refl H)
      · have h1' : decide ((1 : Int) ≤ (z.length : Nat)) = false := by simpa using h1
        rw [h1'] at no
        exact ⟨_, rfl, no rfl H (Same.refl H)⟩
theorem ok_law_number (T : Txt mg K) : FnOk P w K mg base CX0 1 T.f_law_number T.fd_law_number ["text"] spNum := by
  refine T.F_law_number.ok sc_law_number (fun vs H Q E h => ?_) (fun cdv A outer s H vs Q E hr h => ?_)
  · obtain ⟨_, _, rfl, _⟩ := h
    rfl
  · obtain ⟨x, ty, rfl, o, q⟩ := h
    refine ⟨_, pss_cons (ps_if (PW.pt (pw_or (pt_not (pt_val (pe_callB call_isi (by rfl) T.n_isinstance (by decide +kernel) (pa_cons (pv 0) (pa_cons (pe_bltn (v := .ty "str") (by rfl) T.n_str (by decide +kernel) rfl) pa_nil))))) (pw_or1 (pt_not (pt_chain op_le op_le (pe_int) (pe_callB call_len_str (by rfl) T.n_len (by decide +kernel) (pa_cons (pv 0) pa_nil)) (pe_int)))))) (pss_one (ps_ret (pe_non))) (pss_nil))
 (pss_cons (ps_if (PW.pt (pw_or (pt_cmpR (op_neD hr.units) (pe_lc (own := [("sign", 2)]) (g := gName 2) (by rfl) sc_law_number.nd (pi_str (pv 0)) (blkOk_by (own := [("sign", 2)]) (N := ["text", "found", "sign"]) (sc := defScope s_law_number) (by decide +kernel)) (fun _ _ _ _ _ => pg_name (i := 2) sc_law_number.nd rfl (Or.inl rfl)) (fun _ _ _ _ _ => pts_one (pt_cmpR op_notIn_sign (pv 2) (pe_str) (by first | rfl | exact nomark _))) (fun _ _ _ _ _ => pv 2)) (pe_lst (pa_nil)) (by first | rfl | exact nomark _)) (pw_or1 (PW.pt (pw_and (pt_cmpR op_eq (pe_ix ix_str (pv 0) (pe_int) (fun _ _ => rfl)) (pe_str) (by first | rfl | exact nomark _)) (pw_and1 (pt_cmpR op_ne (pv 0) (pe_str) (by first | rfl | exact nomark _)))))))) (pss_one (ps_ret (pe_non))) (pss_nil))
 (pss_cons (ps_set (i := 1) sc_law_number.nd rfl (.inl rfl) (pe_int))
 (pss_cons (ps_for PassesOwn.never rfl (pi_str (pv 0)) (pg_name (i := 2) sc_law_number.nd rfl (.inl rfl)) (pss_one (ps_set (i := 1) sc_law_number.nd rfl (.inl rfl) (pe_op op_add (pe_op op_mul (pe_int) (pv 1)) (pe_bm PySem.F.plainAttrs_str PySem.F.slot_str_index PySem.F.type_str_index mt_sindex (pe_str) (pa_cons (pv 2) pa_nil))))))
 (pss_one (ps_ret (pv 1)))))), ?_⟩
    refine ⟨_, rfl, x, .ty "str", _, _, _, rfl, .ty "str", o.tx, o.kstr, _, rfl, ?_⟩
    show if (!decide (ty = "str")) = true then _ else _
    refine iteTy (fun ne => ?_) (fun is => ?_)
    · have k := q H (Same.refl H)
      rw [nu_not o ne] at k
      exact k
    · obtain ⟨z, rfl, tz⟩ := o.is is
      have no : okN z = false → ∀ H', Same H H' → Q .non H' := fun e H' s => by
        have k := q H' s
        rw [nu_no e] at k
        exact k
      have yes : okN z = true → ∀ H', Same H H' → Q (.int ((digitsVal z.cps.toList : Nat) : Int)) H' := fun e H' s => by
        have k := q H' s
        rw [nu_yes e] at k
        exact k
      unfold okN at no yes
      refine ⟨_, rfl, z, rfl, tz.line (by decide), _, _, rfl, rfl, _, rfl, ite2 (fun h1 => ?_) (fun h1 => ?_)⟩
      · rw [h1] at no yes
        refine ⟨_, _, rfl, rfl, _, rfl, ?_⟩
        by_cases h8 : ((z.length : Nat) : Int) ≤ 7
        · rw [decide_eq_true h8] at no yes ⊢
          refine ⟨_, rfl, z, rfl, fun D fD => lc_kept (j := 2) tz (fun c => !dig c) fD (fun c H1 Q1 h => ?_) (fun c H1 Q1 h => ⟨_, rfl, h⟩) (fun c => by rfl) fun H1 s1 e1 => ?_⟩
          · refine ⟨_, rfl, c, _, rfl, rfl, _, rfl, ?_⟩
            have es : (!decide (c ∈ (PySem.Str.ofString "0123456789").cps.toList)) = !dig c := by
              have el : (PySem.Str.ofString "0123456789").cps.toList = (List.range 10).map (· + 48) := by decide +kernel
              rw [el]
              unfold dig
              by_cases g1 : 48 ≤ c
              · by_cases g2 : c ≤ 57
                · rw [decide_eq_true g1, decide_eq_true g2, decide_eq_true (List.mem_map.mpr ⟨c - 48, List.mem_range.mpr (by omega), by omega⟩)]
                  rfl
                · rw [decide_eq_true g1, decide_eq_false g2, decide_eq_false]
                  · rfl
                  · intro m
                    obtain ⟨j, hj, rfl⟩ := List.mem_map.mp m
                    have := List.mem_range.mp hj
                    omega
              · rw [decide_eq_false g1, decide_eq_false]
                · rfl
                · intro m
                  obtain ⟨j, hj, rfl⟩ := List.mem_map.mp m
                  omega
            rw [es]
            exact h
          · refine ⟨Nat.zero_le _, fun f ff => ?_⟩
            have e2 : (upd H1 f (.lst [])) D = some (.lst (((z.cps.toList.filter fun c => !dig c).map fun c => (⟨#[c]⟩ : PySem.Str)).map V.str)) := by
              rw [upd_ne (ne_of_none e1 ff)]
              exact e1
            have s2 : Same H (upd H1 f (.lst [])) := s1.trans (same_new ff)
            refine ⟨_, _, .lst (SqL.of e2) (dp_strs _), .lst (SqL.of upd_same) .nil, shaped_signs fun c hc => tz.2 c (List.mem_filter.mp hc).1, shaped_nil, _, rfl, ?_⟩
            rw [eqv_nil]
            have eb : (((z.cps.toList.filter fun c => !dig c).map fun c => (⟨#[c]⟩ : PySem.Str)).map PyData.str).isEmpty = z.cps.toList.all dig := by
              rw [List.isEmpty_map, List.isEmpty_map]
              cases ha : z.cps.toList.all dig with
              | true =>
                rw [List.isEmpty_iff, List.filter_eq_nil_iff]
                intro c hc
                rw [List.all_eq_true.mp ha c hc]
                decide
              | false =>
                rw [Bool.eq_false_iff, Ne, List.isEmpty_iff, List.filter_eq_nil_iff]
                intro no
                rw [Bool.eq_false_iff, Ne, List.all_eq_true] at ha
                exact ha fun c hc => by simpa using no c hc
            rw [eb]
            have ne : z.cps.toList ≠ [] := by
              intro e
              rw [len_tl, e] at h1
              simp at h1
            obtain ⟨c0, r, el⟩ : ∃ c r, z.cps.toList = c :: r := by
              cases hz : z.cps.toList with
              | nil => exact absurd hz ne
              | cons c r => exact ⟨c, r, rfl⟩
            have la : lead z = (decide (V.str ⟨#[c0]⟩ = V.str "0") && !decide (V.str z = V.str "0")) := by
              unfold lead
              rw [el]
            cases hb : z.cps.toList.all dig with
            | false =>
              rw [hb] at no
              exact no rfl _ s2
            | true =>
              rw [hb, la] at no yes
              have loop : okN z = okN z → ∀ (H3 : Hp), Same H H3 → (∀ H', Same H H' → Q (.int ((digitsVal z.cps.toList : Nat) : Int)) H') → True := fun _ _ _ _ => trivial
              refine ⟨_, rfl, z, _, c0, rfl, rfl, tz.line (by decide), (by rw [el]; exact atI_nat (j := 0) rfl), rfl, _, rfl, ite2 (fun g0 => ?_) (fun g0 => ?_)⟩
              · rw [g0] at no yes
                refine ⟨_, rfl, rfl, _, rfl, ?_⟩
                cases gz : decide (V.str z = V.str "0") with
                | false =>
                  rw [gz] at no
                  exact no rfl _ s2
                | true =>
                  rw [gz] at yes
                  have yes' := yes rfl
                  refine ⟨_, rfl, z, rfl, for_str (x := z) (fun i σ H3 => ∃ v : Option V, σ = [some (.str z), some (.int ((digitsVal (z.cps.toList.take i) : Nat) : Int)), v] ∧ Same H H3) ⟨none, rfl, s2⟩ ?_ ?_⟩
                  · rintro i c σ H3 lt hc ⟨v, rfl, s3⟩
                    have dc : 48 ≤ c ∧ c ≤ 57 := all_dig hb c (List.mem_of_getElem? hc)
                    obtain ⟨rest, eo⟩ := dig_occ dc
                    refine ⟨_, rfl, _, _, rfl, rfl, (by walk_at "mulok"), ?_⟩
                    refine ⟨rfl, _, rfl, _, _, _, _, rfl, rfl, eo, _, _, rfl, rfl, some (.str ⟨#[c]⟩), ?_, s3⟩
                    rw [all_take hc, val_more]
                    have en : (10 * ((digitsVal (z.cps.toList.take i) : Nat) : Int) + ((c - 48 : Nat) : Int)) = ((digitsVal (z.cps.toList.take i) * 10 + (c - 48) : Nat) : Int) := by omega
                    show [some (V.str z), some (V.int (10 * ((digitsVal (z.cps.toList.take i) : Nat) : Int) + ((c - 48 : Nat) : Int))), some (V.str ⟨#[c]⟩)] = _
                    rw [en]
                  · rintro σ H3 ⟨v, rfl, s3⟩
                    rw [List.take_length]
                    exact ⟨_, rfl, yes' H3 s3⟩
              · rw [Bool.eq_false_iff.mpr g0] at yes
                have yes' := yes rfl
                skip
                refine ⟨_, rfl, z, rfl, for_str (x := z) (fun i σ H3 => ∃ v : Option V, σ = [some (.str z), some (.int ((digitsVal (z.cps.toList.take i) : Nat) : Int)), v] ∧ Same H H3) ⟨none, rfl, s2⟩ ?_ ?_⟩
                · rintro i c σ H3 lt hc ⟨v, rfl, s3⟩
                  have dc : 48 ≤ c ∧ c ≤ 57 := all_dig hb c (List.mem_of_getElem? hc)
                  obtain ⟨rest, eo⟩ := dig_occ dc
                  refine ⟨_, rfl, _, _, rfl, rfl, (by walk_at "mulok"), ?_⟩
                  refine ⟨rfl, _, rfl, _, _, _, _, rfl, rfl, eo, _, _, rfl, rfl, some (.str ⟨#[c]⟩), ?_, s3⟩
                  rw [all_take hc, val_more]
                  have en : (10 * ((digitsVal (z.cps.toList.take i) : Nat) : Int) + ((c - 48 : Nat) : Int)) = ((digitsVal (z.cps.toList.take i) * 10 + (c - 48) : Nat) : Int) := by omega
                  show [some (V.str z), some (V.int (10 * ((digitsVal (z.cps.toList.take i) : Nat) : Int) + ((c - 48 : Nat) : Int))), some (V.str ⟨#[c]⟩)] = _
                  rw [en]
                · rintro σ H3 ⟨v, rfl, s3⟩
                  rw [List.take_length]
                  exact ⟨_, rfl, yes' H3 s3⟩
        · rw [decide_eq_false h8] at no ⊢
          exact no rfl H (Same.refl H)
      · have h1' : decide ((1 : Int) ≤ (z.length : Nat)) = false := by simpa using h1
        rw [h1'] at no
        exact ⟨_, rfl, no rfl H (Same.refl H)⟩
end
end K

set_option maxRecDepth 100000
set_option maxHeartbeats 4000000
namespace K
open PySem PySem.Spec PyProof.Rows L2 Gd
local macro_rules | `(tactic| walk_at "mulok") => `(tactic| first | exact Or.inr ⟨by decide, by decide⟩ | exact Or.inl ⟨by decide, by decide⟩ | exact Or.inr ⟨by omega, by omega⟩ | exact Or.inl ⟨by omega, by omega⟩)
local macro_rules | `(tactic| walk_at "st") => `(tactic| first
  | refine ⟨_, rfl, ?_⟩
  | refine ⟨_, _, rfl, rfl, (by walk_at "mulok"), ?_⟩
  | refine ⟨_, _, rfl, rfl, (by show (0 : Int) < _; decide), ?_⟩
  | refine ⟨_, _, rfl, rfl, ⟨by decide, by decide⟩, ?_⟩
  | refine ⟨_, _, rfl, rfl, ?_⟩)
open TL
def wsOf (z : PySem.Str) : List PySem.Str := Txt.split z " "
def wd : V → Option (List PySem.Str)
  | .str z => if inV (.str "") ((wsOf z).map V.str) = true then none else some (wsOf z)
  | _ => none
theorem wd_not {H : Hp} {x : V} {ty : String} (o : Od H x ty) (e : ty ≠ "str") : wd x = none := by
  cases o with
  | str t => exact absurd rfl e
  | non => rfl
  | bl b => rfl
  | int i => rfl
  | lst _ => rfl
  | tup _ => rfl
  | dK _ => rfl
theorem wd_no {z : PySem.Str} (e : inV (.str "") ((wsOf z).map V.str) = true) : wd (.str z) = none := if_pos e
theorem wd_yes {z : PySem.Str} (e : inV (.str "") ((wsOf z).map V.str) = false) : wd (.str z) = some (wsOf z) := if_neg (by rw [e]; exact Bool.false_ne_true)
/-- what words_of and its like hand back -/
def Wo (H H' : Hp) (x w : V) : Prop := (wd x = none ∧ w = .non) ∨ ∃ (ws : List PySem.Str) (p : Addr), wd x = some ws ∧ w = .ref p ∧ H p = none ∧ H' p = some (.lst (ws.map V.str))
def spWords : Sp := fun vs H Q _ => ∃ (x : V) (ty : String), vs = [x] ∧ Od H x ty ∧ ∀ w H', Same H H' → Wo H H' x w → Q w H'
theorem flat_strs (l : List PySem.Str) : (l.map V.str).all flatV = true := by
  rw [List.all_map, List.all_eq_true]
  intro _ _
  rfl
theorem ws_spl (z : PySem.Str) : (wsOf z).map tl = spl [32] 0 [] (tl z) := by
  have e := split_spl z " " (by decide +kernel) (kind_ok (by decide +kernel))
  rw [show tl (" " : PySem.Str) = [32] by decide +kernel] at e
  exact e
theorem spl_sp {acc r : List Nat} : spl [32] 0 acc (32 :: r) = acc :: spl [32] 0 [] r := spl_hit (S := [32]) (by
  show ((32 :: r).take 1 == [32]) = true
  rw [List.take_succ_cons, List.take_zero]
  rfl)
theorem spl_no {acc r : List Nat} {c : Nat} (h : c ≠ 32) : spl [32] 0 acc (c :: r) = spl [32] 0 (acc ++ [c]) r := spl_miss (pre_of_head [] r h)
theorem sp_eq (c : Nat) : decide (V.str ⟨#[c]⟩ = V.str " ") = decide (c = 32) := by
  by_cases h : c = 32
  · subst h
    decide +kernel
  · rw [decide_eq_false h, decide_eq_false]
    intro e
    have e1 := V.str.inj e
    have e2 := congrArg (fun z : PySem.Str => z.cps.toList) e1
    have e3 : (PySem.Str.ofString " ").cps.toList = [32] := by decide +kernel
    have e4 : [c] = [32] := Eq.trans e2 e3
    exact h (List.cons.inj e4).1
section
variable {P : Program} {w : World} {K : PySem.W.Frag} {mg : PySem.Str → Option Value} {base : Heap}
theorem ok_words_of (T : Txt mg K) : FnOk P w K mg base CX0 1 T.f_words_of T.fd_words_of ["row"] spWords := by
  refine T.F_words_of.ok sc_words_of (fun vs H Q E h => ?_) (fun cdv A outer s H vs Q E hr h => ?_)
  · obtain ⟨_, _, rfl, _⟩ := h
    rfl
  · obtain ⟨x, ty, rfl, o, q⟩ := h
    have no : wd x = none → ∀ H', Same H H' → Q .non H' := fun e H' s => q _ H' s (.inl ⟨e, rfl⟩)
    have yes : ∀ ws, wd x = some ws → ∀ (p : Addr) (H' : Hp), Same H H' → H p = none → H' p = some (.lst (ws.map V.str)) → Q (.ref p) H' := fun ws e p H' s f ep => q _ H' s (.inr ⟨ws, p, e, rfl, f, ep⟩)
    refine ⟨_, pss_cons (ps_if (pt_cmpR op_notTyB (pe_callTy call_type1 (by rfl) T.n_type (by decide +kernel) (pa_cons (pv 0) pa_nil)) (pe_bltn (v := .ty "str") (by rfl) T.n_str (by decide +kernel) rfl) (by first | rfl | exact nomark _)) (pss_one (ps_ret (pe_non))) (pss_nil))
 (pss_cons (ps_set (i := 1) sc_words_of.nd rfl (.inl rfl) (pe_split (pv 0) (pe_str)))
 (pss_cons (ps_if (pt_cmpR op_in_seq (pe_str) (pv 1) (by first | rfl | exact nomark _)) (pss_one (ps_ret (pe_non))) (pss_nil))
 (pss_one (ps_ret (pv 1))))), ?_⟩
    refine ⟨_, rfl, x, ty, rfl, o.ty, _, _, rfl, rfl, _, rfl, iteTy (fun ne => ?_) (fun is => ?_)⟩
    · exact no (wd_not o ne) H (Same.refl H)
    · obtain ⟨z, rfl, tz⟩ := o.is is
      refine ⟨_, rfl, ⟨z, rfl⟩, z, " ", rfl, rfl, by decide +kernel, (by have := tz.1; rw [Gd.len_tl, sizeLine_eq]; omega), fun p fp => ?_⟩
      refine ⟨_, rfl, p, _, rfl, .inl (SqL.of upd_same), rfl, flat_strs _, _, rfl, ?_⟩
      show if inV (.str "") ((wsOf z).map V.str) = true then _ else _
      refine ite2 (fun g => ?_) (fun g => ?_)
      · exact no (wd_no g) _ (same_new fp)
      · exact ⟨_, rfl, yes _ (wd_yes (Bool.eq_false_iff.mpr g)) p _ (same_new fp) fp upd_same⟩
theorem ok_law_parted (T : Txt mg K) : FnOk P w K mg base CX0 1 T.f_law_parted T.fd_law_parted ["text"] spWords := by
  refine T.F_law_parted.ok sc_law_parted (fun vs H Q E h => ?_) (fun cdv A outer s H vs Q E hr h => ?_)
  · obtain ⟨_, _, rfl, _⟩ := h
    rfl
  · obtain ⟨x, ty, rfl, o, q⟩ := h
    have no : wd x = none → ∀ H', Same H H' → Q .non H' := fun e H' s => q _ H' s (.inl ⟨e, rfl⟩)
    have yes : ∀ ws, wd x = some ws → ∀ (p : Addr) (H' : Hp), Same H H' → H p = none → H' p = some (.lst (ws.map V.str)) → Q (.ref p) H' := fun ws e p H' s f ep => q _ H' s (.inr ⟨ws, p, e, rfl, f, ep⟩)
    refine ⟨_, pss_cons (ps_if (pt_not (pt_val (pe_callB call_isi (by rfl) T.n_isinstance (by decide +kernel) (pa_cons (pv 0) (pa_cons (pe_bltn (v := .ty "str") (by rfl) T.n_str (by decide +kernel) rfl) pa_nil))))) (pss_one (ps_ret (pe_non))) (pss_nil))
 (pss_cons (ps_par (i := 1) (j := 2) (by rfl) sc_law_parted.nd rfl rfl (by decide) rfl rfl (pa_cons (pe_lst (pa_nil)) (pa_cons (pe_str) pa_nil)) (by rfl))
 (pss_cons (ps_for PassesOwn.never rfl (pi_str (pe_op op_add_str (pv 0) (pe_str))) (pg_name (i := 3) sc_law_parted.nd rfl (.inl rfl)) (pss_cons (ps_if (pt_cmpR op_eq (pv 3) (pe_str) (by first | rfl | exact nomark _)) (pss_one (ps_expr (pe_bm PySem.F.plainAttrs_list PySem.F.slot_list_append PySem.F.type_list_append mt_append (pv 1) (pa_cons (pv 2) pa_nil)))) (pss_nil))
 (pss_one (ps_set (i := 2) sc_law_parted.nd rfl (.inl rfl) (pe_ifExp (pt_cmpR op_eq (pv 3) (pe_str) (by first | rfl | exact nomark _)) (pe_str) (pe_op op_add_str (pv 2) (pv 3)))))))
 (pss_one (ps_ret (pe_ifExp (pt_cmpR op_in_seq (pe_str) (pv 1) (by first | rfl | exact nomark _)) (pe_non) (pv 1)))))), ?_⟩
    refine ⟨_, rfl, x, .ty "str", _, _, _, rfl, .ty "str", o.tx, o.kstr, _, rfl, ?_⟩
    show if (!decide (ty = "str")) = true then _ else _
    refine iteTy (fun ne => ?_) (fun is => ?_)
    · exact no (wd_not o ne) H (Same.refl H)
    · obtain ⟨z, rfl, tz⟩ := o.is is
      refine ⟨Nat.zero_le _, fun p fp => ⟨_, _, rfl, ?_⟩⟩
      have tsp : Tx 1 " " := ⟨by decide +kernel, by decide +kernel⟩
      have el : (z ++ (" " : PySem.Str)).cps.toList = z.cps.toList ++ [32] := by
        rw [show (z ++ (" " : PySem.Str)).cps.toList = z.cps.toList ++ (PySem.Str.ofString " ").cps.toList from Array.toList_append, show (PySem.Str.ofString " ").cps.toList = [32] by decide +kernel]
      refine ⟨_, rfl, _, _, rfl, rfl, tz.line2 tsp (by decide), _, rfl, for_str (x := z ++ " ") (fun i σ H1 => ∃ (F : List PySem.Str) (bit : PySem.Str) (v : Option V), σ = [some (.str z), some (.ref p), some (.str bit), v] ∧ Same H H1 ∧ H1 p = some (.lst (F.map V.str)) ∧ F.length ≤ i ∧ Tx i bit ∧
          ((i ≤ z.cps.toList.length ∧ spl [32] 0 [] (tl z) = F.map tl ++ spl [32] 0 (tl bit) (z.cps.toList.drop i)) ∨ (i = z.cps.toList.length + 1 ∧ spl [32] 0 [] (tl z) = F.map tl)))
        ⟨[], "", none, rfl, same_new fp, upd_same, Nat.le_refl _, ⟨by decide +kernel, by decide +kernel⟩, .inl ⟨Nat.zero_le _, rfl⟩⟩ ?_ ?_⟩
      · rintro i c σ H1 lt hc ⟨F, bit, v, rfl, s1, e1, lF, tb, inv⟩
        rw [el, List.length_append] at lt
        have lt' : i < z.cps.toList.length + 1 := lt
        have z5 := tz.1
        rw [el] at hc
        obtain ⟨i1, es⟩ : i ≤ z.cps.toList.length ∧ spl [32] 0 [] (tl z) = F.map tl ++ spl [32] 0 (tl bit) (z.cps.toList.drop i) := by
          rcases inv with g | ⟨g, _⟩
          · exact g
          · omega
        refine ⟨_, rfl, rfl, _, rfl, ?_⟩
        rw [sp_eq]
        by_cases c32 : c = 32
        · subst c32
          rw [decide_eq_true rfl]
          refine ⟨_, rfl, .inl ⟨rfl, _, SqL.of e1⟩, _, rfl, p, _, _, rfl, rfl, e1, small1000' (by rw [List.length_map]; omega), ?_⟩
          refine ⟨_, rfl, rfl, _, rfl, ?_⟩
          rw [sp_eq, decide_eq_true rfl]
          refine ⟨F ++ [bit], "", _, rfl, same_put s1 fp, by rw [upd_same, List.map_append]; rfl, by rw [List.length_append]; show F.length + 1 ≤ i + 1; omega, ⟨Nat.zero_le _, fun c hc => by cases hc⟩, ?_⟩
          by_cases il : i < z.cps.toList.length
          · refine .inl ⟨il, ?_⟩
            have hd : z.cps.toList.drop i = 32 :: z.cps.toList.drop (i + 1) := by
              rw [List.getElem?_append_left il] at hc
              obtain ⟨h1, h2⟩ := List.getElem?_eq_some_iff.mp hc
              rw [List.drop_eq_getElem_cons il, h2]
            rw [es, hd, spl_sp, List.map_append, List.append_assoc]
            rfl
          · have ie : i = z.cps.toList.length := by omega
            refine .inr ⟨by omega, ?_⟩
            rw [es, ie, List.drop_length, spl_nil, List.map_append]
            rfl
        · rw [decide_eq_false c32]
          refine ⟨_, rfl, rfl, _, rfl, ?_⟩
          rw [sp_eq, decide_eq_false c32]
          have il : i < z.cps.toList.length := by
            rcases Nat.lt_or_ge i z.cps.toList.length with g | g
            · exact g
            · rw [List.getElem?_append_right g, show i - z.cps.toList.length = 0 by omega] at hc
              exact absurd (Option.some.inj hc).symm c32
          have hcz : z.cps.toList[i]? = some c := by
            rw [List.getElem?_append_left il] at hc
            exact hc
          have tc : Tx 1 ⟨#[c]⟩ := tz.one (List.mem_of_getElem? hcz)
          refine ⟨_, rfl, _, rfl, _, _, rfl, rfl, tb.line2 tc (by omega), ?_⟩
          refine ⟨F, bit ++ ⟨#[c]⟩, _, rfl, s1, e1, by omega, tb.add tc, .inl ⟨il, ?_⟩⟩
          have hd : z.cps.toList.drop i = c :: z.cps.toList.drop (i + 1) := by
            obtain ⟨h1, h2⟩ := List.getElem?_eq_some_iff.mp hcz
            rw [List.drop_eq_getElem_cons il, h2]
          rw [es, hd, spl_no c32]
          congr 2
          exact (Array.toList_append (xs := bit.cps) (ys := #[c])).symm
      · rintro σ H1 ⟨F, bit, v, rfl, s1, e1, lF, tb, inv⟩
        rw [el, List.length_append] at inv
        have inv' : spl [32] 0 [] (tl z) = F.map tl := by
          rcases inv with ⟨g, _⟩ | ⟨_, g⟩
          · have : z.cps.toList.length + 1 ≤ z.cps.toList.length := g
            omega
          · exact g
        have eF : F = wsOf z := map_tl_inj (by rw [← inv', ws_spl])
        subst eF
        refine ⟨_, rfl, p, _, rfl, .inl (SqL.of e1), rfl, flat_strs _, _, rfl, ?_⟩
        show if inV (.str "") ((wsOf z).map V.str) = true then _ else _
        refine ite2 (fun g => ?_) (fun g => ?_)
        · exact no (wd_no g) _ s1
        · exact ⟨_, rfl, yes _ (wd_yes (Bool.eq_false_iff.mpr g)) p _ s1 fp e1⟩
end
end K

set_option maxRecDepth 100000
set_option maxHeartbeats 4000000
namespace K
open PySem PySem.Spec PyProof.Rows L2 Gd
local macro_rules | `(tactic| walk_at "mulok") => `(tactic| first | exact Or.inr ⟨by decide, by decide⟩ | exact Or.inl ⟨by decide, by decide⟩ | exact Or.inr ⟨by omega, by omega⟩ | exact Or.inl ⟨by omega, by omega⟩)
local macro_rules | `(tactic| walk_at "st") => `(tactic| first
  | refine ⟨_, rfl, ?_⟩
  | refine ⟨_, _, rfl, rfl, (by walk_at "mulok"), ?_⟩
  | refine ⟨_, _, rfl, rfl, (by show (0 : Int) < _; decide), ?_⟩
  | refine ⟨_, _, rfl, rfl, ⟨by decide, by decide⟩, ?_⟩
  | refine ⟨_, _, rfl, rfl, ?_⟩)
def wh : V → Int → Int → Bool
  | .int i, lo, hi => decide (lo ≤ i) && decide (i ≤ hi)
  | _, _, _ => false
theorem wh_not {H : Hp} {x : V} {ty : String} (o : Od H x ty) (e : ty ≠ "int") (lo hi : Int) : wh x lo hi = false := by
  cases o with
  | int i => exact absurd rfl e
  | non => rfl
  | bl b => rfl
  | str t => rfl
  | lst _ => rfl
  | tup _ => rfl
  | dK _ => rfl
def spWhole : Sp := fun vs H Q _ => ∃ (x : V) (ty : String) (lo hi : Int), vs = [x, .int lo, .int hi] ∧ Od H x ty ∧ Q (.bl (wh x lo hi)) H
def g1 {α : Type} : List α → List α → List α
  | [], [a] => [a]
  | _, _ => []
def g3 {α : Type} : List α → List α → List α
  | [], [a, b, c] => [b, c, a]
  | _, _ => []
theorem g1_rel {vs : List V} {us : List Value} {zs : List V} {ws : List Value} (r : Vals vs us) (rz : Vals zs ws) : Vals (g1 vs zs) (g1 us ws) := by
  cases r with
  | cons _ _ => exact .nil
  | nil =>
    cases rz with
    | nil => exact .nil
    | cons a b =>
      cases b with
      | nil => exact .cons a .nil
      | cons _ _ => exact .nil
theorem g3_rel {vs : List V} {us : List Value} {zs : List V} {ws : List Value} (r : Vals vs us) (rz : Vals zs ws) : Vals (g3 vs zs) (g3 us ws) := by
  cases r with
  | cons _ _ => exact .nil
  | nil =>
    cases rz with
    | nil => exact .nil
    | cons a b =>
      cases b with
      | nil => exact .nil
      | cons c d =>
        cases d with
        | nil => exact .nil
        | cons e f =>
          cases f with
          | nil => exact .cons c (.cons e (.cons a .nil))
          | cons _ _ => exact .nil
theorem kb1 {x : PySem.Str} {st : Stmt} {f : Addr} {fd : FuncData} {p : PySem.Str} {K : PySem.W.Frag} (F : Fun K x x st f fd)
    (h : ∀ (kV doc pm : Value) (an : Option Addr) (cdv ct v : Value), bindArgs (PySem.W.fnOf x x (defArgs st) (defBody st) (defScope st) .none kV doc pm an cdv ct) ⟨[], [(p, v)]⟩ = pure [(p, v)]) : KBinds K fd [p] [p] g1 g1 := by
  obtain ⟨oc, od, kV, doc, pm, an, cdv, ct, osl, rfl, _, _⟩ := F.ex
  refine ⟨fun s us ws _ hl => ?_, fun r rz => g1_rel r rz⟩
  match us, ws, hl with
  | [], [a], _ => exact .of_eq (h _ _ _ _ _ _ a)
section
variable {P : Program} {w : World} {K : PySem.W.Frag} {mg : PySem.Str → Option Value} {base : Heap}
theorem kb_is_name_0_thing (T : Txt mg K) : KBinds K T.fd_is_name ["thing"] ["thing"] g1 g1 := kb1 T.F_is_name fun _ _ _ _ _ _ _ => rfl
theorem kb_number_of_0_word (T : Txt mg K) : KBinds K T.fd_number_of ["word"] ["word"] g1 g1 := kb1 T.F_number_of fun _ _ _ _ _ _ _ => rfl
theorem kb_words_of_0_row (T : Txt mg K) : KBinds K T.fd_words_of ["row"] ["row"] g1 g1 := kb1 T.F_words_of fun _ _ _ _ _ _ _ => rfl
theorem kb_is_whole_0_most_thing_least (T : Txt mg K) : KBinds K T.fd_is_whole ["thing", "least", "most"] ["most", "thing", "least"] g3 g3 := by
  obtain ⟨oc, od, dV, kV, doc, pm, an, cdv, ct, osl, efd, lk, hcd, hD, hK⟩ := T.F_is_whole.ex
  refine ⟨fun s us ws X hl => ?_, fun r rz => g3_rel r rz⟩
  rcases hD with ⟨e, _⟩ | ⟨_, D, o, its, m, rfl, lT, oT, rT⟩
  · cases e
  · match us, ws, hl with
    | [], [a, b, c], _ =>
      match its, rT with
      | [d], _ =>
        refine BindsTo.of_looks fun M => ?_
        rw [efd]
        obtain ⟨k, e1, e2⟩ : ∃ k, bindArgs (PySem.W.fnOf "is_whole" "is_whole" (defArgs s_is_whole) (defBody s_is_whole) (defScope s_is_whole) (.ref D) kV doc pm an cdv ct) ⟨[], (["most", "thing", "least"] : List PySem.Str).zip [a, b, c]⟩ = seqItems? (.ref D) >>= k ∧ k (some ([d] : List Value).toArray) = pure ((["thing", "least", "most"] : List PySem.Str).zip [b, c, a]) := ⟨_, rfl, rfl⟩
        show PySem.W.Looks M s.heap (bindArgs _ _) ((["thing", "least", "most"] : List PySem.Str).zip [b, c, a])
        rw [e1]
        exact looks_items X lT oT (.of_pure e2)
theorem b_is_whole (T : Txt mg K) : Binds K T.fd_is_whole ["thing", "least", "most"] [] := by
  obtain ⟨ds, rv, b⟩ := FunD.binds1 (ps := ["thing", "least", "most"]) T.F_is_whole 3 1 (by simp) rfl (fun D kV doc pm an cdv ct us its h1 h2 => by
    match us, h1, its, h2 with
    | [a, b, c], _, [d], _ => exact ⟨_, rfl, rfl⟩)
  cases rv
  exact b
theorem b_is_whole_2 (T : Txt mg K) : ∃ ds, Vals [V.int 1000000] ds ∧ Binds K T.fd_is_whole ["thing", "least", "most"] ds := by
  exact FunD.binds1 (ps := ["thing", "least", "most"]) T.F_is_whole 2 0 (by simp) rfl (fun D kV doc pm an cdv ct us its h1 h2 => by
    match us, h1, its, h2 with
    | [a, b], _, [d], _ => exact ⟨_, rfl, rfl⟩)
theorem ok_is_whole (T : Txt mg K) : FnOk P w K mg base CX0 1 T.f_is_whole T.fd_is_whole ["thing", "least", "most"] spWhole := by
  refine T.F_is_whole.ok sc_is_whole (fun vs H Q E h => ?_) (fun cdv A outer s H vs Q E hr h => ?_)
  · obtain ⟨_, _, _, _, rfl, _⟩ := h
    rfl
  · obtain ⟨x, ty, lo, hi, rfl, o, q⟩ := h
    refine ⟨_, pss_one (ps_ret (pe_and (pe_cmpR op_isTyB (pe_callTy call_type1 (by rfl) T.n_type (by decide +kernel) (pa_cons (pv 0) pa_nil)) (pe_bltn (v := .ty "int") (by rfl) T.n_int (by decide +kernel) rfl) (by first | rfl | exact nomark _)) (pe_one (pe_chain op_le op_le (pv 1) (pv 0) (pv 2))))), ?_⟩
    refine ⟨_, rfl, x, ty, rfl, o.ty, _, _, rfl, rfl, _, rfl, ?_⟩
    refine iteIs (fun ne => ?_) (fun is => ?_)
    · rw [wh_not o ne] at q
      exact q
    · obtain ⟨i, rfl⟩ := o.isI is
      have q' : Q (.bl (decide (lo ≤ i) && decide (i ≤ hi))) H := q
      refine ⟨_, rfl, _, rfl, _, _, rfl, rfl, _, rfl, ite2 (fun h1 => ?_) (fun h1 => ?_)⟩
      · rw [h1] at q'
        exact ⟨_, rfl, _, _, rfl, rfl, q'⟩
      · rw [Bool.eq_false_iff.mpr h1] at q'
        exact q'
theorem ok_law_whole (T : Txt mg K) : FnOk P w K mg base CX0 1 T.f_law_whole T.fd_law_whole ["odd", "low", "high"] spWhole := by
  refine T.F_law_whole.ok sc_law_whole (fun vs H Q E h => ?_) (fun cdv A outer s H vs Q E hr h => ?_)
  · obtain ⟨_, _, _, _, rfl, _⟩ := h
    rfl
  · obtain ⟨x, ty, lo, hi, rfl, o, q⟩ := h
    refine ⟨_, pss_one (ps_ret (pe_and (pe_callB call_isi (by rfl) T.n_isinstance (by decide +kernel) (pa_cons (pv 0) (pa_cons (pe_bltn (v := .ty "int") (by rfl) T.n_int (by decide +kernel) rfl) pa_nil))) (pe_and (pe_not (pe_callB call_isi (by rfl) T.n_isinstance (by decide +kernel) (pa_cons (pv 0) (pa_cons (pe_bltn (v := .ty "bool") (by rfl) T.n_bool (by decide +kernel) rfl) pa_nil)))) (pe_one (pe_chain op_le op_le (pv 1) (pv 0) (pv 2)))))), ?_⟩
    refine ⟨_, rfl, x, .ty "int", _, _, _, rfl, .ty "int", o.tx, o.kint, _, rfl, ?_⟩
    by_cases ei : ty = "int"
    · obtain ⟨i, rfl⟩ := o.isI ei
      have q' : Q (.bl (decide (lo ≤ i) && decide (i ≤ hi))) H := q
      rw [decide_eq_true (Or.inl ei : ty = "int" ∨ ty = "bool")]
      refine ⟨_, rfl, V.int i, .ty "bool", _, _, _, rfl, .ty "bool", o.tx, o.kbool, _, rfl, _, rfl, ?_⟩
      rw [decide_eq_false (show ¬ ty = "bool" by rw [ei]; decide)]
      refine ⟨_, rfl, _, rfl, _, _, rfl, rfl, _, rfl, ite2 (fun h1 => ?_) (fun h1 => ?_)⟩
      · rw [h1] at q'
        exact ⟨_, rfl, _, _, rfl, rfl, q'⟩
      · rw [Bool.eq_false_iff.mpr h1] at q'
        exact q'
    · rw [wh_not o ei] at q
      by_cases eb : ty = "bool"
      · rw [decide_eq_true (Or.inr eb : ty = "int" ∨ ty = "bool")]
        refine ⟨_, rfl, x, .ty "bool", _, _, _, rfl, .ty "bool", o.tx, o.kbool, _, rfl, _, rfl, ?_⟩
        rw [decide_eq_true eb]
        exact q
      · rw [decide_eq_false (fun z : ty = "int" ∨ ty = "bool" => z.elim ei eb)]
        exact q
end
end K

set_option maxRecDepth 100000
set_option maxHeartbeats 4000000
namespace K
open PySem PySem.Spec PyProof.Rows L2 Gd
local macro_rules | `(tactic| walk_at "mulok") => `(tactic| first | exact Or.inr ⟨by decide, by decide⟩ | exact Or.inl ⟨by decide, by decide⟩ | exact Or.inr ⟨by omega, by omega⟩ | exact Or.inl ⟨by omega, by omega⟩)
local macro_rules | `(tactic| walk_at "st") => `(tactic| first
  | refine ⟨_, rfl, ?_⟩
  | refine ⟨_, _, rfl, rfl, (by walk_at "mulok"), ?_⟩
  | refine ⟨_, _, rfl, rfl, (by show (0 : Int) < _; decide), ?_⟩
  | refine ⟨_, _, rfl, rfl, ⟨by decide, by decide⟩, ?_⟩
  | refine ⟨_, _, rfl, rfl, ?_⟩)
open TL PySem.NumText
/-! ### what is shown of a thing -/
theorem spl_sum : ∀ (L acc : List Nat), ((spl [32] 0 acc L).map fun p => p.length + 1).sum ≤ acc.length + L.length + 1
  | [], acc => by rw [spl_nil]; simp
  | c :: r, acc => by
    by_cases h : c = 32
    · subst h
      rw [spl_sp, List.map_cons, List.sum_cons]
      have := spl_sum r []
      simp only [List.length_nil, List.length_cons] at this ⊢
      omega
    · rw [spl_no h]
      have := spl_sum r (acc ++ [c])
      simp only [List.length_append, List.length_cons, List.length_nil] at this ⊢
      omega
theorem spl_mem : ∀ (L acc : List Nat), ∀ p ∈ spl [32] 0 acc L, ∀ c ∈ p, c ∈ acc ∨ c ∈ L
  | [], acc, p, hp, c, hc => by
    rw [spl_nil, List.mem_singleton] at hp
    subst hp
    exact .inl hc
  | d :: r, acc, p, hp, c, hc => by
    by_cases h : d = 32
    · subst h
      rw [spl_sp, List.mem_cons] at hp
      rcases hp with rfl | hp
      · exact .inl hc
      · rcases spl_mem r [] p hp c hc with g | g
        · cases g
        · exact .inr (List.mem_cons_of_mem _ g)
    · rw [spl_no h] at hp
      rcases spl_mem r (acc ++ [d]) p hp c hc with g | g
      · rcases List.mem_append.mp g with g | g
        · exact .inl g
        · rw [List.mem_singleton.mp g]
          exact .inr List.mem_cons_self
      · exact .inr (List.mem_cons_of_mem _ g)
def dI : Option Int → PyData
  | none => .none
  | some n => .int n
def dW : Option (List PySem.Str) → PyData
  | none => .none
  | some ws => .list (ws.map PyData.str)
theorem digits_lt : ∀ (l : List Nat), AllDigits l → digitsVal l < 10 ^ l.length := by
  have step : ∀ (l : List Nat) (acc n : Nat), AllDigits l → acc < 10 ^ n → l.foldl (fun acc c => acc * 10 + (c - 48)) acc < 10 ^ (n + l.length) := by
    intro l
    induction l with
    | nil => intro acc n _ h; exact h
    | cons c r ih =>
      intro acc n ha h
      have hc := ha.head
      have := ih (acc * 10 + (c - 48)) (n + 1) ha.tail (by
        rw [Nat.pow_succ]
        omega)
      rw [List.foldl_cons, List.length_cons, show n + (r.length + 1) = n + 1 + r.length by omega]
      exact this
  intro l h
  have := step l 0 0 h (by decide)
  rw [Nat.zero_add] at this
  exact this
theorem str_leaves (B : Nat) : ∀ ws : List PySem.Str, (∀ y ∈ ws, ∀ c ∈ y.cps.toList, c < 1114112) → PyData.leavesShortAll B (ws.map PyData.str) = true
  | [], _ => by simp [PyData.leavesShortAll]
  | y :: r, h => by
    have h1 := h y List.mem_cons_self
    have h2 := str_leaves B r fun z hz => h z (List.mem_cons_of_mem _ hz)
    have e : (16 : Nat) ^ 8 = 4294967296 := by decide
    simp only [List.map_cons, PyData.leavesShortAll, PyData.leavesShort, h2, Bool.and_true, List.all_eq_true, decide_eq_true_eq]
    intro c hc
    have := h1 c hc
    omega
theorem str_bulk : ∀ ws : List PySem.Str, PyData.bulkAll (ws.map PyData.str) = ((ws.map tl).map fun p => p.length + 1).sum
  | [] => by simp [PyData.bulkAll]
  | y :: r => by
    have := str_bulk r
    simp only [List.map_cons, PyData.bulkAll, PyData.bulk, List.sum_cons, this]
    simp
theorem strs_plain : ∀ ws : List PySem.Str, PyData.showableAll (ws.map PyData.str) = true ∧ PyData.hasDictAll (ws.map PyData.str) = false ∧ PyData.depthAll (ws.map PyData.str) = 0
  | [] => by simp [PyData.showableAll, PyData.hasDictAll, PyData.depthAll]
  | y :: r => by
    obtain ⟨a, b, c⟩ := strs_plain r
    simp [PyData.showableAll, PyData.hasDictAll, PyData.depthAll, PyData.showable, PyData.hasDict, PyData.depth, a, b, c]
theorem shw_of {d : PyData} (h1 : d.showable = true) (h2 : d.hasDict = false) (h3 : d.depth ≤ 60) (h4 : d.leavesShort 30 = true) (h5 : d.bulk ≤ 100000) : Shw d := by
  refine ⟨h1, h2, h3, ?_⟩
  have := PyData.shown_le_bulk 30 (by decide) d h4
  rw [sizeLine_eq]
  omega
/-- facts of the words and the number of a thing -/
theorem wd_plain {H : Hp} {x : V} {ty : String} (o : Od H x ty) : (dW (wd x)).showable = true ∧ (dW (wd x)).hasDict = false ∧ (dW (wd x)).depth ≤ 1 ∧ (dW (wd x)).leavesShort 30 = true ∧ (dW (wd x)).bulk ≤ 5001 := by
  have no : wd x = none → (dW (wd x)).showable = true ∧ (dW (wd x)).hasDict = false ∧ (dW (wd x)).depth ≤ 1 ∧ (dW (wd x)).leavesShort 30 = true ∧ (dW (wd x)).bulk ≤ 5001 := by
    intro e
    rw [e]
    simp [dW, PyData.showable, PyData.hasDict, PyData.depth, PyData.leavesShort, PyData.bulk]
  by_cases e : ty = "str"
  · obtain ⟨z, rfl, tz⟩ := o.is e
    cases g : inV (.str "") ((wsOf z).map V.str) with
    | true => exact no (wd_no g)
    | false =>
      rw [wd_yes g]
      obtain ⟨a, b, c⟩ := strs_plain (wsOf z)
      have l := str_leaves 30 (wsOf z) (by
        intro y hy c hc
        have my : tl y ∈ spl [32] 0 [] (tl z) := by
          rw [← ws_spl]
          exact List.mem_map_of_mem hy
        rcases spl_mem _ _ _ my c hc with g | g
        · cases g
        · exact tz.2 c g)
      have k := str_bulk (wsOf z)
      rw [ws_spl] at k
      have s := spl_sum (tl z) []
      have t : (tl z).length ≤ 5000 := tz.1
      refine ⟨by simp [dW, PyData.showable, a], by simp [dW, PyData.hasDict, b], by simp [dW, PyData.depth, c], by simp [dW, PyData.leavesShort, l], ?_⟩
      simp only [dW, PyData.bulk, k]
      simp only [List.length_nil] at s
      omega
  · exact no (wd_not o e)
theorem nu_plain {H : Hp} {x : V} {ty : String} (o : Od H x ty) : (dI (nu x)).showable = true ∧ (dI (nu x)).hasDict = false ∧ (dI (nu x)).depth = 0 ∧ (dI (nu x)).leavesShort 30 = true ∧ (dI (nu x)).bulk = 0 := by
  have no : nu x = none → (dI (nu x)).showable = true ∧ (dI (nu x)).hasDict = false ∧ (dI (nu x)).depth = 0 ∧ (dI (nu x)).leavesShort 30 = true ∧ (dI (nu x)).bulk = 0 := by
    intro e
    rw [e]
    simp [dI, PyData.showable, PyData.hasDict, PyData.depth, PyData.leavesShort, PyData.bulk]
  by_cases e : ty = "str"
  · obtain ⟨z, rfl, tz⟩ := o.is e
    cases g : okN z with
    | false => exact no (if_neg (by rw [g]; exact Bool.false_ne_true))
    | true =>
      have en : nu (.str z) = some ((digitsVal z.cps.toList : Nat) : Int) := if_pos g
      rw [en]
      unfold okN at g
      simp only [Bool.and_eq_true, decide_eq_true_eq] at g
      obtain ⟨⟨⟨g1, g2⟩, g3⟩, _⟩ := g
      have lt := digits_lt _ (all_dig g3)
      have l7 : z.cps.toList.length ≤ 7 := by
        rw [Gd.len_tl] at g2
        omega
      have le : 10 ^ z.cps.toList.length ≤ 10 ^ 7 := Nat.pow_le_pow_right (by decide) l7
      have lt7 : digitsVal z.cps.toList < 10 ^ 7 := Nat.lt_of_lt_of_le lt le
      have lg : (digitsVal z.cps.toList).log2 < 24 := by
        by_cases z0 : digitsVal z.cps.toList = 0
        · rw [z0]
          decide
        · rw [Nat.log2_lt z0]
          have : (10 : Nat) ^ 7 < 2 ^ 24 := by decide
          omega
      refine ⟨?_, by simp [dI, PyData.hasDict], by simp [dI, PyData.depth], ?_, by simp [dI, PyData.bulk]⟩
      · simp only [dI, PyData.showable, Int.natAbs_natCast, decide_eq_true_eq]
        omega
      · have z7 := toString_length_le (v := ((digitsVal z.cps.toList : Nat) : Int)) (by omega) (k := 7) (by decide) (by exact_mod_cast lt7)
        have e : (dI (some ((digitsVal z.cps.toList : Nat) : Int))).leavesShort 30 = decide ((PyData.shown (.int ((digitsVal z.cps.toList : Nat) : Int))).length ≤ 30) := by simp only [dI, PyData.leavesShort]
        rw [e]
        refine decide_eq_true (Nat.le_trans (Nat.le_of_eq ?_) (Nat.le_trans z7 (show 7 ≤ 30 by decide)))
        simp only [PyData.shown]
  · exact no (nu_not o e)
def dR (x : V) : PyData := .list [.bool (nm x), dI (nu x), dW (wd x)]
theorem shw_R {H : Hp} {x : V} {ty : String} (o : Od H x ty) : Shw (dR x) := by
  obtain ⟨a1, a2, a3, a4, a5⟩ := wd_plain o
  obtain ⟨b1, b2, b3, b4, b5⟩ := nu_plain o
  refine shw_of ?_ ?_ ?_ ?_ ?_
  · simp [dR, PyData.showable, PyData.showableAll, a1, b1]
  · simp [dR, PyData.hasDict, PyData.hasDictAll, a2, b2]
  · simp only [dR, PyData.depth, PyData.depthAll, b3]
    omega
  · simp [dR, PyData.leavesShort, PyData.leavesShortAll, a4, b4]
  · simp only [dR, PyData.bulk, PyData.bulkAll, b5]
    omega
theorem shw_W {H : Hp} {x : V} {ty : String} (o : Od H x ty) : Shw (dW (wd x)) := by
  obtain ⟨a1, a2, a3, a4, a5⟩ := wd_plain o
  exact shw_of a1 a2 (by omega) a4 (by omega)
theorem dp_I {K : PySem.W.Frag} {H : Hp} (o : Option Int) : Dp K H (ovI o) (dI o) := by
  cases o with
  | none => exact .non
  | some n => exact .int n
theorem dp_W {K : PySem.W.Frag} {H : Hp} {x w : V} (h : (wd x = none ∧ w = .non) ∨ ∃ (ws : List PySem.Str) (p : Addr), wd x = some ws ∧ w = .ref p ∧ H p = some (.lst (ws.map V.str))) : Dp K H w (dW (wd x)) := by
  rcases h with ⟨e, rfl⟩ | ⟨ws, p, e, rfl, ep⟩
  · rw [e]
    exact .non
  · rw [e]
    exact .lst (SqL.of ep) (dp_strs ws)
theorem dp_R {K : PySem.W.Frag} {H : Hp} {x w : V} {a : Addr} (h : H a = some (.lst [.bl (nm x), ovI (nu x), w])) (d : Dp K H w (dW (wd x))) : Dp K H (.ref a) (dR x) :=
  .lst (SqL.of h) (.cons (.bl _) (.cons (dp_I _) (.cons d .nil)))
def spFar : Sp := fun vs H Q _ => vs = [] ∧ ∀ (p : Addr) (xs : List V) (H' : Hp), Same H H' → H p = none → H' p = some (.lst xs) → xs.length ≤ 20 → (∀ x ∈ xs, ∃ ty, Od H' x ty) → Q (.ref p) H'
def spRight : Sp := fun vs H Q _ => ∃ (x : V) (ty : String), vs = [x] ∧ Od H x ty ∧ ∀ H', Same H H' → Q (.bl true) H'
section
variable {P : Program} {w : World} {K : PySem.W.Frag} {mg : PySem.Str → Option Value} {base : Heap}
theorem ok_law_far (T : Txt mg K) : FnOk P w K mg base CX0 1 T.f_law_far T.fd_law_far [] spFar := by
  refine T.F_law_far.ok sc_law_far (fun vs H Q E h => ?_) (fun cdv A outer s H vs Q E hr h => ?_)
  · obtain ⟨rfl, _⟩ := h
    rfl
  · obtain ⟨rfl, q⟩ := h
    refine ⟨_, pss_cons (ps_asg (pe_tup (pa_cons (pe_int) (pa_cons (pe_tup (pa_cons (pe_int) (pa_cons (pe_int) pa_nil))) pa_nil))) (pg_tup (by rfl) (pgs_cons (pg_name (i := 0) sc_law_far.nd rfl (.inl rfl)) (pgs_cons (pg_name (i := 1) sc_law_far.nd rfl (.inl rfl)) (pgs_nil)))))
 (pss_cons (ps_for PassesOwn.never rfl (pi_range1 (by rfl) T.n_range (pa_cons (pe_int) pa_nil)) (pg_name (i := 2) sc_law_far.nd rfl (.inl rfl)) (pss_one (ps_set (i := 0) sc_law_far.nd rfl (.inl rfl) (pe_tup (pa_cons (pv 0) pa_nil)))))
 (pss_cons (ps_for PassesOwn.never rfl (pi_range1 (by rfl) T.n_range (pa_cons (pe_int) pa_nil)) (pg_name (i := 2) sc_law_far.nd rfl (.inl rfl)) (pss_one (ps_set (i := 1) sc_law_far.nd rfl (.inl rfl) (pe_tup (pa_cons (pv 1) (pa_cons (pv 1) pa_nil))))))
 (pss_one (ps_ret (pe_lst (pa_cons (pv 0) (pa_cons (pv 1) (pa_cons (pe_op op_repTW (pe_tup (pa_cons (pe_int) pa_nil)) (pe_int)) (pa_cons (pe_op op_rep_str (pe_str) (pe_int)) (pa_cons (pe_lst (pa_cons (pe_str) pa_nil)) (pa_cons (pe_dnewK) (pa_cons (pe_non) (pa_cons (pe_bl) (pa_cons (pe_int) (pa_cons (pe_op op_pow (pe_int) (pe_int)) pa_nil))))))))))))))), ?_⟩
    refine ⟨by show 2 ≤ sizeLine; decide, fun t0 ft0 => ⟨by show 2 ≤ sizeLine; decide, fun t ft => ?_⟩⟩
    refine ⟨t, _, rfl, .inl (.inl upd_same), rfl, _, _, rfl, _, _, rfl, rfl, ?_⟩
    have st0 : Same H (upd (upd H t0 (.tup [V.int 1, V.int 1])) t (.tup [V.int 1, V.ref t0])) := (same_new ft0).trans (same_new ft)
    refine ⟨3000, rfl, by decide, by decide, for_range (lo := 0) (n := 3000) (fun i σ H1 => ∃ (a b : V) (ta tb : String) (v : Option V), σ = [some a, some b, v] ∧ Same H H1 ∧ Od H1 a ta ∧ Od H1 b tb) ⟨_, _, _, _, none, rfl, st0, .int 1, (Od.tup upd_same).mono (same_new ft)⟩ ?_ ?_⟩
    · rintro i σ H1 lt ⟨a, b, ta, tb, v, rfl, s1, oa, ob⟩
      refine ⟨_, rfl, by show 1 ≤ sizeLine; decide, fun e fe => ?_⟩
      exact ⟨_, b, _, _, _, rfl, s1.trans (same_new fe), .tup upd_same, ob.mono (same_new fe)⟩
    · rintro σ H1 ⟨a, b, ta, tb, v, rfl, s1, oa, ob⟩
      refine ⟨60, rfl, by decide, by decide, for_range (lo := 0) (n := 60) (fun i σ H1 => ∃ (a b : V) (ta tb : String) (v : Option V), σ = [some a, some b, v] ∧ Same H H1 ∧ Od H1 a ta ∧ Od H1 b tb) ⟨_, _, _, _, _, rfl, s1, oa, ob⟩ ?_ ?_⟩
      · rintro i σ H1 lt ⟨a, b, ta, tb, v, rfl, s1, oa, ob⟩
        refine ⟨_, rfl, _, rfl, by show 2 ≤ sizeLine; decide, fun e fe => ?_⟩
        exact ⟨a, _, _, _, _, rfl, s1.trans (same_new fe), oa.mono (same_new fe), .tup upd_same⟩
      · rintro σ H2 ⟨a, b, ta, tb, v, rfl, s2, oa, ob⟩
        refine ⟨_, rfl, _, rfl, by show 1 ≤ sizeLine; decide, fun t1 f1 => ?_⟩
        have c1 := same_new (o := .tup [V.int 1]) f1
        refine ⟨t1, 5000, _, rfl, rfl, upd_same, by simp, by decide, by decide, fun t2 f2 => ?_⟩
        have c2 := same_new (o := .tup (List.replicate (5000 : Int).toNat [V.int 1]).flatten) f2
        have ta5 : Tx 1 "a" := ⟨by decide +kernel, by decide +kernel⟩
        refine ⟨_, _, rfl, rfl, PyProof.Rows.mulOk_of 1 5000 (by rw [Gd.len_tl]; exact ta5.1) (by decide) (by decide) (by decide) (by decide), ?_⟩
        refine ⟨by show 1 ≤ sizeLine; decide, fun l1 g1 => ?_⟩
        have c3 := same_new (o := .lst [V.str "a"]) g1
        intro d1 g2
        have c4 := same_new (o := .dK []) g2
        refine ⟨_, _, rfl, rfl, ⟨by decide, by decide, by decide⟩, by show 10 ≤ sizeLine; decide, fun p fp => ?_⟩
        have c5 := same_new (o := .lst [a, b, V.ref t2, V.str (Txt.mul "a" 5000), V.ref l1, V.ref d1, V.non, V.bl true, V.int 5, V.int (10 ^ (30 : Int).toNat)]) fp
        have all := (((c1.trans c2).trans c3).trans c4).trans c5
        refine q p _ _ (s2.trans all) ?_ upd_same (show 10 ≤ 20 by decide) ?_
        · exact s2.free ((((c1.trans c2).trans c3).trans c4).free fp)
        · intro x hx
          simp only [List.mem_cons, List.not_mem_nil, or_false] at hx
          rcases hx with rfl | rfl | rfl | rfl | rfl | rfl | rfl | rfl | rfl | rfl
          · exact ⟨_, oa.mono all⟩
          · exact ⟨_, ob.mono all⟩
          · exact ⟨_, (Od.tup upd_same).mono ((c3.trans c4).trans c5)⟩
          · exact ⟨_, .str (ta5.rep.mono (by decide))⟩
          · exact ⟨_, (Od.lst upd_same).mono (c4.trans c5)⟩
          · exact ⟨_, (Od.dK upd_same).mono c5⟩
          · exact ⟨_, .non⟩
          · exact ⟨_, .bl _⟩
          · exact ⟨_, .int _⟩
          · exact ⟨_, .int _⟩
end
end K

set_option maxRecDepth 100000
set_option maxHeartbeats 4000000
namespace K
open PySem PySem.Spec PyProof.Rows L2 Gd
local macro_rules | `(tactic| walk_at "mulok") => `(tactic| first | exact Or.inr ⟨by decide, by decide⟩ | exact Or.inl ⟨by decide, by decide⟩ | exact Or.inr ⟨by omega, by omega⟩ | exact Or.inl ⟨by omega, by omega⟩)
local macro_rules | `(tactic| walk_at "st") => `(tactic| first
  | refine ⟨_, rfl, ?_⟩
  | refine ⟨_, _, rfl, rfl, (by walk_at "mulok"), ?_⟩
  | refine ⟨_, _, rfl, rfl, (by show (0 : Int) < _; decide), ?_⟩
  | refine ⟨_, _, rfl, rfl, ⟨by decide, by decide⟩, ?_⟩
  | refine ⟨_, _, rfl, rfl, ?_⟩)
open TL PySem.NumText
theorem bulk_len : ∀ l : List PyData, l.length ≤ PyData.bulkAll l
  | [] => Nat.zero_le _
  | d :: r => by
    have := bulk_len r
    simp only [PyData.bulkAll, List.length_cons]
    omega
theorem ws_len {H : Hp} {x : V} {ty : String} (o : Od H x ty) {ws : List PySem.Str} (e : wd x = some ws) : ws.length ≤ 5001 := by
  have b := (wd_plain o).2.2.2.2
  rw [e] at b
  simp only [dW, PyData.bulk] at b
  have := bulk_len (ws.map PyData.str)
  rw [List.length_map] at this
  omega
theorem wo_at {H H' H'' : Hp} {x w : V} (W : Wo H H' x w) (s : Same H' H'') : (wd x = none ∧ w = .non) ∨ ∃ (ws : List PySem.Str) (p : Addr), wd x = some ws ∧ w = .ref p ∧ H'' p = some (.lst (ws.map V.str)) := by
  rcases W with h | ⟨ws, p, e, r, _, ep⟩
  · exact .inl h
  · exact .inr ⟨ws, p, e, r, s _ _ ep⟩
section
variable {P : Program} {w : World} {K : PySem.W.Frag} {mg : PySem.Str → Option Value} {base : Heap}
theorem ok_law_right (T : Txt mg K) : FnG P w K mg base 2 T.f_law_right T.fd_law_right ["odd"] spRight := by
  refine fn_okG T.F_law_right sc_law_right (fun vs H Q E h => ?_) (fun cdv A out s H vs Q E hA hr h => ?_)
  · obtain ⟨_, _, rfl, _⟩ := h
    rfl
  · obtain ⟨x, ty, rfl, o, q⟩ := h
    refine ⟨_, pss_cons (ps_par (i := 1) (j := 2) (by rfl) sc_law_right.nd rfl rfl (by decide) rfl rfl (pa_cons (pe_lst (pa_cons (pe_call (ok_law_is_name T) (hr.mono (by decide)) (by rfl) T.g_law_is_name T.F_law_is_name.kp (b_law_is_name T) .nil pass0 (pa_cons (pv 0) pa_nil)) (pa_cons (pe_call (ok_law_number T) (hr.mono (by decide)) (by rfl) T.g_law_number T.F_law_number.kp (b_law_number T) .nil pass0 (pa_cons (pv 0) pa_nil)) (pa_cons (pe_call (ok_law_parted T) (hr.mono (by decide)) (by rfl) T.g_law_parted T.F_law_parted.kp (b_law_parted T) .nil pass0 (pa_cons (pv 0) pa_nil)) pa_nil)))) (pa_cons (pe_call (ok_words_of T) (hr.mono (by decide)) (by rfl) T.g_words_of T.F_words_of.kp (b_words_of T) .nil pass0 (pa_cons (pv 0) pa_nil)) pa_nil)) (by rfl))
 (pss_cons (ps_if (pt_cmpR op_ne (pe_callB (call_repr hA hr.units) (by rfl) T.n_repr (by decide +kernel) (pa_cons (pe_lst (pa_cons (pe_call (ok_is_name T) (hr.mono (by decide)) (by rfl) T.g_is_name T.F_is_name.kp (b_is_name T) .nil pass0 (pa_cons (pv 0) pa_nil)) (pa_cons (pe_call (ok_number_of T) (hr.mono (by decide)) (by rfl) T.g_number_of T.F_number_of.kp (b_number_of T) .nil pass0 (pa_cons (pv 0) pa_nil)) (pa_cons (pv 2) pa_nil)))) pa_nil)) (pe_callB (call_repr hA hr.units) (by rfl) T.n_repr (by decide +kernel) (pa_cons (pv 1) pa_nil)) (by first | rfl | exact nomark _)) (pss_one (ps_ret (pe_bl))) (pss_nil))
 (pss_cons (ps_if (pt_cmpR op_ne (pe_callB (call_repr hA hr.units) (by rfl) T.n_repr (by decide +kernel) (pa_cons (pe_lst (pa_cons (pe_callK0 (ok_is_name T) (hr.mono (by decide)) (by rfl) T.g_is_name T.F_is_name.kp (kb_is_name_0_thing T) pass0 (pk_cons (pv 0) (pk_nil))) (pa_cons (pe_callK0 (ok_number_of T) (hr.mono (by decide)) (by rfl) T.g_number_of T.F_number_of.kp (kb_number_of_0_word T) pass0 (pk_cons (pv 0) (pk_nil))) (pa_cons (pe_callK0 (ok_words_of T) (hr.mono (by decide)) (by rfl) T.g_words_of T.F_words_of.kp (kb_words_of_0_row T) pass0 (pk_cons (pv 0) (pk_nil))) pa_nil)))) pa_nil)) (pe_callB (call_repr hA hr.units) (by rfl) T.n_repr (by decide +kernel) (pa_cons (pv 1) pa_nil)) (by first | rfl | exact nomark _)) (pss_one (ps_ret (pe_bl))) (pss_nil))
 (pss_cons (ps_if (pt_cmpR op_notN (pv 2) (pe_non) (by first | rfl | exact nomark _)) (pss_one (ps_expr (pe_bm PySem.F.plainAttrs_list PySem.F.slot_list_append PySem.F.type_list_append mt_append (pv 2) (pa_cons (pe_str) pa_nil)))) (pss_nil))
 (pss_one (ps_ret (pe_cmpR op_eq (pe_callB (call_repr hA hr.units) (by rfl) T.n_repr (by decide +kernel) (pa_cons (pe_call (ok_words_of T) (hr.mono (by decide)) (by rfl) T.g_words_of T.F_words_of.kp (b_words_of T) .nil pass0 (pa_cons (pv 0) pa_nil)) pa_nil)) (pe_callB (call_repr hA hr.units) (by rfl) T.n_repr (by decide +kernel) (pa_cons (pe_ix ix_list (pv 1) (pe_int) (fun _ _ => rfl)) pa_nil)) (by first | rfl | exact nomark _))))))), ?_⟩
    -- due, found
    refine ⟨_, rfl, x, ty, rfl, o, fun H1 s1 => ⟨_, rfl, x, ty, rfl, o.mono s1, fun H2 s2 => ⟨_, rfl, x, ty, rfl, o.mono (s1.trans s2), fun w1 H3 s3 W1 => ?_⟩⟩⟩
    refine ⟨by show 3 ≤ sizeLine; decide, fun du fdu => ?_⟩
    obtain ⟨H4, e4⟩ : ∃ H4, H4 = upd H3 du (.lst [.bl (nm x), ovI (nu x), w1]) := ⟨_, rfl⟩
    have s34 : Same H3 H4 := by rw [e4]; exact same_new fdu
    have hdu : H4 du = some (.lst [.bl (nm x), ovI (nu x), w1]) := by rw [e4]; exact upd_same
    have s04 := ((s1.trans s2).trans s3).trans s34
    show tCons _ _ _ _ _
    rw [← e4]
    refine ⟨_, rfl, x, ty, rfl, o.mono s04, fun w2 H5 s5 W2 => ⟨_, _, rfl, ?_⟩⟩
    have s05 := s04.trans s5
    -- the first look
    refine ⟨_, rfl, x, ty, rfl, o.mono s05, fun H6 s6 => ⟨_, rfl, x, ty, rfl, o.mono (s05.trans s6), fun H7 s7 => ⟨_, rfl, by show 3 ≤ sizeLine; decide, fun a1 fa1 => ?_⟩⟩⟩
    have s57 := s6.trans s7
    have s78 := same_new (o := .lst [.bl (nm x), ovI (nu x), w2]) fa1
    have s58 := s57.trans s78
    refine ⟨_, dR x, rfl, dp_R upd_same (dp_W (wo_at W2 s58)), shw_R o, ?_⟩
    refine ⟨_, rfl, _, dR x, rfl, dp_R ((s5.trans s58) _ _ hdu) (dp_W (wo_at W1 (s34.trans (s5.trans s58)))), shw_R o, rfl, _, rfl, iteNS rfl ?_⟩
    -- the second look
    have s08 := s05.trans s58
    refine ⟨_, rfl, x, ty, rfl, o.mono s08, fun H9 s9 => ⟨_, rfl, x, ty, rfl, o.mono (s08.trans s9), fun H10 s10 => ⟨_, rfl, x, ty, rfl, o.mono ((s08.trans s9).trans s10), fun w3 H11 s11 W3 => ⟨by show 3 ≤ sizeLine; decide, fun a2 fa2 => ?_⟩⟩⟩⟩
    have s1112 := same_new (o := .lst [.bl (nm x), ovI (nu x), w3]) fa2
    have s512 := s58.trans (((s9.trans s10).trans s11).trans s1112)
    refine ⟨_, dR x, rfl, dp_R upd_same (dp_W (wo_at W3 s1112)), shw_R o, ?_⟩
    refine ⟨_, rfl, _, dR x, rfl, dp_R ((s5.trans s512) _ _ hdu) (dp_W (wo_at W1 (s34.trans (s5.trans s512)))), shw_R o, rfl, _, rfl, iteNS rfl ?_⟩
    -- if found is not None
    have s012 := s05.trans s512
    have W2' := W2
    rcases W2 with ⟨e, rfl⟩ | ⟨ws, p2, e, rfl, f2, ep2⟩
    · refine ⟨_, rfl, rfl, _, rfl, iteNS rfl ?_⟩
      refine ⟨_, rfl, x, ty, rfl, o.mono s012, fun w4 H13 s13 W4 => ?_⟩
      refine ⟨_, dW (wd x), rfl, dp_W (wo_at W4 (Same.refl _)), shw_W o, ?_⟩
      refine ⟨_, rfl, du, _, 2, w1, rfl, rfl, .inl (.inl ((s5.trans (s512.trans s13)) _ _ hdu)), atI_nat (j := 2) rfl, ?_⟩
      refine ⟨w1, dW (wd x), rfl, dp_W (wo_at W1 (s34.trans (s5.trans (s512.trans s13)))), shw_W o, rfl, ?_⟩
      show Q (.bl (decide _)) _
      rw [decide_eq_true rfl]
      exact q _ (s012.trans s13)
    · refine ⟨_, rfl, rfl, _, rfl, ?_⟩
      have ep12 := s512 _ _ ep2
      refine ⟨_, rfl, .inl ⟨rfl, _, SqL.of ep12⟩, p2, _, _, rfl, rfl, ep12, ?_, ?_⟩
      · exact small1000' (by rw [List.length_map]; have := ws_len o e; omega)
      have sp2 : Same H4 (upd (upd H11 a2 (.lst [.bl (nm x), ovI (nu x), w3])) p2 (.lst (ws.map V.str ++ [.str "a"]))) := same_put (s5.trans s512) f2
      refine ⟨_, rfl, x, ty, rfl, o.mono (s04.trans sp2), fun w4 H13 s13 W4 => ?_⟩
      refine ⟨_, dW (wd x), rfl, dp_W (wo_at W4 (Same.refl _)), shw_W o, ?_⟩
      refine ⟨_, rfl, du, _, 2, w1, rfl, rfl, .inl (.inl ((sp2.trans s13) _ _ hdu)), atI_nat (j := 2) rfl, ?_⟩
      refine ⟨w1, dW (wd x), rfl, dp_W (wo_at W1 (s34.trans (sp2.trans s13))), shw_W o, rfl, ?_⟩
      show Q (.bl (decide _)) _
      rw [decide_eq_true rfl]
      exact q _ ((s04.trans sp2).trans s13)
def spWR : Sp := fun vs H Q _ => ∃ (d : Addr) (H0 : Hp) (n : Nat), vs = [.ref d] ∧ Dr H0 H d (n + 2) ∧ ∀ H', Dr H0 H' d n → Q (.bl true) H'
def dB (a b : Bool) : PyData := .list [.bool a, .bool a, .bool b]
theorem shw_B (a b : Bool) : Shw (dB a b) := shw_of (by simp [dB, PyData.showable, PyData.showableAll]) (by simp [dB, PyData.hasDict, PyData.hasDictAll]) (by simp [dB, PyData.depth, PyData.depthAll])
  (by simp [dB, PyData.leavesShort, PyData.leavesShortAll]) (by simp [dB, PyData.bulk, PyData.bulkAll])
theorem dp_B {K : PySem.W.Frag} {H : Hp} {a b : Bool} {p : Addr} (h : H p = some (.lst [.bl a, .bl a, .bl b])) : Dp K H (.ref p) (dB a b) := .lst (SqL.of h) (.cons (.bl _) (.cons (.bl _) (.cons (.bl _) .nil)))
theorem ok_law_whole_right (T : Txt mg K) : FnG P w K mg base 3 T.f_law_whole_right T.fd_law_whole_right ["m"] spWR := by
  obtain ⟨ds2, v_is_whole_2, b_is_whole_2⟩ := b_is_whole_2 T
  refine fn_okG T.F_law_whole_right sc_law_whole_right (fun vs H Q E h => ?_) (fun cdv A out s H vs Q E hA hr h => ?_)
  · obtain ⟨_, _, _, rfl, _⟩ := h
    rfl
  · obtain ⟨d, H0, n, rfl, dr, q⟩ := h
    refine ⟨_, pss_cons (ps_set (i := 1) sc_law_whole_right.nd rfl (.inl rfl) (pe_op op_sub (pe_call (ok_law_draw T) (hr.mono (by decide)) (by rfl) T.g_law_draw T.F_law_draw.kp (b_law_draw T) .nil pass0 (pa_cons (pv 0) (pa_cons (pe_int) pa_nil))) (pe_int)))
 (pss_cons (ps_set (i := 2) sc_law_whole_right.nd rfl (.inl rfl) (pe_op op_add (pv 1) (pe_call (ok_law_draw T) (hr.mono (by decide)) (by rfl) T.g_law_draw T.F_law_draw.kp (b_law_draw T) .nil pass0 (pa_cons (pv 0) (pa_cons (pe_int) pa_nil)))))
 (pss_cons (ps_for PassesOwn.never rfl (pi_tup (pe_tup (pa_cons (pe_op op_sub (pv 1) (pe_int)) (pa_cons (pv 1) (pa_cons (pv 2) (pa_cons (pe_op op_add (pv 2) (pe_int)) (pa_cons (pe_op op_pow (pe_int) (pe_int)) (pa_cons (pe_op op_add (pe_op op_pow (pe_int) (pe_int)) (pe_int)) (pa_cons (pe_op op_pow (pe_int) (pe_int)) (pa_cons (pe_bl) (pa_cons (pe_bl) (pa_cons (pe_non) (pa_cons (pe_str) (pa_cons (pe_tup (pa_cons (pe_int) pa_nil)) (pa_cons (pe_lst (pa_cons (pe_int) pa_nil)) pa_nil))))))))))))))) (pg_name (i := 3) sc_law_whole_right.nd rfl (.inl rfl)) (pss_cons (ps_set (i := 4) sc_law_whole_right.nd rfl (.inl rfl) (pe_op op_cat (pe_op op_rep (pe_lst (pa_cons (pe_call (ok_law_whole T) (hr.mono (by decide)) (by rfl) T.g_law_whole T.F_law_whole.kp (b_law_whole T) .nil pass0 (pa_cons (pv 3) (pa_cons (pv 1) (pa_cons (pv 2) pa_nil)))) pa_nil)) (pe_int)) (pe_lst (pa_cons (pe_call (ok_law_whole T) (hr.mono (by decide)) (by rfl) T.g_law_whole T.F_law_whole.kp (b_law_whole T) .nil pass0 (pa_cons (pv 3) (pa_cons (pv 1) (pa_cons (pe_op op_pow (pe_int) (pe_int)) pa_nil)))) pa_nil))))
 (pss_cons (ps_set (i := 5) sc_law_whole_right.nd rfl (.inl rfl) (pe_lst (pa_cons (pe_call (ok_is_whole T) (hr.mono (by decide)) (by rfl) T.g_is_whole T.F_is_whole.kp (b_is_whole T) .nil pass0 (pa_cons (pv 3) (pa_cons (pv 1) (pa_cons (pv 2) pa_nil)))) (pa_cons (pe_callK0 (ok_is_whole T) (hr.mono (by decide)) (by rfl) T.g_is_whole T.F_is_whole.kp (kb_is_whole_0_most_thing_least T) pass0 (pk_cons (pv 2) (pk_cons (pv 3) (pk_cons (pv 1) (pk_nil))))) (pa_cons (pe_call (ok_is_whole T) (hr.mono (by decide)) (by rfl) T.g_is_whole T.F_is_whole.kp b_is_whole_2 v_is_whole_2 pass0 (pa_cons (pv 3) (pa_cons (pv 1) pa_nil))) pa_nil)))))
 (pss_one (ps_if (pt_cmpR op_ne (pe_callB (call_repr hA hr.units) (by rfl) T.n_repr (by decide +kernel) (pa_cons (pv 5) pa_nil)) (pe_callB (call_repr hA hr.units) (by rfl) T.n_repr (by decide +kernel) (pa_cons (pv 4) pa_nil)) (by first | rfl | exact nomark _)) (pss_one (ps_ret (pe_bl))) (pss_nil))))))
 (pss_one (ps_ret (pe_bl))))), ?_⟩
    refine ⟨_, rfl, d, 9, H0, n + 1, rfl, by decide, by decide, dr, fun v1 H1 _ _ dr1 => ?_⟩
    refine ⟨_, _, rfl, rfl, _, rfl, _, rfl, d, 4, H0, n, rfl, by decide, by decide, dr1, fun v2 H2 _ _ dr2 => ?_⟩
    refine ⟨_, _, rfl, rfl, ?_⟩
    repeat walk_at "st"
    refine ⟨by show 1 ≤ sizeLine; decide, fun t1 f1 => ⟨by show 1 ≤ sizeLine; decide, fun l1 g1 => ⟨by show 13 ≤ sizeLine; decide, fun t ft => ?_⟩⟩⟩
    obtain ⟨xs, ex⟩ : ∃ xs : List V, xs = [V.int (v1 - 4 - 1), .int (v1 - 4), .int (v1 - 4 + v2), .int (v1 - 4 + v2 + 1), .int (10 ^ (6 : Int).toNat), .int (10 ^ (6 : Int).toNat + 1), .int (10 ^ (30 : Int).toNat), .bl true, .bl false, .non, .str "1", .ref t1, .ref l1] := ⟨_, rfl⟩
    have c1 := same_new (o := .tup [V.int 1]) f1
    have c2 := same_new (o := .lst [V.int 1]) g1
    have c3 := same_new (o := .tup xs) ft
    have odd : ∀ x ∈ xs, ∃ ty, Od (upd (upd (upd H2 t1 (.tup [V.int 1])) l1 (.lst [V.int 1])) t (.tup xs)) x ty := by
      intro x hx
      have hx' := hx
      rw [ex] at hx'
      simp only [List.mem_cons, List.not_mem_nil, or_false] at hx'
      rcases hx' with rfl | rfl | rfl | rfl | rfl | rfl | rfl | rfl | rfl | rfl | rfl | rfl | rfl
      · exact ⟨_, .int _⟩
      · exact ⟨_, .int _⟩
      · exact ⟨_, .int _⟩
      · exact ⟨_, .int _⟩
      · exact ⟨_, .int _⟩
      · exact ⟨_, .int _⟩
      · exact ⟨_, .int _⟩
      · exact ⟨_, .bl _⟩
      · exact ⟨_, .bl _⟩
      · exact ⟨_, .non⟩
      · exact ⟨_, .str ⟨by decide +kernel, by decide +kernel⟩⟩
      · exact ⟨_, (Od.tup upd_same).mono (c2.trans c3)⟩
      · exact ⟨_, (Od.lst upd_same).mono c3⟩
    obtain ⟨H3, e3⟩ : ∃ H3, H3 = upd (upd (upd H2 t1 (.tup [V.int 1])) l1 (.lst [V.int 1])) t (.tup xs) := ⟨_, rfl⟩
    rw [← e3] at odd
    have ht : H3 t = some (.tup xs) := by rw [e3, upd_same]
    have s23 : Same H2 H3 := by rw [e3]; exact (c1.trans c2).trans c3
    have ht' := ht
    rw [e3, ex] at ht'
    refine ⟨t, rfl, ⟨_, SqT.of ht'⟩, for_tup (K := K) (a := t) (xs := xs) (fun i σ H4 => ∃ v3 v4 v5 : Option V, σ = [some (.ref d), some (.int (v1 - 4)), some (.int (v1 - 4 + v2)), v3, v4, v5] ∧ Same H3 H4) ⟨none, none, none, rfl, by rw [e3, ex]; exact Same.refl _⟩ (fun i σ H4 _ ⟨_, _, _, _, s4⟩ => SqT.of (s4 _ _ ht)) ?_ ?_⟩
    · rintro i x σ H4 hx ⟨v3, v4, v5, rfl, s4⟩
      obtain ⟨ty, o⟩ := odd x (List.mem_of_getElem? hx)
      -- due
      refine ⟨_, rfl, _, rfl, _, rfl, x, ty, _, _, rfl, o.mono s4, by show 1 ≤ sizeLine; decide, fun p1 h1 => ?_⟩
      have d1 := same_new (o := .lst [V.bl (wh x (v1 - 4) (v1 - 4 + v2))]) h1
      refine ⟨p1, 2, _, rfl, rfl, upd_same, by decide, by decide, by show 2 ≤ sizeLine; decide, fun p2 h2 => ?_⟩
      have d2 := same_new (o := .lst [V.bl (wh x (v1 - 4) (v1 - 4 + v2)), V.bl (wh x (v1 - 4) (v1 - 4 + v2))]) h2
      refine ⟨_, rfl, _, rfl, _, _, rfl, rfl, ⟨by decide, by decide, by decide⟩, x, ty, _, _, rfl, o.mono ((s4.trans d1).trans d2), by show 1 ≤ sizeLine; decide, fun p3 h3 => ?_⟩
      have d3 := same_new (o := .lst [V.bl (wh x (v1 - 4) (10 ^ (6 : Int).toNat))]) h3
      refine ⟨p2, p3, _, _, rfl, rfl, d3 _ _ upd_same, upd_same, by show 3 ≤ sizeLine; decide, fun p4 h4 => ?_⟩
      have d4 := same_new (o := .lst [V.bl (wh x (v1 - 4) (v1 - 4 + v2)), V.bl (wh x (v1 - 4) (v1 - 4 + v2)), V.bl (wh x (v1 - 4) (10 ^ (6 : Int).toNat))]) h4
      have s8 := (((s4.trans d1).trans d2).trans d3).trans d4
      -- found
      refine ⟨_, rfl, _, rfl, _, rfl, x, ty, _, _, rfl, o.mono s8, ?_⟩
      refine ⟨_, rfl, _, rfl, _, rfl, x, ty, _, _, rfl, o.mono s8, ?_⟩
      refine ⟨_, rfl, _, rfl, x, ty, _, _, rfl, o.mono s8, by show 3 ≤ sizeLine; decide, fun p5 h5 => ?_⟩
      have d5 := same_new (o := .lst [V.bl (wh x (v1 - 4) (v1 - 4 + v2)), V.bl (wh x (v1 - 4) (v1 - 4 + v2)), V.bl (wh x (v1 - 4) 1000000)]) h5
      refine ⟨_, rfl, _, dB (wh x (v1 - 4) (v1 - 4 + v2)) (wh x (v1 - 4) 1000000), rfl, dp_B upd_same, shw_B _ _, ?_⟩
      refine ⟨_, rfl, _, dB (wh x (v1 - 4) (v1 - 4 + v2)) (wh x (v1 - 4) 1000000), rfl, dp_B (d5 _ _ upd_same), shw_B _ _, rfl, _, rfl, iteNS rfl ?_⟩
      exact ⟨_, _, _, rfl, s8.trans d5⟩
    · rintro σ H4 ⟨v3, v4, v5, rfl, s4⟩
      exact q H4 (dr2.keep (s23.trans s4))
end
end K

set_option maxRecDepth 100000
set_option maxHeartbeats 4000000
namespace K
open PySem PySem.Spec PyProof.Rows L2 Gd
local macro_rules | `(tactic| walk_at "mulok") => `(tactic| first | exact Or.inr ⟨by decide, by decide⟩ | exact Or.inl ⟨by decide, by decide⟩ | exact Or.inr ⟨by omega, by omega⟩ | exact Or.inl ⟨by omega, by omega⟩)
local macro_rules | `(tactic| walk_at "st") => `(tactic| first
  | refine ⟨_, rfl, ?_⟩
  | refine ⟨_, _, rfl, rfl, (by walk_at "mulok"), ?_⟩
  | refine ⟨_, _, rfl, rfl, (by show (0 : Int) < _; decide), ?_⟩
  | refine ⟨_, _, rfl, rfl, ⟨by decide, by decide⟩, ?_⟩
  | refine ⟨_, _, rfl, rfl, ?_⟩)
theorem ofString_tx (s : String) : ∀ c ∈ (PySem.Str.ofString s).cps.toList, c < 1114112 := by
  rw [PyProof.Rows.signs_ofString]
  intro c hc
  obtain ⟨k, _, rfl⟩ := List.mem_map.mp hc
  have h := k.valid
  have e : k.toNat = k.val.toNat := rfl
  rcases h with g | ⟨_, g⟩
  · rw [e]
    have : k.val.toNat < 55296 := g
    omega
  · rw [e]
    exact g
def okT (zs : List PySem.Str) : Bool := zs.all fun z => decide (z.cps.toList.length ≤ 5000) && z.cps.toList.all fun c => decide (c < 1114112)
theorem okT_tx {zs : List PySem.Str} (h : okT zs = true) : ∀ z ∈ zs, Tx 5000 z := fun z hz => by
  have := List.all_eq_true.mp h z hz
  simp only [Bool.and_eq_true, decide_eq_true_eq, List.all_eq_true] at this
  exact this
/-- the list of names at p, and what numbers are drawn by -/
structure Som (H : Hp) (d : Addr) (n : Nat) (p : Addr) (N : Nat) : Prop where
  ex : ∃ (H0 : Hp) (zs : List PySem.Str), Dr H0 H d n ∧ H0 p = some (.lst (zs.map V.str)) ∧ (∀ z ∈ zs, Tx 5000 z) ∧ zs.length ≤ N ∧ zs ≠ []
theorem Som.add {H0 H : Hp} {d n p' N M : Nat} {zs ys : List PySem.Str} (dr : Dr H0 H d n) (tz : ∀ z ∈ zs, Tx 5000 z) (ty : ∀ y ∈ ys, Tx 5000 y) (lz : zs.length ≤ N) (ly : ys.length ≤ M) (nz : zs ≠ []) (fp : H p' = none) :
    Som (upd H p' (.lst (zs.map V.str ++ ys.map V.str))) d n p' (N + M) := by
  refine ⟨_, zs ++ ys, dr.new (.lst (zs.map V.str ++ ys.map V.str)) fp, by rw [upd_same, List.map_append], fun z hz => (List.mem_append.mp hz).elim (tz z) (ty z), ?_, fun e => nz (List.append_eq_nil_iff.mp e).1⟩
  rw [List.length_append]
  omega
theorem room {zs : List PySem.Str} {N M k : Nat} (lz : zs.length ≤ N) (e : N + k ≤ 1000000) (h : M = k) : (zs.map V.str).length + M ≤ sizeLine := by
  rw [List.length_map, sizeLine_eq, h]
  omega
def spLaw (K : PySem.W.Frag) : Sp := fun vs H Q _ => ∃ (a : Addr) (ns : List Int), vs = [.ref a] ∧ SqL K H a (ns.map V.int) ∧ ns.length ≤ 63 ∧ ∀ H', Q (.bl true) H'
section
variable {P : Program} {w : World} {K : PySem.W.Frag} {mg : PySem.Str → Option Value} {base : Heap}
theorem ok_law (T : Txt mg K) : FnG P w K mg base 4 T.f_law T.fd_law ["script"] (spLaw K) := by
  refine fn_okG T.F_law sc_law (fun vs H Q E h => ?_) (fun cdv A out s H vs Q E hA hr h => ?_)
  · obtain ⟨_, _, rfl, _⟩ := h
    rfl
  · obtain ⟨a, ns, rfl, hS, l63, q⟩ := h
    refine ⟨_, pss_cons (ps_set (i := 1) sc_law.nd rfl (.inr rfl) (pe_call (ok_law_begun T) (hr.mono (by decide)) (by rfl) T.g_law_begun T.F_law_begun.kp (b_law_begun T) .nil pass0 (pa_cons (pv 0) pa_nil)))
 (pss_cons (ps_set (i := 2) sc_law.nd rfl (.inr rfl) (pe_split (pe_str) (pe_str)))
 (pss_cons (ps_set (i := 2) sc_law.nd rfl (.inr rfl) (pe_op op_cat (pv 2) (pe_lst (pa_cons (pe_str) (pa_cons (pe_str) (pa_cons (pe_str) (pa_cons (pe_str) (pa_cons (pe_str) (pa_cons (pe_str) pa_nil)))))))))
 (pss_cons (ps_set (i := 2) sc_law.nd rfl (.inr rfl) (pe_op op_cat (pe_op op_cat (pv 2) (pe_call (ok_law_called T) (hr.mono (by decide)) (by rfl) T.g_law_called T.F_law_called.kp (b_law_called T) .nil pass0 (pa_cons (pv 1) (pa_cons (pe_int) pa_nil)))) (pe_lst (pa_cons (pe_str) (pa_cons (pe_str) (pa_cons (pe_str) (pa_cons (pe_str) (pa_cons (pe_str) (pa_cons (pe_str) (pa_cons (pe_str) (pa_cons (pe_str) (pa_cons (pe_str) (pa_cons (pe_str) (pa_cons (pe_str) (pa_cons (pe_str) pa_nil)))))))))))))))
 (pss_cons (ps_set (i := 2) sc_law.nd rfl (.inr rfl) (pe_op op_cat (pv 2) (pe_lst (pa_cons (pe_str) (pa_cons (pe_str) (pa_cons (pe_str) (pa_cons (pe_str) (pa_cons (pe_str) (pa_cons (pe_str) (pa_cons (pe_op op_rep_str (pe_str) (pe_int)) (pa_cons (pe_str) (pa_cons (pe_str) (pa_cons (pe_str) (pa_cons (pe_str) (pa_cons (pe_str) pa_nil)))))))))))))))
 (pss_cons (ps_set (i := 2) sc_law.nd rfl (.inr rfl) (pe_op op_cat (pv 2) (pe_lc (own := [("bout", 4)]) (g := gName 4) (tt := tYes) (by rfl) sc_law.nd (pi_range1 (by rfl) T.n_range (pa_cons (pe_int) pa_nil)) (blkOk_by (own := [("bout", 4)]) (N := ["script", "m", "some", "odd", "bout"]) (sc := defScope s_law) (by decide +kernel)) (fun _ _ _ _ _ => pg_name (i := 4) sc_law.nd rfl (Or.inl rfl)) (fun _ _ _ _ _ => pts_nil) (fun _ _ _ _ _ => pe_callTy call_str_int (by rfl) T.n_str (by decide +kernel) (pa_cons (pe_call (ok_law_draw T) (hr.mono (by decide)) (by rfl) T.g_law_draw T.F_law_draw.kp (b_law_draw T) .nil pass0 (pa_cons (pv 1) (pa_cons (pe_op op_add (pe_op op_pow (pe_int) (pe_int)) (pe_int)) pa_nil))) pa_nil)))))
 (pss_cons (ps_set (i := 2) sc_law.nd rfl (.inr rfl) (pe_op op_cat (pv 2) (pe_lst (pa_cons (pe_op op_add_str (pe_op op_rep_str (pe_str) (pe_int)) (pe_str)) (pa_cons (pe_str) (pa_cons (pe_str) (pa_cons (pe_str) (pa_cons (pe_str) pa_nil))))))))
 (pss_cons (ps_set (i := 2) sc_law.nd rfl (.inr rfl) (pe_op op_cat (pv 2) (pe_lc (own := [("bout", 4)]) (g := gName 4) (tt := tYes) (by rfl) sc_law.nd (pi_range1 (by rfl) T.n_range (pa_cons (pe_int) pa_nil)) (blkOk_by (own := [("bout", 4)]) (N := ["script", "m", "some", "odd", "bout"]) (sc := defScope s_law) (by decide +kernel)) (fun _ _ _ _ _ => pg_name (i := 4) sc_law.nd rfl (Or.inl rfl)) (fun _ _ _ _ _ => pts_nil) (fun _ _ _ _ _ => pe_call (ok_law_signed T) (hr.mono (by decide)) (by rfl) T.g_law_signed T.F_law_signed.kp (b_law_signed T) .nil pass0 (pa_cons (pv 1) (pa_cons (pe_slice sl_str (pe_ix (ixlK (K := K) rfl) (pv 2) (pe_call (ok_law_draw T) (hr.mono (by decide)) (by rfl) T.g_law_draw T.F_law_draw.kp (b_law_draw T) .nil pass0 (pa_cons (pv 1) (pa_cons (pe_callB (lenK (K := K) rfl) (by rfl) T.n_len (by decide +kernel) (pa_cons (pv 2) pa_nil)) pa_nil))) (fun _ _ => rfl)) po_none (po_some (pe_int))) pa_nil))))))
 (pss_cons (ps_for PassesOwn.never rfl (pi_list (pe_op op_cat (pe_op op_cat (pv 2) (pe_lst (pa_cons (pe_int) (pa_cons (pe_int) (pa_cons (pe_un un_neg (pe_int)) (pa_cons (pe_bl) (pa_cons (pe_tup (pa_nil)) (pa_cons (pe_tup (pa_cons (pe_str) pa_nil)) (pa_cons (pe_disp (pps_cons (pe_str) (pe_int) (pps_nil)) (by rfl) (by rfl) (fun z => by cases z) (by decide)) (pa_cons (pe_lst (pa_cons (pe_str) pa_nil)) pa_nil)))))))))) (pe_call0 (ok_law_far T) (hr.mono (by decide)) (by rfl) T.g_law_far T.F_law_far.kp (b_law_far T) .nil pass0))) (pg_name (i := 3) sc_law.nd rfl (.inl rfl)) (pss_one (ps_if (pt_not (pt_val (pe_callG (E := E0) (ok_law_right T) hA (hr.mono (by decide)) (by rfl) T.g_law_right T.F_law_right.kp (b_law_right T) .nil (pa_cons (pv 3) pa_nil)))) (pss_one (ps_ret (pe_bl))) (pss_nil))))
 (pss_one (ps_ret (pe_callB (cr_all rfl) (by rfl) T.n_all (by decide +kernel) (pa_cons (pe_lc (own := [("bout", 4)]) (g := gName 4) (tt := tYes) (by rfl) sc_law.nd (pi_range1 (by rfl) T.n_range (pa_cons (pe_int) pa_nil)) (blkOk_by (own := [("bout", 4)]) (N := ["script", "m", "some", "odd", "bout"]) (sc := defScope s_law) (by decide +kernel)) (fun _ _ _ _ _ => pg_name (i := 4) sc_law.nd rfl (Or.inl rfl)) (fun _ _ _ _ _ => pts_nil) (fun _ _ _ _ _ => pe_callG (E := E0) (ok_law_whole_right T) hA (hr.mono (by decide)) (by rfl) T.g_law_whole_right T.F_law_whole_right.kp (b_law_whole_right T) .nil (pa_cons (pv 1) pa_nil))) pa_nil)))))))))))), ?_⟩
    -- m, some
    refine ⟨_, rfl, a, ns, rfl, hS, l63, fun d H1 dr => ?_⟩
    refine ⟨⟨_, rfl⟩, _, _, rfl, rfl, by decide +kernel, by decide +kernel, fun p fp => ?_⟩
    have S : Som _ d 1000000 p 20 := ⟨_, Txt.split "style job round sew glue cover letter press hand haste styles jobs" " ", dr.new _ fp, upd_same, okT_tx (by decide +kernel), by decide +kernel, by decide +kernel⟩
    clear dr
    -- + six
    obtain ⟨H0, zs, dr, hp, tz, lz, nz⟩ := S.ex
    refine ⟨_, rfl, by show 6 ≤ sizeLine; decide, fun e fe => ⟨p, e, _, _, rfl, rfl, (same_new fe) _ _ (dr.same _ _ hp), upd_same, room lz (k := 6) (by decide) rfl, fun p2 fp2 => ?_⟩⟩
    have S : Som _ d 1000000 p2 26 := Som.add (M := 6) (dr.side _ fe) tz (ys := ["hands", "sewn", "presse", "glu", "gluea", "st"]) (okT_tx (by decide +kernel)) lz (by decide) nz fp2
    clear dr hp tz lz nz
    -- + the names + twelve
    obtain ⟨H0, zs, dr, hp, tz, lz, nz⟩ := S.ex
    refine ⟨_, rfl, _, rfl, d, 8, H0, 999900, rfl, by decide, dr.less (by decide), fun e zs2 H2 fe l2 t2 dr2 => ?_⟩
    refine ⟨p2, e, _, _, rfl, rfl, dr2.same _ _ (same_new fe _ _ hp), dr2.told, room lz (k := 8) (by decide) (by rw [List.length_map, l2]), fun p3 fp3 => ?_⟩
    have S : Som _ d 999900 p3 34 := Som.add (M := 8) (dr2.drop fe) tz (fun z hz => (t2 z hz).mono (by decide)) lz (by omega) nz fp3
    clear dr hp tz lz nz dr2
    obtain ⟨H0, zs, dr, hp, tz, lz, nz⟩ := S.ex
    refine ⟨by show 12 ≤ sizeLine; decide, fun e4 fe4 => ⟨p3, e4, _, _, rfl, rfl, (same_new fe4) _ _ (dr.same _ _ hp), upd_same, room lz (k := 12) (by decide) rfl, fun p4 fp4 => ?_⟩⟩
    have S : Som _ d 999900 p4 46 := Som.add (M := 12) (dr.side _ fe4) tz (ys := ["a", "z", "abcdefgh", "abcdefghi", "A", "", "aB", "0", "-0", "00", "-", "-1"]) (okT_tx (by decide +kernel)) lz (by decide) nz fp4
    clear dr hp tz lz nz
    -- + sixteen
    obtain ⟨H0, zs, dr, hp, tz, lz, nz⟩ := S.ex
    have t9 : Tx 1 "9" := ⟨by decide +kernel, by decide +kernel⟩
    refine ⟨_, rfl, _, _, rfl, rfl, PyProof.Rows.mulOk_of 1 4000 (by rw [Gd.len_tl]; exact t9.1) (by decide) (by decide) (by decide) (by decide), ?_⟩
    refine ⟨by show 12 ≤ sizeLine; decide, fun e5 fe5 => ⟨p4, e5, _, _, rfl, rfl, (same_new fe5) _ _ (dr.same _ _ hp), upd_same, room lz (k := 12) (by decide) rfl, fun p5 fp5 => ?_⟩⟩
    have S : Som _ d 999900 p5 58 := Som.add (M := 12) (dr.side _ fe5) tz (ys := ["9999999", "10000000", "0123456", "09", "+1", "1_0", Txt.mul "9" 4000, " ", "a b", " a", "a ", "a  b"]) (by
      intro y hy
      simp only [List.mem_cons, List.not_mem_nil, or_false] at hy
      rcases hy with rfl | rfl | rfl | rfl | rfl | rfl | rfl | rfl | rfl | rfl | rfl | rfl
      case inr.inr.inr.inr.inr.inr.inl => exact t9.rep.mono (by decide)
      all_goals exact ⟨by decide +kernel, by decide +kernel⟩) lz (by show 12 ≤ 12; decide) nz fp5
    clear dr hp tz lz nz
    -- + six numbers' texts
    obtain ⟨H0, zs, dr, hp, tz, lz, nz⟩ := S.ex
    refine ⟨_, rfl, 6, rfl, by decide, by decide, fun D fD => lc_range (lo := 0) (n := 6) (fun i H2 => ∃ ys : List PySem.Str, Dr (upd H0 D (.lst (ys.map V.str))) H2 d (999800 + (6 - i)) ∧ ys.length = i ∧ ∀ y ∈ ys, Tx 5000 y) ⟨[], (dr.new _ fD).less (by decide), rfl, fun y hy => absurd hy List.not_mem_nil⟩ ?_ ?_⟩
    · rintro i H2 lt ⟨ys, dri, li, ti⟩
      refine ⟨rfl, ?_⟩
      refine ⟨_, rfl, _, _, rfl, rfl, ⟨by decide, by decide, by decide⟩, _, _, rfl, rfl, d, _, _, 999800 + (6 - (i + 1)), rfl, by decide, by decide, dri.less (by omega), fun v H3 v0 v1 dr3 => ?_⟩
      have v7 : v < 10 ^ 8 := Int.lt_of_lt_of_le v1 (by decide)
      have lg : v.natAbs.log2 < 1920 := by
        by_cases z0 : v.natAbs = 0
        · rw [z0]
          decide
        · have : v.natAbs.log2 < 27 := by
            rw [Nat.log2_lt z0]
            have : (2 : Nat) ^ 27 = 134217728 := by decide
            omega
          omega
      have tv : Tx 5000 (PySem.Str.ofString (toString v)) := by
        have l8 := PyProof.Rows.toString_length_le (v := v) v0 (k := 8) (by decide) v7
        rw [Gd.len_tl] at l8
        exact ⟨by omega, ofString_tx _⟩
      refine ⟨v, rfl, lg, _, dr3.told, small1000 (by rw [List.length_map]; omega), ys ++ [PySem.Str.ofString (toString v)], ?_, by rw [List.length_append, li]; rfl, fun y hy => ?_⟩
      · rw [List.map_append, List.map_cons, List.map_nil]
        have d9 := dr3.put (.lst (ys.map V.str ++ [.str (PySem.Str.ofString (toString v))])) (.inr ⟨_, upd_same⟩)
        rw [upd_upd] at d9
        exact d9
      · rcases List.mem_append.mp hy with g | g
        · exact ti y g
        · rw [List.mem_singleton.mp g]
          exact tv
    rintro H2 ⟨ys, dr2, ly, ty⟩
    have fD0 : H0 D = none := dr.same.free fD
    refine ⟨p5, D, _, _, rfl, rfl, dr2.same _ _ (same_new fD0 _ _ hp), dr2.told, room lz (k := 6) (by decide) (by rw [List.length_map, ly]), fun p6 fp6 => ?_⟩
    have S : Som _ d 999800 p6 64 := Som.add (M := 6) ((dr2.drop fD0).less (by decide)) tz ty lz (by omega) nz fp6
    clear dr hp tz lz nz dr2
    -- + five
    obtain ⟨H0, zs, dr, hp, tz, lz, nz⟩ := S.ex
    have ta : Tx 2 "a " := ⟨by decide +kernel, by decide +kernel⟩
    have ta1 : Tx 1 "a" := ⟨by decide +kernel, by decide +kernel⟩
    have tr : Tx (2 * (400 : Int).toNat) (Txt.mul "a " 400) := ta.rep
    refine ⟨_, rfl, _, _, rfl, rfl, PyProof.Rows.mulOk_of 2 400 (by rw [Gd.len_tl]; exact ta.1) (by decide) (by decide) (by decide) (by decide), _, _, rfl, rfl, tr.line2 ta1 (by decide), ?_⟩
    refine ⟨by show 5 ≤ sizeLine; decide, fun e7 fe7 => ⟨p6, e7, _, _, rfl, rfl, (same_new fe7) _ _ (dr.same _ _ hp), upd_same, room lz (k := 5) (by decide) rfl, fun p7 fp7 => ?_⟩⟩
    have S : Som _ d 999800 p7 69 := Som.add (M := 5) (dr.side _ fe7) tz (ys := [Txt.mul "a " 400 ++ "a", "1\n", "job 7", "\n", "a\nb"]) (by
      intro y hy
      simp only [List.mem_cons, List.not_mem_nil, or_false] at hy
      rcases hy with rfl | rfl | rfl | rfl | rfl
      case inl => exact (tr.add ta1).mono (by decide)
      all_goals exact ⟨by decide +kernel, by decide +kernel⟩) lz (by show 5 ≤ 5; decide) nz fp7
    clear dr hp tz lz nz
    -- + forty with signs
    obtain ⟨H0, zs, dr, hp, tz, lz, nz⟩ := S.ex
    have zpos : 0 < zs.length := List.length_pos_iff.mpr nz
    refine ⟨_, rfl, 40, rfl, by decide, by decide, fun D fD => lc_range (lo := 0) (n := 40) (fun i H2 => ∃ ys : List PySem.Str, Dr (upd H0 D (.lst (ys.map V.str))) H2 d (999000 + 4 * (40 - i)) ∧ ys.length = i ∧ ∀ y ∈ ys, Tx 5000 y) ⟨[], (dr.new _ fD).less (by decide), rfl, fun y hy => absurd hy List.not_mem_nil⟩ ?_ ?_⟩
    · rintro i H2 lt ⟨ys, dri, li, ti⟩
      have hp0 : (upd H0 D (.lst (ys.map V.str))) p7 = some (.lst (zs.map V.str)) := same_new (dr.same.free fD) _ _ hp
      refine ⟨rfl, ?_⟩
      refine ⟨_, rfl, _, rfl, _, rfl, _, rfl, p7, _, rfl, .inl (SqL.of (dri.same _ _ hp0)), d, _, _, 999000 + 4 * (40 - (i + 1)) + 3, rfl, by rw [List.length_map]; omega, by rw [List.length_map]; omega, dri.less (by omega), fun i3 H3 i0 i1 dr3 => ?_⟩
      obtain ⟨x, hx, _, ax⟩ := at_in (l := zs.map V.str) i0 i1
      obtain ⟨z, hz, rfl⟩ := List.mem_map.mp hx
      refine ⟨p7, _, _, _, rfl, rfl, .inl (.inl (dr3.same _ _ hp0)), ax, _, rfl, z, rfl, (tz z hz).line (by decide), ?_⟩
      refine ⟨d, _, _, 999000 + 4 * (40 - (i + 1)), rfl, ((tz z hz).cutTo 40).mono (by decide), dr3, fun y H4 yt dr4 => ?_⟩
      refine ⟨_, dr4.told, small1000 (by rw [List.length_map]; omega), ys ++ [y], ?_, by rw [List.length_append, li]; rfl, fun u hu => ?_⟩
      · rw [List.map_append, List.map_cons, List.map_nil]
        have d9 := dr4.put (.lst (ys.map V.str ++ [.str y])) (.inr ⟨_, upd_same⟩)
        rw [upd_upd] at d9
        exact d9
      · rcases List.mem_append.mp hu with g | g
        · exact ti u g
        · rw [List.mem_singleton.mp g]
          exact yt.mono (by decide)
    rintro H2 ⟨ys, dr2, ly, ty⟩
    have fD0 : H0 D = none := dr.same.free fD
    refine ⟨p7, D, _, _, rfl, rfl, dr2.same _ _ (same_new fD0 _ _ hp), dr2.told, room lz (k := 40) (by decide) (by rw [List.length_map, ly]), fun p8 fp8 => ?_⟩
    have S : Som _ d 999000 p8 109 := Som.add (M := 40) ((dr2.drop fD0).less (by decide)) tz ty lz (by omega) nz fp8
    clear dr hp tz lz nz dr2 zpos
    -- all things
    obtain ⟨H0, zs, dr, hp, tz, lz, nz⟩ := S.ex
    refine ⟨_, rfl, 1, rfl, by show 0 ≤ sizeLine; decide, fun t0 f0 => ⟨by show 1 ≤ sizeLine; decide, fun t1 f1 => fun d1 g1 => ⟨upd_same, [(Sum.inr "a", V.int 1)], rfl, by decide, by show 1 ≤ sizeLine; decide, fun l1 g2 => ⟨by show 8 ≤ sizeLine; decide, fun e fe => ?_⟩⟩⟩⟩
    have c0 := same_new (o := .tup []) f0
    have c1 := same_new (o := .tup [V.str "a"]) f1
    have c2 := same_put (o := .dK (mergeK [] [(Sum.inr "a", V.int 1)])) (same_new (o := .dK []) g1) g1
    have c3 := same_new (o := .lst [V.str "job"]) g2
    have c4 := same_new (o := .lst [V.int 0, V.int 9999, V.int (-1), V.bl false, V.ref t0, V.ref t1, V.ref d1, V.ref l1]) fe
    have c04 := (((c0.trans c1).trans c2).trans c3).trans c4
    refine ⟨p8, e, _, _, rfl, rfl, c04 _ _ (dr.same _ _ hp), upd_same, room lz (k := 8) (by decide) rfl, fun p9 fp9 => ?_⟩
    have c5 := same_new (o := .lst (zs.map V.str ++ [V.int 0, V.int 9999, V.int (-1), V.bl false, V.ref t0, V.ref t1, V.ref d1, V.ref l1])) fp9
    refine ⟨rfl, fun pf fs H' sf ff ef lf of => ?_⟩
    refine ⟨p9, pf, _, _, rfl, rfl, sf _ _ upd_same, ef, ?_, fun p10 fp10 => ?_⟩
    · have := room lz (N := 109) (k := 28) (M := 28) (by decide) rfl
      rw [List.length_append]
      show (zs.map V.str).length + 8 + fs.length ≤ sizeLine
      omega
    obtain ⟨xs, ex⟩ : ∃ xs : List V, xs = zs.map V.str ++ [V.int 0, V.int 9999, V.int (-1), V.bl false, V.ref t0, V.ref t1, V.ref d1, V.ref l1] ++ fs := ⟨_, rfl⟩
    have c6 := same_new (o := .lst xs) fp10
    have odd : ∀ x ∈ xs, ∃ ty, Od (upd H' p10 (.lst xs)) x ty := by
      intro x hx
      rw [ex] at hx
      rcases List.mem_append.mp hx with hx | hx
      · rcases List.mem_append.mp hx with hx | hx
        · obtain ⟨z, hz, rfl⟩ := List.mem_map.mp hx
          exact ⟨_, .str (tz z hz)⟩
        · have up := ((c4.trans c5).trans sf).trans c6
          simp only [List.mem_cons, List.not_mem_nil, or_false] at hx
          rcases hx with rfl | rfl | rfl | rfl | rfl | rfl | rfl | rfl
          · exact ⟨_, .int _⟩
          · exact ⟨_, .int _⟩
          · exact ⟨_, .int _⟩
          · exact ⟨_, .bl _⟩
          · exact ⟨_, (Od.tup upd_same).mono (((c1.trans c2).trans c3).trans up)⟩
          · exact ⟨_, (Od.tup upd_same).mono ((c2.trans c3).trans up)⟩
          · exact ⟨_, (Od.dK upd_same).mono (c3.trans up)⟩
          · exact ⟨_, (Od.lst upd_same).mono up⟩
      · obtain ⟨ty, o⟩ := of x hx
        exact ⟨ty, o.mono c6⟩
    have dr10 := dr.keep (((c04.trans c5).trans sf).trans c6)
    rw [ex] at odd dr10 c6
    refine ⟨p10, rfl, ⟨_, SqL.of upd_same⟩, for_list (K := K) (a := p10) (xs := zs.map V.str ++ [V.int 0, V.int 9999, V.int (-1), V.bl false, V.ref t0, V.ref t1, V.ref d1, V.ref l1] ++ fs) (fun i σ H3 => ∃ v3 v4 : Option V, σ = [some (.ref a), some (.ref d), some (.ref p8), v3, v4] ∧ Same (upd H' p10 (.lst (zs.map V.str ++ [V.int 0, V.int 9999, V.int (-1), V.bl false, V.ref t0, V.ref t1, V.ref d1, V.ref l1] ++ fs))) H3) ⟨none, none, rfl, Same.refl _⟩ (fun i σ H3 _ ⟨_, _, _, s3⟩ => SqL.of (s3 _ _ upd_same)) ?_ ?_⟩
    · rintro i x σ H3 hx ⟨v3, v4, rfl, s3⟩
      obtain ⟨ty, o⟩ := odd x (List.mem_of_getElem? hx)
      refine ⟨_, rfl, x, ty, rfl, o.mono s3, fun H4 s4 => ⟨_, rfl, ?_⟩⟩
      exact ⟨_, _, rfl, s3.trans s4⟩
    · rintro σ H3 ⟨v3, v4, rfl, s3⟩
      have dr3 := dr10.keep s3
      refine ⟨4, rfl, by decide, by decide, fun D fD => lc_range (lo := 0) (n := 4) (fun i H2 => Dr (upd H0 D (.lst ((List.replicate i true).map V.bl))) H2 d (900000 + 2 * (4 - i))) ((dr3.new _ fD).less (by decide)) ?_ ?_⟩
      · rintro i H4 lt dri
        refine ⟨rfl, ?_⟩
        refine ⟨_, rfl, d, _, 900000 + 2 * (4 - (i + 1)), rfl, dri.less (by omega), fun H5 dr5 => ?_⟩
        refine ⟨_, dr5.told, small1000 (by simp; omega), ?_⟩
        have d9 := dr5.put (.lst ((List.replicate i true).map V.bl ++ [.bl true])) (.inr ⟨_, upd_same⟩)
        rw [upd_upd] at d9
        rw [show List.replicate (i + 1) true = List.replicate i true ++ [true] from List.replicate_succ', List.map_append]
        exact d9
      · intro H4 dr4
        exact ⟨D, _, rfl, .inl (.inl dr4.told), q H4⟩
end
end K

set_option maxRecDepth 100000
set_option maxHeartbeats 4000000
namespace K
open PySem PySem.Spec PyProof.Rows L2 Gd
local macro_rules | `(tactic| walk_at "mulok") => `(tactic| first | exact Or.inr ⟨by decide, by decide⟩ | exact Or.inl ⟨by decide, by decide⟩ | exact Or.inr ⟨by omega, by omega⟩ | exact Or.inl ⟨by omega, by omega⟩)
local macro_rules | `(tactic| walk_at "st") => `(tactic| first
  | refine ⟨_, rfl, ?_⟩
  | refine ⟨_, _, rfl, rfl, (by walk_at "mulok"), ?_⟩
  | refine ⟨_, _, rfl, rfl, (by show (0 : Int) < _; decide), ?_⟩
  | refine ⟨_, _, rfl, rfl, ⟨by decide, by decide⟩, ?_⟩
  | refine ⟨_, _, rfl, rfl, ?_⟩)
def txt_mk {K : PySem.W.Frag} {h : Heap} {mg : PySem.Str → Option Value} (X : K.In h) (G : h.Ns mainGlobals mg)
    {t_MOST_FIGURES : Tok}
    {t_MOST_LETTERS : Tok}
    {a_NO_NAMES : Addr} {t_NO_NAMES_0 t_NO_NAMES_1 t_NO_NAMES_2 t_NO_NAMES_3 t_NO_NAMES_4 t_NO_NAMES_5 t_NO_NAMES_6 t_NO_NAMES_7 t_NO_NAMES_8 t_NO_NAMES_9 : Tok} {dd_NO_NAMES : Option Addr} {nn_NO_NAMES : Nat} {sl_NO_NAMES : Array (Option Value)}
    {f_is_whole : Addr} {od_is_whole an_is_whole : Option Addr} {sl_is_whole : Array (Option Value)} {oc_is_whole kV_is_whole dc_is_whole pm_is_whole cd_is_whole ct_is_whole : Value}
    {D_is_whole : Addr} {u_is_whole_0 : Tok} {dd_is_whole : Option Addr} {nn_is_whole : Nat} {sd_is_whole : Array (Option Value)} {oc2_is_whole : Value}
    {f_is_name : Addr} {od_is_name an_is_name : Option Addr} {sl_is_name : Array (Option Value)} {oc_is_name kV_is_name dc_is_name pm_is_name cd_is_name ct_is_name : Value}
    {f_number_of : Addr} {od_number_of an_number_of : Option Addr} {sl_number_of : Array (Option Value)} {oc_number_of kV_number_of dc_number_of pm_number_of cd_number_of ct_number_of : Value}
    {f_words_of : Addr} {od_words_of an_words_of : Option Addr} {sl_words_of : Array (Option Value)} {oc_words_of kV_words_of dc_words_of pm_words_of cd_words_of ct_words_of : Value}
    {f_law_mixed : Addr} {od_law_mixed an_law_mixed : Option Addr} {sl_law_mixed : Array (Option Value)} {oc_law_mixed kV_law_mixed dc_law_mixed pm_law_mixed cd_law_mixed ct_law_mixed : Value}
    {f_law_folded : Addr} {od_law_folded an_law_folded : Option Addr} {sl_law_folded : Array (Option Value)} {oc_law_folded kV_law_folded dc_law_folded pm_law_folded cd_law_folded ct_law_folded : Value}
    {f_law_draw : Addr} {od_law_draw an_law_draw : Option Addr} {sl_law_draw : Array (Option Value)} {oc_law_draw kV_law_draw dc_law_draw pm_law_draw cd_law_draw ct_law_draw : Value}
    {f_law_begun : Addr} {od_law_begun an_law_begun : Option Addr} {sl_law_begun : Array (Option Value)} {oc_law_begun kV_law_begun dc_law_begun pm_law_begun cd_law_begun ct_law_begun : Value}
    {f_law_called : Addr} {od_law_called an_law_called : Option Addr} {sl_law_called : Array (Option Value)} {oc_law_called kV_law_called dc_law_called pm_law_called cd_law_called ct_law_called : Value}
    {f_law_whole : Addr} {od_law_whole an_law_whole : Option Addr} {sl_law_whole : Array (Option Value)} {oc_law_whole kV_law_whole dc_law_whole pm_law_whole cd_law_whole ct_law_whole : Value}
    {f_law_is_name : Addr} {od_law_is_name an_law_is_name : Option Addr} {sl_law_is_name : Array (Option Value)} {oc_law_is_name kV_law_is_name dc_law_is_name pm_law_is_name cd_law_is_name ct_law_is_name : Value}
    {f_law_number : Addr} {od_law_number an_law_number : Option Addr} {sl_law_number : Array (Option Value)} {oc_law_number kV_law_number dc_law_number pm_law_number cd_law_number ct_law_number : Value}
    {f_law_parted : Addr} {od_law_parted an_law_parted : Option Addr} {sl_law_parted : Array (Option Value)} {oc_law_parted kV_law_parted dc_law_parted pm_law_parted cd_law_parted ct_law_parted : Value}
    {f_law_signed : Addr} {od_law_signed an_law_signed : Option Addr} {sl_law_signed : Array (Option Value)} {oc_law_signed kV_law_signed dc_law_signed pm_law_signed cd_law_signed ct_law_signed : Value}
    {f_law_far : Addr} {od_law_far an_law_far : Option Addr} {sl_law_far : Array (Option Value)} {oc_law_far kV_law_far dc_law_far pm_law_far cd_law_far ct_law_far : Value}
    {f_law_right : Addr} {od_law_right an_law_right : Option Addr} {sl_law_right : Array (Option Value)} {oc_law_right kV_law_right dc_law_right pm_law_right cd_law_right ct_law_right : Value}
    {f_law_whole_right : Addr} {od_law_whole_right an_law_whole_right : Option Addr} {sl_law_whole_right : Array (Option Value)} {oc_law_whole_right kV_law_whole_right dc_law_whole_right pm_law_whole_right cd_law_whole_right ct_law_whole_right : Value}
    {f_law : Addr} {od_law an_law : Option Addr} {sl_law : Array (Option Value)} {oc_law kV_law dc_law pm_law cd_law ct_law : Value}
    (z_all : PySem.W.nsIn K mainGlobals "all" = some none)
    (z_bool : PySem.W.nsIn K mainGlobals "bool" = some none)
    (z_enumerate : PySem.W.nsIn K mainGlobals "enumerate" = some none)
    (z_int : PySem.W.nsIn K mainGlobals "int" = some none)
    (z_isinstance : PySem.W.nsIn K mainGlobals "isinstance" = some none)
    (z_len : PySem.W.nsIn K mainGlobals "len" = some none)
    (z_range : PySem.W.nsIn K mainGlobals "range" = some none)
    (z_repr : PySem.W.nsIn K mainGlobals "repr" = some none)
    (z_str : PySem.W.nsIn K mainGlobals "str" = some none)
    (z_type : PySem.W.nsIn K mainGlobals "type" = some none)
    (y_MOST_FIGURES : PySem.W.nsIn K mainGlobals "MOST_FIGURES" = some (some (.int 7 t_MOST_FIGURES)))
    (y_MOST_LETTERS : PySem.W.nsIn K mainGlobals "MOST_LETTERS" = some (some (.int 8 t_MOST_LETTERS)))
    (y_NO_NAMES : PySem.W.nsIn K mainGlobals "NO_NAMES" = some (some (.ref a_NO_NAMES)))
    (x_NO_NAMES : K.lookup a_NO_NAMES = some ⟨.type "tuple", dd_NO_NAMES, .seq #[.str "style" t_NO_NAMES_0, .str "job" t_NO_NAMES_1, .str "round" t_NO_NAMES_2, .str "sew" t_NO_NAMES_3, .str "glue" t_NO_NAMES_4, .str "cover" t_NO_NAMES_5, .str "letter" t_NO_NAMES_6, .str "press" t_NO_NAMES_7, .str "hand" t_NO_NAMES_8, .str "haste" t_NO_NAMES_9] nn_NO_NAMES, sl_NO_NAMES⟩)
    (a_is_whole : PySem.W.nsIn K mainGlobals "is_whole" = some (some (.ref f_is_whole)))
    (l_is_whole : K.lookup f_is_whole = some ⟨oc_is_whole, od_is_whole, .func (PySem.W.fnOf "is_whole" "is_whole" (defArgs s_is_whole) (defBody s_is_whole) (defScope s_is_whole) (.ref D_is_whole) kV_is_whole dc_is_whole pm_is_whole an_is_whole cd_is_whole ct_is_whole), sl_is_whole⟩)
    (c_is_whole : PySem.W.codeIn K cd_is_whole "is_whole" = true)
    (k_is_whole : PySem.W.keepIn K (.ref f_is_whole) = true)
    (x_is_whole : K.lookup D_is_whole = some ⟨oc2_is_whole, dd_is_whole, .seq #[.int 1000000 u_is_whole_0] nn_is_whole, sd_is_whole⟩)
    (a_is_name : PySem.W.nsIn K mainGlobals "is_name" = some (some (.ref f_is_name)))
    (l_is_name : K.lookup f_is_name = some ⟨oc_is_name, od_is_name, .func (PySem.W.fnOf "is_name" "is_name" (defArgs s_is_name) (defBody s_is_name) (defScope s_is_name) .none kV_is_name dc_is_name pm_is_name an_is_name cd_is_name ct_is_name), sl_is_name⟩)
    (c_is_name : PySem.W.codeIn K cd_is_name "is_name" = true)
    (k_is_name : PySem.W.keepIn K (.ref f_is_name) = true)
    (a_number_of : PySem.W.nsIn K mainGlobals "number_of" = some (some (.ref f_number_of)))
    (l_number_of : K.lookup f_number_of = some ⟨oc_number_of, od_number_of, .func (PySem.W.fnOf "number_of" "number_of" (defArgs s_number_of) (defBody s_number_of) (defScope s_number_of) .none kV_number_of dc_number_of pm_number_of an_number_of cd_number_of ct_number_of), sl_number_of⟩)
    (c_number_of : PySem.W.codeIn K cd_number_of "number_of" = true)
    (k_number_of : PySem.W.keepIn K (.ref f_number_of) = true)
    (a_words_of : PySem.W.nsIn K mainGlobals "words_of" = some (some (.ref f_words_of)))
    (l_words_of : K.lookup f_words_of = some ⟨oc_words_of, od_words_of, .func (PySem.W.fnOf "words_of" "words_of" (defArgs s_words_of) (defBody s_words_of) (defScope s_words_of) .none kV_words_of dc_words_of pm_words_of an_words_of cd_words_of ct_words_of), sl_words_of⟩)
    (c_words_of : PySem.W.codeIn K cd_words_of "words_of" = true)
    (k_words_of : PySem.W.keepIn K (.ref f_words_of) = true)
    (a_law_mixed : PySem.W.nsIn K mainGlobals "_law_mixed" = some (some (.ref f_law_mixed)))
    (l_law_mixed : K.lookup f_law_mixed = some ⟨oc_law_mixed, od_law_mixed, .func (PySem.W.fnOf "_law_mixed" "_law_mixed" (defArgs s_law_mixed) (defBody s_law_mixed) (defScope s_law_mixed) .none kV_law_mixed dc_law_mixed pm_law_mixed an_law_mixed cd_law_mixed ct_law_mixed), sl_law_mixed⟩)
    (c_law_mixed : PySem.W.codeIn K cd_law_mixed "_law_mixed" = true)
    (k_law_mixed : PySem.W.keepIn K (.ref f_law_mixed) = true)
    (a_law_folded : PySem.W.nsIn K mainGlobals "_law_folded" = some (some (.ref f_law_folded)))
    (l_law_folded : K.lookup f_law_folded = some ⟨oc_law_folded, od_law_folded, .func (PySem.W.fnOf "_law_folded" "_law_folded" (defArgs s_law_folded) (defBody s_law_folded) (defScope s_law_folded) .none kV_law_folded dc_law_folded pm_law_folded an_law_folded cd_law_folded ct_law_folded), sl_law_folded⟩)
    (c_law_folded : PySem.W.codeIn K cd_law_folded "_law_folded" = true)
    (k_law_folded : PySem.W.keepIn K (.ref f_law_folded) = true)
    (a_law_draw : PySem.W.nsIn K mainGlobals "_law_draw" = some (some (.ref f_law_draw)))
    (l_law_draw : K.lookup f_law_draw = some ⟨oc_law_draw, od_law_draw, .func (PySem.W.fnOf "_law_draw" "_law_draw" (defArgs s_law_draw) (defBody s_law_draw) (defScope s_law_draw) .none kV_law_draw dc_law_draw pm_law_draw an_law_draw cd_law_draw ct_law_draw), sl_law_draw⟩)
    (c_law_draw : PySem.W.codeIn K cd_law_draw "_law_draw" = true)
    (k_law_draw : PySem.W.keepIn K (.ref f_law_draw) = true)
    (a_law_begun : PySem.W.nsIn K mainGlobals "_law_begun" = some (some (.ref f_law_begun)))
    (l_law_begun : K.lookup f_law_begun = some ⟨oc_law_begun, od_law_begun, .func (PySem.W.fnOf "_law_begun" "_law_begun" (defArgs s_law_begun) (defBody s_law_begun) (defScope s_law_begun) .none kV_law_begun dc_law_begun pm_law_begun an_law_begun cd_law_begun ct_law_begun), sl_law_begun⟩)
    (c_law_begun : PySem.W.codeIn K cd_law_begun "_law_begun" = true)
    (k_law_begun : PySem.W.keepIn K (.ref f_law_begun) = true)
    (a_law_called : PySem.W.nsIn K mainGlobals "_law_called" = some (some (.ref f_law_called)))
    (l_law_called : K.lookup f_law_called = some ⟨oc_law_called, od_law_called, .func (PySem.W.fnOf "_law_called" "_law_called" (defArgs s_law_called) (defBody s_law_called) (defScope s_law_called) .none kV_law_called dc_law_called pm_law_called an_law_called cd_law_called ct_law_called), sl_law_called⟩)
    (c_law_called : PySem.W.codeIn K cd_law_called "_law_called" = true)
    (k_law_called : PySem.W.keepIn K (.ref f_law_called) = true)
    (a_law_whole : PySem.W.nsIn K mainGlobals "_law_whole" = some (some (.ref f_law_whole)))
    (l_law_whole : K.lookup f_law_whole = some ⟨oc_law_whole, od_law_whole, .func (PySem.W.fnOf "_law_whole" "_law_whole" (defArgs s_law_whole) (defBody s_law_whole) (defScope s_law_whole) .none kV_law_whole dc_law_whole pm_law_whole an_law_whole cd_law_whole ct_law_whole), sl_law_whole⟩)
    (c_law_whole : PySem.W.codeIn K cd_law_whole "_law_whole" = true)
    (k_law_whole : PySem.W.keepIn K (.ref f_law_whole) = true)
    (a_law_is_name : PySem.W.nsIn K mainGlobals "_law_is_name" = some (some (.ref f_law_is_name)))
    (l_law_is_name : K.lookup f_law_is_name = some ⟨oc_law_is_name, od_law_is_name, .func (PySem.W.fnOf "_law_is_name" "_law_is_name" (defArgs s_law_is_name) (defBody s_law_is_name) (defScope s_law_is_name) .none kV_law_is_name dc_law_is_name pm_law_is_name an_law_is_name cd_law_is_name ct_law_is_name), sl_law_is_name⟩)
    (c_law_is_name : PySem.W.codeIn K cd_law_is_name "_law_is_name" = true)
    (k_law_is_name : PySem.W.keepIn K (.ref f_law_is_name) = true)
    (a_law_number : PySem.W.nsIn K mainGlobals "_law_number" = some (some (.ref f_law_number)))
    (l_law_number : K.lookup f_law_number = some ⟨oc_law_number, od_law_number, .func (PySem.W.fnOf "_law_number" "_law_number" (defArgs s_law_number) (defBody s_law_number) (defScope s_law_number) .none kV_law_number dc_law_number pm_law_number an_law_number cd_law_number ct_law_number), sl_law_number⟩)
    (c_law_number : PySem.W.codeIn K cd_law_number "_law_number" = true)
    (k_law_number : PySem.W.keepIn K (.ref f_law_number) = true)
    (a_law_parted : PySem.W.nsIn K mainGlobals "_law_parted" = some (some (.ref f_law_parted)))
    (l_law_parted : K.lookup f_law_parted = some ⟨oc_law_parted, od_law_parted, .func (PySem.W.fnOf "_law_parted" "_law_parted" (defArgs s_law_parted) (defBody s_law_parted) (defScope s_law_parted) .none kV_law_parted dc_law_parted pm_law_parted an_law_parted cd_law_parted ct_law_parted), sl_law_parted⟩)
    (c_law_parted : PySem.W.codeIn K cd_law_parted "_law_parted" = true)
    (k_law_parted : PySem.W.keepIn K (.ref f_law_parted) = true)
    (a_law_signed : PySem.W.nsIn K mainGlobals "_law_signed" = some (some (.ref f_law_signed)))
    (l_law_signed : K.lookup f_law_signed = some ⟨oc_law_signed, od_law_signed, .func (PySem.W.fnOf "_law_signed" "_law_signed" (defArgs s_law_signed) (defBody s_law_signed) (defScope s_law_signed) .none kV_law_signed dc_law_signed pm_law_signed an_law_signed cd_law_signed ct_law_signed), sl_law_signed⟩)
    (c_law_signed : PySem.W.codeIn K cd_law_signed "_law_signed" = true)
    (k_law_signed : PySem.W.keepIn K (.ref f_law_signed) = true)
    (a_law_far : PySem.W.nsIn K mainGlobals "_law_far" = some (some (.ref f_law_far)))
    (l_law_far : K.lookup f_law_far = some ⟨oc_law_far, od_law_far, .func (PySem.W.fnOf "_law_far" "_law_far" (defArgs s_law_far) (defBody s_law_far) (defScope s_law_far) .none kV_law_far dc_law_far pm_law_far an_law_far cd_law_far ct_law_far), sl_law_far⟩)
    (c_law_far : PySem.W.codeIn K cd_law_far "_law_far" = true)
    (k_law_far : PySem.W.keepIn K (.ref f_law_far) = true)
    (a_law_right : PySem.W.nsIn K mainGlobals "_law_right" = some (some (.ref f_law_right)))
    (l_law_right : K.lookup f_law_right = some ⟨oc_law_right, od_law_right, .func (PySem.W.fnOf "_law_right" "_law_right" (defArgs s_law_right) (defBody s_law_right) (defScope s_law_right) .none kV_law_right dc_law_right pm_law_right an_law_right cd_law_right ct_law_right), sl_law_right⟩)
    (c_law_right : PySem.W.codeIn K cd_law_right "_law_right" = true)
    (k_law_right : PySem.W.keepIn K (.ref f_law_right) = true)
    (a_law_whole_right : PySem.W.nsIn K mainGlobals "_law_whole_right" = some (some (.ref f_law_whole_right)))
    (l_law_whole_right : K.lookup f_law_whole_right = some ⟨oc_law_whole_right, od_law_whole_right, .func (PySem.W.fnOf "_law_whole_right" "_law_whole_right" (defArgs s_law_whole_right) (defBody s_law_whole_right) (defScope s_law_whole_right) .none kV_law_whole_right dc_law_whole_right pm_law_whole_right an_law_whole_right cd_law_whole_right ct_law_whole_right), sl_law_whole_right⟩)
    (c_law_whole_right : PySem.W.codeIn K cd_law_whole_right "_law_whole_right" = true)
    (k_law_whole_right : PySem.W.keepIn K (.ref f_law_whole_right) = true)
    (a_law : PySem.W.nsIn K mainGlobals "law" = some (some (.ref f_law)))
    (l_law : K.lookup f_law = some ⟨oc_law, od_law, .func (PySem.W.fnOf "law" "law" (defArgs s_law) (defBody s_law) (defScope s_law) .none kV_law dc_law pm_law an_law cd_law ct_law), sl_law⟩)
    (c_law : PySem.W.codeIn K cd_law "law" = true)
    (k_law : PySem.W.keepIn K (.ref f_law) = true) : Txt mg K :=
  { n_all := PySem.W.mg_none_of X G z_all,
    n_bool := PySem.W.mg_none_of X G z_bool,
    n_enumerate := PySem.W.mg_none_of X G z_enumerate,
    n_int := PySem.W.mg_none_of X G z_int,
    n_isinstance := PySem.W.mg_none_of X G z_isinstance,
    n_len := PySem.W.mg_none_of X G z_len,
    n_range := PySem.W.mg_none_of X G z_range,
    n_repr := PySem.W.mg_none_of X G z_repr,
    n_str := PySem.W.mg_none_of X G z_str,
    n_type := PySem.W.mg_none_of X G z_type,
    t_MOST_FIGURES := t_MOST_FIGURES,
    c_MOST_FIGURES := PySem.W.mg_of X G y_MOST_FIGURES,
    t_MOST_LETTERS := t_MOST_LETTERS,
    c_MOST_LETTERS := PySem.W.mg_of X G y_MOST_LETTERS,
    a_NO_NAMES := a_NO_NAMES,
    c_NO_NAMES := PySem.W.mg_of X G y_NO_NAMES,
    q_NO_NAMES := fun H => .inr ⟨_, _, _, x_NO_NAMES, rfl, rfl, by show 10 ≤ sizeLine; decide, .cons ⟨t_NO_NAMES_0, rfl⟩ (.cons ⟨t_NO_NAMES_1, rfl⟩ (.cons ⟨t_NO_NAMES_2, rfl⟩ (.cons ⟨t_NO_NAMES_3, rfl⟩ (.cons ⟨t_NO_NAMES_4, rfl⟩ (.cons ⟨t_NO_NAMES_5, rfl⟩ (.cons ⟨t_NO_NAMES_6, rfl⟩ (.cons ⟨t_NO_NAMES_7, rfl⟩ (.cons ⟨t_NO_NAMES_8, rfl⟩ (.cons ⟨t_NO_NAMES_9, rfl⟩ (.nil))))))))))⟩,
    f_is_whole := f_is_whole,
    fd_is_whole := PySem.W.fnOf "is_whole" "is_whole" (defArgs s_is_whole) (defBody s_is_whole) (defScope s_is_whole) (.ref D_is_whole) kV_is_whole dc_is_whole pm_is_whole an_is_whole cd_is_whole ct_is_whole,
    F_is_whole := ⟨⟨oc_is_whole, od_is_whole, _, kV_is_whole, dc_is_whole, pm_is_whole, an_is_whole, cd_is_whole, ct_is_whole, sl_is_whole, rfl, l_is_whole, c_is_whole, .inr ⟨by simp, D_is_whole, _, _, _, rfl, x_is_whole, rfl, .cons ⟨u_is_whole_0, rfl⟩ (.nil)⟩, .inl rfl⟩, k_is_whole⟩,
    g_is_whole := PySem.W.mg_of X G a_is_whole,
    f_is_name := f_is_name,
    fd_is_name := PySem.W.fnOf "is_name" "is_name" (defArgs s_is_name) (defBody s_is_name) (defScope s_is_name) .none kV_is_name dc_is_name pm_is_name an_is_name cd_is_name ct_is_name,
    F_is_name := fun_mk (st := s_is_name) l_is_name c_is_name k_is_name,
    g_is_name := PySem.W.mg_of X G a_is_name,
    f_number_of := f_number_of,
    fd_number_of := PySem.W.fnOf "number_of" "number_of" (defArgs s_number_of) (defBody s_number_of) (defScope s_number_of) .none kV_number_of dc_number_of pm_number_of an_number_of cd_number_of ct_number_of,
    F_number_of := fun_mk (st := s_number_of) l_number_of c_number_of k_number_of,
    g_number_of := PySem.W.mg_of X G a_number_of,
    f_words_of := f_words_of,
    fd_words_of := PySem.W.fnOf "words_of" "words_of" (defArgs s_words_of) (defBody s_words_of) (defScope s_words_of) .none kV_words_of dc_words_of pm_words_of an_words_of cd_words_of ct_words_of,
    F_words_of := fun_mk (st := s_words_of) l_words_of c_words_of k_words_of,
    g_words_of := PySem.W.mg_of X G a_words_of,
    f_law_mixed := f_law_mixed,
    fd_law_mixed := PySem.W.fnOf "_law_mixed" "_law_mixed" (defArgs s_law_mixed) (defBody s_law_mixed) (defScope s_law_mixed) .none kV_law_mixed dc_law_mixed pm_law_mixed an_law_mixed cd_law_mixed ct_law_mixed,
    F_law_mixed := fun_mk (st := s_law_mixed) l_law_mixed c_law_mixed k_law_mixed,
    g_law_mixed := PySem.W.mg_of X G a_law_mixed,
    f_law_folded := f_law_folded,
    fd_law_folded := PySem.W.fnOf "_law_folded" "_law_folded" (defArgs s_law_folded) (defBody s_law_folded) (defScope s_law_folded) .none kV_law_folded dc_law_folded pm_law_folded an_law_folded cd_law_folded ct_law_folded,
    F_law_folded := fun_mk (st := s_law_folded) l_law_folded c_law_folded k_law_folded,
    g_law_folded := PySem.W.mg_of X G a_law_folded,
    f_law_draw := f_law_draw,
    fd_law_draw := PySem.W.fnOf "_law_draw" "_law_draw" (defArgs s_law_draw) (defBody s_law_draw) (defScope s_law_draw) .none kV_law_draw dc_law_draw pm_law_draw an_law_draw cd_law_draw ct_law_draw,
    F_law_draw := fun_mk (st := s_law_draw) l_law_draw c_law_draw k_law_draw,
    g_law_draw := PySem.W.mg_of X G a_law_draw,
    f_law_begun := f_law_begun,
    fd_law_begun := PySem.W.fnOf "_law_begun" "_law_begun" (defArgs s_law_begun) (defBody s_law_begun) (defScope s_law_begun) .none kV_law_begun dc_law_begun pm_law_begun an_law_begun cd_law_begun ct_law_begun,
    F_law_begun := fun_mk (st := s_law_begun) l_law_begun c_law_begun k_law_begun,
    g_law_begun := PySem.W.mg_of X G a_law_begun,
    f_law_called := f_law_called,
    fd_law_called := PySem.W.fnOf "_law_called" "_law_called" (defArgs s_law_called) (defBody s_law_called) (defScope s_law_called) .none kV_law_called dc_law_called pm_law_called an_law_called cd_law_called ct_law_called,
    F_law_called := fun_mk (st := s_law_called) l_law_called c_law_called k_law_called,
    g_law_called := PySem.W.mg_of X G a_law_called,
    f_law_whole := f_law_whole,
    fd_law_whole := PySem.W.fnOf "_law_whole" "_law_whole" (defArgs s_law_whole) (defBody s_law_whole) (defScope s_law_whole) .none kV_law_whole dc_law_whole pm_law_whole an_law_whole cd_law_whole ct_law_whole,
    F_law_whole := fun_mk (st := s_law_whole) l_law_whole c_law_whole k_law_whole,
    g_law_whole := PySem.W.mg_of X G a_law_whole,
    f_law_is_name := f_law_is_name,
    fd_law_is_name := PySem.W.fnOf "_law_is_name" "_law_is_name" (defArgs s_law_is_name) (defBody s_law_is_name) (defScope s_law_is_name) .none kV_law_is_name dc_law_is_name pm_law_is_name an_law_is_name cd_law_is_name ct_law_is_name,
    F_law_is_name := fun_mk (st := s_law_is_name) l_law_is_name c_law_is_name k_law_is_name,
    g_law_is_name := PySem.W.mg_of X G a_law_is_name,
    f_law_number := f_law_number,
    fd_law_number := PySem.W.fnOf "_law_number" "_law_number" (defArgs s_law_number) (defBody s_law_number) (defScope s_law_number) .none kV_law_number dc_law_number pm_law_number an_law_number cd_law_number ct_law_number,
    F_law_number := fun_mk (st := s_law_number) l_law_number c_law_number k_law_number,
    g_law_number := PySem.W.mg_of X G a_law_number,
    f_law_parted := f_law_parted,
    fd_law_parted := PySem.W.fnOf "_law_parted" "_law_parted" (defArgs s_law_parted) (defBody s_law_parted) (defScope s_law_parted) .none kV_law_parted dc_law_parted pm_law_parted an_law_parted cd_law_parted ct_law_parted,
    F_law_parted := fun_mk (st := s_law_parted) l_law_parted c_law_parted k_law_parted,
    g_law_parted := PySem.W.mg_of X G a_law_parted,
    f_law_signed := f_law_signed,
    fd_law_signed := PySem.W.fnOf "_law_signed" "_law_signed" (defArgs s_law_signed) (defBody s_law_signed) (defScope s_law_signed) .none kV_law_signed dc_law_signed pm_law_signed an_law_signed cd_law_signed ct_law_signed,
    F_law_signed := fun_mk (st := s_law_signed) l_law_signed c_law_signed k_law_signed,
    g_law_signed := PySem.W.mg_of X G a_law_signed,
    f_law_far := f_law_far,
    fd_law_far := PySem.W.fnOf "_law_far" "_law_far" (defArgs s_law_far) (defBody s_law_far) (defScope s_law_far) .none kV_law_far dc_law_far pm_law_far an_law_far cd_law_far ct_law_far,
    F_law_far := fun_mk (st := s_law_far) l_law_far c_law_far k_law_far,
    g_law_far := PySem.W.mg_of X G a_law_far,
    f_law_right := f_law_right,
    fd_law_right := PySem.W.fnOf "_law_right" "_law_right" (defArgs s_law_right) (defBody s_law_right) (defScope s_law_right) .none kV_law_right dc_law_right pm_law_right an_law_right cd_law_right ct_law_right,
    F_law_right := fun_mk (st := s_law_right) l_law_right c_law_right k_law_right,
    g_law_right := PySem.W.mg_of X G a_law_right,
    f_law_whole_right := f_law_whole_right,
    fd_law_whole_right := PySem.W.fnOf "_law_whole_right" "_law_whole_right" (defArgs s_law_whole_right) (defBody s_law_whole_right) (defScope s_law_whole_right) .none kV_law_whole_right dc_law_whole_right pm_law_whole_right an_law_whole_right cd_law_whole_right ct_law_whole_right,
    F_law_whole_right := fun_mk (st := s_law_whole_right) l_law_whole_right c_law_whole_right k_law_whole_right,
    g_law_whole_right := PySem.W.mg_of X G a_law_whole_right,
    f_law := f_law,
    fd_law := PySem.W.fnOf "law" "law" (defArgs s_law) (defBody s_law) (defScope s_law) .none kV_law dc_law pm_law an_law cd_law ct_law,
    F_law := fun_mk (st := s_law) l_law c_law k_law,
    g_law := PySem.W.mg_of X G a_law }

theorem law_fin {l : PySem.W.OpenLaw} {w : World} {K : PySem.W.Frag} {mg : PySem.Str → Option Value} {fa : Addr} (hfa : mg "law" = some (.ref fa)) (T : Txt mg K) :
    ∃ fd : FuncData, (∀ (s : Shared) (u : Value), BindsTo s fd ⟨[u], []⟩ [("script", u)]) ∧ ∀ base : Heap, K.In base → base.Ns mainGlobals mg → FnG l.prog w K mg base 4 fa fd ["script"] (spLaw K) := by
  have e := hfa.symm.trans T.g_law
  cases e
  refine ⟨T.fd_law, fun s u => ?_, fun base _ _ => ok_law T⟩
  obtain ⟨oc, od, kV, doc, pm, an, cdv, ct, osl, efd, _, _⟩ := T.F_law.ex
  rw [efd]
  exact .of_eq rfl
end K
open PySem PySem.W PyProof.Rows in
set_option maxRecDepth 100000 in
set_option maxHeartbeats 0 in
theorem PySem.Challenge.cw_bindbench_k01_words_holds : PySem.Challenge.rw_bindbench_k01_words.Holds := by
  w_on; o_law; k_head; (case hw => w_witness2)
  k_fill
  refine Gd.walkG (l := PySem.Challenge.rw_bindbench_k01_words) (n := 63) (k := 4) (x := "script") (sp := fun w => K.spLaw _) rfl (by decide) rfl ⟨rfl, by decide, by decide⟩ (fun w h Y => PySem.W.kIn_of Y) ?F (fun _ _ a ns hl hS _ => ⟨a, ns, rfl, hS, hl, fun _ => rfl⟩)
  case F =>
    intro w mg fa h KX G hmg
    refine' K.law_fin hmg (K.txt_mk KX G ?z_all ?z_bool ?z_enumerate ?z_int ?z_isinstance ?z_len ?z_range ?z_repr ?z_str ?z_type ?y_MOST_FIGURES ?y_MOST_LETTERS ?y_NO_NAMES ?x_NO_NAMES ?a_is_whole ?l_is_whole ?c_is_whole ?k_is_whole ?x_is_whole ?a_is_name ?l_is_name ?c_is_name ?k_is_name ?a_number_of ?l_number_of ?c_number_of ?k_number_of ?a_words_of ?l_words_of ?c_words_of ?k_words_of ?a_law_mixed ?l_law_mixed ?c_law_mixed ?k_law_mixed ?a_law_folded ?l_law_folded ?c_law_folded ?k_law_folded ?a_law_draw ?l_law_draw ?c_law_draw ?k_law_draw ?a_law_begun ?l_law_begun ?c_law_begun ?k_law_begun ?a_law_called ?l_law_called ?c_law_called ?k_law_called ?a_law_whole ?l_law_whole ?c_law_whole ?k_law_whole ?a_law_is_name ?l_law_is_name ?c_law_is_name ?k_law_is_name ?a_law_number ?l_law_number ?c_law_number ?k_law_number ?a_law_parted ?l_law_parted ?c_law_parted ?k_law_parted ?a_law_signed ?l_law_signed ?c_law_signed ?k_law_signed ?a_law_far ?l_law_far ?c_law_far ?k_law_far ?a_law_right ?l_law_right ?c_law_right ?k_law_right ?a_law_whole_right ?l_law_whole_right ?c_law_whole_right ?k_law_whole_right ?a_law ?l_law ?c_law ?k_law)
    (case z_all => k_is)
    (case z_bool => k_is)
    (case z_enumerate => k_is)
    (case z_int => k_is)
    (case z_isinstance => k_is)
    (case z_len => k_is)
    (case z_range => k_is)
    (case z_repr => k_is)
    (case z_str => k_is)
    (case z_type => k_is)
    (case y_MOST_FIGURES => k_is)
    (case y_MOST_LETTERS => k_is)
    (case y_NO_NAMES => k_is)
    (case x_NO_NAMES => k_is)
    (case a_is_whole => k_is)
    (case l_is_whole => k_is)
    (case c_is_whole => k_is)
    (case k_is_whole => k_is)
    (case x_is_whole => k_is)
    (case a_is_name => k_is)
    (case l_is_name => k_is)
    (case c_is_name => k_is)
    (case k_is_name => k_is)
    (case a_number_of => k_is)
    (case l_number_of => k_is)
    (case c_number_of => k_is)
    (case k_number_of => k_is)
    (case a_words_of => k_is)
    (case l_words_of => k_is)
    (case c_words_of => k_is)
    (case k_words_of => k_is)
    (case a_law_mixed => k_is)
    (case l_law_mixed => k_is)
    (case c_law_mixed => k_is)
    (case k_law_mixed => k_is)
    (case a_law_folded => k_is)
    (case l_law_folded => k_is)
    (case c_law_folded => k_is)
    (case k_law_folded => k_is)
    (case a_law_draw => k_is)
    (case l_law_draw => k_is)
    (case c_law_draw => k_is)
    (case k_law_draw => k_is)
    (case a_law_begun => k_is)
    (case l_law_begun => k_is)
    (case c_law_begun => k_is)
    (case k_law_begun => k_is)
    (case a_law_called => k_is)
    (case l_law_called => k_is)
    (case c_law_called => k_is)
    (case k_law_called => k_is)
    (case a_law_whole => k_is)
    (case l_law_whole => k_is)
    (case c_law_whole => k_is)
    (case k_law_whole => k_is)
    (case a_law_is_name => k_is)
    (case l_law_is_name => k_is)
    (case c_law_is_name => k_is)
    (case k_law_is_name => k_is)
    (case a_law_number => k_is)
    (case l_law_number => k_is)
    (case c_law_number => k_is)
    (case k_law_number => k_is)
    (case a_law_parted => k_is)
    (case l_law_parted => k_is)
    (case c_law_parted => k_is)
    (case k_law_parted => k_is)
    (case a_law_signed => k_is)
    (case l_law_signed => k_is)
    (case c_law_signed => k_is)
    (case k_law_signed => k_is)
    (case a_law_far => k_is)
    (case l_law_far => k_is)
    (case c_law_far => k_is)
    (case k_law_far => k_is)
    (case a_law_right => k_is)
    (case l_law_right => k_is)
    (case c_law_right => k_is)
    (case k_law_right => k_is)
    (case a_law_whole_right => k_is)
    (case l_law_whole_right => k_is)
    (case c_law_whole_right => k_is)
    (case k_law_whole_right => k_is)
    (case a_law => k_is)
    (case l_law => k_is)
    (case c_law => k_is)
    (case k_law => k_is)
