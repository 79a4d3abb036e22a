import PyProof.Rows.All
import Wide.All
import OpenK.AllK
import Wide.FinOn
import HandS.ForMost
import HandS.Exc
import HandS.TryOnly
import HandS.WordsExc
import HandS.CallSlots
import HandS.Deep
import HandS.Wide
import HandS.Gcd
import HandS.IsInst
import HandS.TupAny
import HandS.TupMul
import HandS.Zip
import HandS.Lambda
import HandS.Walk
import HandS.ExcInit
import HandS.ExcField
import HandS.TupLe
import HandS.Dict
import PyProof.ReprBulk
import HandS.Zip0
import HandS.TryMany
import HandS.Small
import PyProof.ReprLen
import HandS.Rev
import HandS.ExcIs
import KE.KExcIs
import HandS.Style
import HandS.SetFor
import HandS.More
import PyProof.EqAt
import PyProof.NeKinds
import KE.GoesNew
import PyProof.Rows.IntBool
import KE.DataMinMax
import PyProof.Rows.ReprOcc
import HandS.Conv
import PyProof.P3In
import PyProof.Rows.SortShellAny
import KE.KItemsList
import HandS.Flow
import HandS.EndTab
import PySem.Challenge.RW_wirebeats_k40_lines_counted
set_option Elab.async false
set_option linter.all false
set_option maxRecDepth 100000
set_option maxHeartbeats 4000000
/-! Wb, part 0: defs that are called where no repr is under way (FnG), their rule, their call, the law's head. -/
namespace Wb
open PySem PySem.Spec PyProof.Rows L2

/-- a def's promise, where no guard is under way -/
structure FnG (P : Program) (w : World) (K : PySem.W.Frag) (mg : Str → Option Value) (base : Heap) (k : Nat) (f : Addr) (fd : FuncData) (ps : List Str) (sp : Sp) : Prop where
  len : ∀ vs H Q E, sp vs H Q E → vs.length = ps.length
  go : ∀ (A : Around) (outer : List Env) (s : Shared) (H : Hp) (args : Args) (us : List Value) (vs : List V) (Q : VK) (E : XK),
    Room k A → A.guards = some [] → Env0 P w K mg base A outer s H →
    BindsTo s fd args (ps.zip us) → Vals vs us → sp vs H Q E →
    codeAny (model P w) A (.call (.ref f) args) (CR (L2.CX P w) outer P w H s Q E) s

section
variable {P : Program} {w : World} {K : PySem.W.Frag} {mg : Str → Option Value} {base : Heap}
theorem FnG.mono {j k : Nat} {f : Addr} {fd : FuncData} {ps : List Str} {sp : Sp} (F : FnG P w K mg base j f fd ps sp) (h : j ≤ k) :
    FnG P w K mg base k f fd ps sp :=
  ⟨F.len, fun A o s H a us vs Q E hr hg => F.go A o s H a us vs Q E (hr.mono h) hg⟩
theorem FnG.imp {k : Nat} {f : Addr} {fd : FuncData} {ps : List Str} {sp sp' : Sp} (F : FnG P w K mg base k f fd ps sp)
    (h : ∀ vs H Q E, sp' vs H Q E → sp vs H Q E) : FnG P w K mg base k f fd ps sp' :=
  ⟨fun vs H Q E q => F.len vs H Q E (h _ _ _ _ q), fun A o s H a us vs Q E hr hg he hb hv hs => F.go A o s H a us vs Q E hr hg he hb hv (h _ _ _ _ hs)⟩

/-- the context of a def's body -/
abbrev bodyX (P : Program) (w : World) (K : PySem.W.Frag) (mg : Str → Option Value) (base : Heap) (N : List Str) (qual : Str) (st : Stmt) (f : Addr) (cdv : Value) (A : Around) (outer : List Env) (s : Shared) (H : Hp) (E : XK) : Cx :=
  cxOf (L2.CX P w) P w K mg base N qual (defScope st) f cdv A outer s H E

/-- the rule of a def -/
theorem FnG.ofE {x qual : Str} {st : Stmt} {f : Addr} {fd : FuncData} {N ps : List Str} {k : Nat} {sp : Sp} (F : Fun K x qual st f fd) (S : FnScope N ps (defScope st))
    (len : ∀ vs H Q E, sp vs H Q E → vs.length = ps.length)
    (hbody : ∀ (cdv : Value) (A : Around) (outer : List Env) (s : Shared) (H : Hp) (vs : List V) (Q : VK) (E : XK), fd.code = cdv →
      Room k (A.deeper (envOfC qual (defScope st) s.heap.objs.size f cdv)) → A.guards = some [] → sp vs H Q E →
      ∃ t, PSs (bodyX P w K mg base N qual st f cdv A outer s H E) (defBody st) t ∧ t { nx := fun _ H' => Q .non H', rt := Q } (start N vs) H) :
    FnG P w K mg base (k + 1) f fd ps sp := by
  obtain ⟨oc, od, kV, doc, pm, an, cdv, ct, osl, rfl, lk, hcd⟩ := F.ex
  constructor
  · exact len
  intro A outer s H args us vs Q E room noG e0 hbind rvs hsp
  have lenV := len vs H Q E hsp
  have hK : K.In s.heap := e0.mod.kin.keeps (fun b o z => (e0.bs b o z).1)
  have noLim : s.heap.NoLimit := e0.mod.nolimit.keeps (fun b o z => (e0.bs b o z).1)
  have kinds : ∀ y ∈ ps.zip us, (defScope st).names.lookup y.1 = some .local ∨
      ((defScope st).names.lookup y.1 = some .cell ∧ ((cellsFrom (s.heap.objs.size + 1) (defScope st).names []).lookup y.1).isSome = true) := by
    rintro ⟨n, v⟩ hy
    have hn := (List.of_mem_zip hy).1
    cases S.par n hn with
    | inl q => exact Or.inl q
    | inr q => exact Or.inr ⟨q, PySem.W.cellsFrom_some _ _ _ (Or.inl q)⟩
  apply codeAny_call_function room.depth (hK _ _ lk) rfl S.co S.gen rfl (PySem.W.codeRec_of hK hcd)
  apply hbind
  apply wpAny_newFunctionEnv_cells S.kind kinds
  intro env henv s1 born
  subst henv
  refine ⟨noLim.keeps born.toInCall.keep, codeAny_func ?_⟩
  obtain ⟨t, ht, hq⟩ := hbody cdv A outer s H vs Q E rfl (room.deeper _) noG hsp
  have I0 := inv_start (CX := L2.CX P w) (K := K) (E := E) S room.hd e0 lenV rvs born
  have done := ht.run [] s1 (start N vs) H _ I0 hq
  refine wpAny_mono done (fun fl s' res => ?_) (fun e s' res => res)
  cases fl with
  | next =>
    obtain ⟨σ', H', J, q⟩ := res
    exact ⟨V.non, H', J.os, J.bare, J.base, J.hok, rfl, q⟩
  | ret u =>
    obtain ⟨v, σ', H', J, rv, q⟩ := res
    exact ⟨v, H', J.os, J.bare, J.base, J.hok, rv, q⟩
  | brk => exact res.elim fun _ z => z.elim fun _ z => z.2.elim
  | cont => exact res.elim fun _ z => z.elim fun _ z => z.2.elim
theorem FnG.of {x qual : Str} {st : Stmt} {f : Addr} {fd : FuncData} {N ps : List Str} {k : Nat} {sp : Sp} (F : Fun K x qual st f fd) (S : FnScope N ps (defScope st))
    (len : ∀ vs H Q E, sp vs H Q E → vs.length = ps.length)
    (hbody : ∀ (cdv : Value) (A : Around) (outer : List Env) (s : Shared) (H : Hp) (vs : List V) (Q : VK) (E : XK),
      Room k (A.deeper (envOfC qual (defScope st) s.heap.objs.size f cdv)) → A.guards = some [] → sp vs H Q E →
      ∃ t, PSs (bodyX P w K mg base N qual st f cdv A outer s H E) (defBody st) t ∧ t { nx := fun _ H' => Q .non H', rt := Q } (start N vs) H) :
    FnG P w K mg base (k + 1) f fd ps sp :=
  FnG.ofE F S len fun cdv A outer s H vs Q E _ hr hg h => hbody cdv A outer s H vs Q E hr hg h
end

/-! ### its call -/
section
variable {X : Cx} {k : Nat} {f : Addr} {fd : FuncData} {ps : List Str} {sp : Sp} {dvs : List V} {ds : List Value} {W : WX} {x : Str} {p pos : Pos} {e : Expr} {es : List Expr} {t : TA}
/-- f(..): what leaves it is wished for at the caller's slots -/
def tCallW (sp : Sp) (dvs : List V) (W : WX) (t : TA) : TE := fun σ H Q => t σ H fun vs H1 => sp (vs ++ dvs) H1 Q (fun c d H' => W c d σ H')
theorem runG {pins : List (Addr × Obj)} {σ : L2.St} {H : Hp} {s : Shared} {Q : VK} {us : List Value} {vs : List V}
    (F : FnG X.prog X.w X.K X.mg X.base k f fd ps sp) (hr : Room k X.A) (hg : X.A.guards = some []) (hb : Binds X.K fd ps ds) (hd : Vals dvs ds) (tk : Takes X W)
    (I : Inv X pins σ H s) (r : Vals vs us) (h : sp (vs ++ dvs) H Q (fun c d H' => W c d σ H')) :
    wpAny (model X.prog X.w) X.A (call (.ref f) us) (EP X pins σ Q) X.xe s := by
  have rr : Vals (vs ++ dvs) (us ++ ds) := Vals.append r hd
  have lenA : (us ++ ds).length = ps.length := by
    rw [← rr.length]
    exact F.len _ _ _ _ h
  have bt := hb s us I.kIn lenA
  have ran := F.go X.A X.stack s H ⟨us, []⟩ (us ++ ds) (vs ++ dvs) Q _ hr hg I.env0 bt rr h
  refine wpAny_call (codeAny_mono ran fun res s' hres => ?_)
  match res, hres with
  | .ok (.ret u), z => exact I.after z
  | .ok .next, z => exact z.elim
  | .ok .brk, z => exact z.elim
  | .ok .cont, z => exact z.elim
  | .error e, z => exact tk e s' (XE.of_call I (fun c d H' q => q) z)
theorem pe_callG (F : FnG X.prog X.w X.K X.mg X.base k f fd ps sp) (hr : Room k X.A) (hgu : X.A.guards = some []) (hg : Gl X x) (hm : X.mg x = some (.ref f)) (hk : PySem.W.keepIn X.K (.ref f) = true)
    (hb : Binds X.K fd ps ds) (hd : Vals dvs ds) (tk : Takes X W) (ha : PA X (e :: es) t) (hdb : (x == ("__debug__" : Str)) = false := by decide)
    (he : starEach (e :: es) X.env = (false, eval e X.env) :: starEach es X.env := by rfl) (hpl : (backTo pos (starEach es X.env)).any (·.1) = false := by rfl) :
    PE X (.Call (.Name x p) (e :: es) [] pos) (tCallW sp dvs W t) := by
  constructor
  intro pins s σ H Q I h
  apply wpAny_Call_Name_kw
  apply ld_glob I hg hm _ hdb
  apply PySem.W.callWith_K (h₀ := X.base) I.ok.mod.kin hk _ he hpl
  refine thn (ha.run pos pins s σ H _ I h) ?_
  rintro us s1 ⟨vs, H1, I1, r, q⟩
  exact ⟨I1.kIn, runG F hr hgu hb hd tk I1 r q⟩
theorem pe_callG0 (F : FnG X.prog X.w X.K X.mg X.base k f fd ps sp) (hr : Room k X.A) (hgu : X.A.guards = some []) (hg : Gl X x) (hm : X.mg x = some (.ref f)) (hk : PySem.W.keepIn X.K (.ref f) = true)
    (hb : Binds X.K fd ps ds) (hd : Vals dvs ds) (tk : Takes X W) (hdb : (x == ("__debug__" : Str)) = false := by decide) :
    PE X (.Call (.Name x p) [] [] pos) (tCallW sp dvs W tNil) := by
  constructor
  intro pins s σ H Q I h
  apply wpAny_Call_Name_kw
  apply ld_glob I hg hm _ hdb
  exact PySem.W.callWith_K0 I.kIn hk (runG (us := []) F hr hgu hb hd tk I .nil h)
end

/-! ### the law's head -/
/-- what is tracked at the law's entry: the script alone, or nothing where it is the module's own -/
def entryH (K : PySem.W.Frag) (a : Addr) (o : Obj) (ns : List Int) : Hp := fun b =>
  if b = a ∧ K.lookup a = none then some (.frz o (.lst (ns.map V.int))) else none
/-- the script: known to the object, or the module's own -/
def Scr (K : PySem.W.Frag) (H : Hp) (a : Addr) (ns : List Int) : Prop := SqL K H a (ns.map V.int)
theorem law_callG {P : Program} {w : World} {K : PySem.W.Frag} {mg mb : Str → Option Value} {k : Nat} {fa a : Addr} {fd : FuncData} {x : Str} {sp : Sp} {s₁ : Shared} {vs : List Value} {ns : List Int}
    (KX : K.In s₁.heap) (hns : s₁.heap.Ns mainGlobals mg) (hb : s₁.heap.Ns builtinsNs mb) (hbb : ∀ x : Str, x ≠ "__name__" → mb x = bootBuiltins x) (hlim : s₁.heap.NoLimit) (hg : s₁.gens = #[])
    (ha : s₁.heap.get? a = some { cls := .type "list", data := .seq vs.toArray }) (hi : IntsAre vs ns) (hl : ns.length ≤ sizeLine) (hr : Room k callerA)
    (F : ∀ base : Heap, K.In base → base.Ns mainGlobals mg → FnG P w K mg base k fa fd [x] sp) (hbind : ∀ (s : Shared) (u : Value), BindsTo s fd ⟨[u], []⟩ [(x, u)])
    (hsp : ∀ H : Hp, Only H → SqL K H a (ns.map V.int) → sp [.ref a] H (fun v _ => v = .bl true) fun _ _ _ => False) :
    codeAny (model P w) callerA (.call (.ref fa) ⟨[.ref a], []⟩)
      (fun r s' => r = .ok (.ret (.bool true)) ∧ OldK s₁.heap s'.heap ∧ s'.os = s₁.os ∧ AllBare s'.gens) s₁ := by
  have rv : Vals (ns.map V.int) vs := vals_ints hi
  have sz := hi.length
  obtain ⟨oS, hoS⟩ : ∃ o : Obj, o = { cls := .type "list", data := .seq vs.toArray } := ⟨_, rfl⟩
  rw [← hoS] at ha
  obtain ⟨H, hH⟩ : ∃ H : Hp, H = entryH K a oS ns := ⟨_, rfl⟩
  have atH : ∀ b u, H b = some u → b = a ∧ K.lookup a = none ∧ u = .frz oS (.lst (ns.map V.int)) := by
    intro b u z
    rw [hH] at z
    unfold entryH at z
    split at z
    · next c => exact ⟨c.1, c.2, (Option.some.inj z).symm⟩
    · cases z
  have only : Only H := by
    intro b
    cases q : H b with
    | none => exact Or.inl rfl
    | some u =>
      obtain ⟨_, _, e⟩ := atH b u q
      exact Or.inr ⟨_, _, by rw [e]⟩
  have hok : HOk P w H s₁.heap := by
    intro b u z
    obtain ⟨eb, _, eu⟩ := atH b u z
    subst eb
    subst eu
    refine ⟨ha, ?_, vs, 0, rv, ?_⟩
    · rw [List.length_map]
      exact hl
    · rw [ha, hoS]
  have seq : SqL K H a (ns.map V.int) := by
    cases hk : K.lookup a with
    | none =>
      refine Or.inl (Or.inr ⟨oS, ?_⟩)
      rw [hH]
      exact if_pos ⟨rfl, hk⟩
    | some o =>
      have e := KX a o hk
      rw [ha] at e
      cases e
      refine Or.inr ⟨_, vs.toArray, 0, hk, by rw [hoS], by rw [hoS], by rw [hoS], ?_, by simpa using rv⟩
      rw [List.size_toArray, sz]
      exact hl
  have keepB : ∀ {b : Addr} {o : Obj}, s₁.heap.get? b = some o → H b = none → (hidT s₁.heap H).get? b = some o := fun z n => hidT_get z n
  have dictFree : ∀ {b : Addr} {o : Obj} {es : Array DictEntry} {ep : Nat}, s₁.heap.get? b = some o → o.data = .dict es ep → H b = none := by
    intro b o es ep z d
    cases q : H b with
    | none => rfl
    | some u =>
      obtain ⟨eb, _, _⟩ := atH b u q
      subst eb
      rw [ha] at z
      cases z
      rw [hoS] at d
      cases d
  have nsB : ∀ {b : Addr} {m : Str → Option Value}, s₁.heap.Ns b m → (hidT s₁.heap H).Ns b m := by
    rintro b m ⟨o, es, ep, z, d, r⟩
    exact ⟨o, es, ep, keepB z (dictFree z d), d, r⟩
  have kinB : K.In (hidT s₁.heap H) := by
    intro b o z
    refine keepB (KX b o z) ?_
    cases q : H b with
    | none => rfl
    | some u =>
      obtain ⟨eb, hk, _⟩ := atH b u q
      subst eb
      rw [hk] at z
      cases z
  obtain ⟨mc, lim1, lim2⟩ := hlim
  have md : Mod K mg (hidT s₁.heap H) := ⟨kinB, nsB hns, ⟨mb, nsB hb, hbb⟩, ⟨mc, nsB lim1, lim2⟩⟩
  have e0 : Env0 P w K mg (hidT s₁.heap H) callerA [] s₁ H :=
    { frames := rfl, mod := md, bs := fun b o z => of_hidT z, bsz := Nat.le_of_eq (hidT_size _ _), funs := trivial,
      frf := (fun b z => absurd (show b ∈ ([] : List Addr) from z) (by simp)), hok := hok, bare := AllBare.of_eq hg }
  have run := (F _ kinB (nsB hns)).go callerA [] s₁ H ⟨[.ref a], []⟩ [.ref a] [.ref a] _ _ hr rfl e0 (hbind s₁ (.ref a)) (.cons rfl .nil) (hsp H only seq)
  refine codeAny_mono run fun r s' h => ?_
  match r, h with
  | .error e, z => obtain ⟨_, _, _, _, _, _, _, _, _, _, _, _, q⟩ := z; exact q.elim
  | .ok .next, z => exact z.elim
  | .ok .brk, z => exact z.elim
  | .ok .cont, z => exact z.elim
  | .ok (.ret u), z =>
    obtain ⟨v, H', os, bare, un, hok', rvu, q⟩ := z
    have ev : v = .bl true := q
    subst ev
    have eu : u = Value.bool true := rvu
    subst eu
    refine ⟨rfl, OldK.of_keep (fun b o zb => ?_), os, bare⟩
    cases qb : H b with
    | none => exact un.keep b o zb qb (by simp [frs]) (by simp)
    | some u =>
      obtain ⟨eb, _, eu⟩ := atH b u qb
      subst eb
      subst eu
      obtain ⟨e1, _⟩ := hok _ _ qb
      obtain ⟨e2, _⟩ := hok' _ _ (un.frzs _ _ _ qb)
      rw [zb] at e1
      cases e1
      exact e2

/-- what k_head leaves, from the law's promise -/
theorem walkG {l : PySem.W.OpenLaw} {n k : Nat} {q : Program} {loose : List Str} {XP : (Str → Option Value) → Heap → Prop} {YP : World → Heap → Prop} {d : DefRec} {K : Params → PySem.W.Frag} {sp : World → Sp} {x : Str}
    (hn : l.most = some n) (hn2 : n ≤ sizeLine) (hdf : d.params.defaults = []) (hr : Room k callerA)
    (hY : ∀ (w : World) (h : Heap), YP w h → (K w.params).In h)
    (F : ∀ (w : World) (mg : Str → Option Value) (fa : Addr) (h : Heap), (K w.params).In h → h.Ns mainGlobals mg → mg d.name = some (.ref fa) →
      ∃ fd : FuncData, (∀ (s : Shared) (u : Value), BindsTo s fd ⟨[u], []⟩ [(x, u)]) ∧
        ∀ base : Heap, (K w.params).In base → base.Ns mainGlobals mg → FnG l.prog w (K w.params) mg base k fa fd [x] (sp w))
    (hsp : ∀ (w : World) (H : Hp) (a : Addr) (ns : List Int), ns.length ≤ n → Only H → SqL (K w.params) H a (ns.map V.int) → sp w [.ref a] H (fun v _ => v = .bl true) fun _ _ _ => False) :
    PySem.W.WalkO q loose XP YP l.row.toRowW d [] (fun f vs => PySem.call f vs) := by
  apply Att.attach_call hn hdf
  intro w s₀ s₁ mg mb fa o pm cd doc a vs ns G Y ho hd hcd hmg hobj hints hlen hg
  have KX := hY w _ Y
  obtain ⟨fd, hb, hF⟩ := F w mg fa _ KX G.T.g hmg
  exact law_callG KX G.T.g G.T.b G.T.builtins G.T.nolimit hg hobj hints (Nat.le_trans hlen hn2) hr hF hb (fun H hO hS => hsp w H a ns hlen hO hS)
end Wb

set_option Elab.async false
set_option linter.all false
set_option maxRecDepth 100000
set_option maxHeartbeats 4000000
/-! Wb, part 1: data, the tree of what a program does, what stands for what. -/
namespace Wb
open PySem PySem.Spec PyProof.Rows L2

abbrev D := PyData

/-! ### values that stand for data -/
def keyD : Key → D
  | .inl i => .int i
  | .inr x => .str x
mutual
inductive Has (H : Hp) : V → D → Prop
  | non : Has H .non .none
  | bl (b : Bool) : Has H (.bl b) (.bool b)
  | int (i : Int) : Has H (.int i) (.int i)
  | str (x : Str) : Has H (.str x) (.str x)
  | lst {a : Addr} {xs : List V} {ds : List D} : H a = some (.lst xs) → HasL H xs ds → Has H (.ref a) (.list ds)
  | tup {a : Addr} {xs : List V} {ds : List D} : H a = some (.tup xs) → HasL H xs ds → Has H (.ref a) (.tuple ds)
  | dct {a : Addr} {kvs : List (Key × V)} {ds : List (D × D)} : H a = some (.dK kvs) → HasK H kvs ds → Has H (.ref a) (.dict ds)
inductive HasL (H : Hp) : List V → List D → Prop
  | nil : HasL H [] []
  | cons {v : V} {vs : List V} {d : D} {ds : List D} : Has H v d → HasL H vs ds → HasL H (v :: vs) (d :: ds)
inductive HasK (H : Hp) : List (Key × V) → List (D × D) → Prop
  | nil : HasK H [] []
  | cons {k : Key} {v : V} {vs : List (Key × V)} {d : D} {ds : List (D × D)} : Has H v d → HasK H vs ds → HasK H ((k, v) :: vs) ((keyD k, d) :: ds)
end
mutual
theorem Has.mono {H H' : Hp} (e : Same H H') : ∀ {v : V} {d : D}, Has H v d → Has H' v d
  | _, _, .non => .non
  | _, _, .bl b => .bl b
  | _, _, .int i => .int i
  | _, _, .str x => .str x
  | _, _, .lst h r => .lst (e _ _ h) (HasL.mono e r)
  | _, _, .tup h r => .tup (e _ _ h) (HasL.mono e r)
  | _, _, .dct h r => .dct (e _ _ h) (HasK.mono e r)
theorem HasL.mono {H H' : Hp} (e : Same H H') : ∀ {v : List V} {d : List D}, HasL H v d → HasL H' v d
  | _, _, .nil => .nil
  | _, _, .cons h r => .cons (Has.mono e h) (HasL.mono e r)
theorem HasK.mono {H H' : Hp} (e : Same H H') : ∀ {v : List (Key × V)} {d : List (D × D)}, HasK H v d → HasK H' v d
  | _, _, .nil => .nil
  | _, _, .cons h r => .cons (Has.mono e h) (HasK.mono e r)
end
theorem HasL.length {H : Hp} : ∀ {vs : List V} {ds : List D}, HasL H vs ds → vs.length = ds.length
  | _, _, .nil => rfl
  | _, _, .cons _ r => by simp [HasL.length r]
theorem HasL.get {H : Hp} : ∀ {vs : List V} {ds : List D} {i : Nat} {v : V}, HasL H vs ds → vs[i]? = some v → ∃ d, ds[i]? = some d ∧ Has H v d
  | _, _, _, _, .nil, h => by simp at h
  | _, _, 0, _, .cons h _, e => by
    have e' := Option.some.inj e
    subst e'
    exact ⟨_, rfl, h⟩
  | _, _, i + 1, _, .cons _ r, e => by
    obtain ⟨d, h1, h2⟩ := HasL.get (i := i) r (by simpa using e)
    exact ⟨d, by simpa using h1, h2⟩
theorem HasL.getD {H : Hp} : ∀ {vs : List V} {ds : List D} {i : Nat} {d : D}, HasL H vs ds → ds[i]? = some d → ∃ v, vs[i]? = some v ∧ Has H v d
  | _, _, _, _, .nil, h => by simp at h
  | _, _, 0, _, .cons h _, e => by
    have e' := Option.some.inj e
    subst e'
    exact ⟨_, rfl, h⟩
  | _, _, i + 1, _, .cons _ r, e => by
    obtain ⟨d, h1, h2⟩ := HasL.getD (i := i) r (by simpa using e)
    exact ⟨d, by simpa using h1, h2⟩
theorem HasL.append {H : Hp} : ∀ {vs ws : List V} {ds es : List D}, HasL H vs ds → HasL H ws es → HasL H (vs ++ ws) (ds ++ es)
  | _, _, _, _, .nil, q => q
  | _, _, _, _, .cons h r, q => .cons h (HasL.append r q)
theorem HasL.take {H : Hp} : ∀ {vs : List V} {ds : List D} (n : Nat), HasL H vs ds → HasL H (vs.take n) (ds.take n)
  | _, _, 0, _ => .nil
  | _, _, _ + 1, .nil => .nil
  | _, _, n + 1, .cons h r => .cons h (HasL.take n r)
theorem HasL.drop {H : Hp} : ∀ {vs : List V} {ds : List D} (n : Nat), HasL H vs ds → HasL H (vs.drop n) (ds.drop n)
  | _, _, 0, r => r
  | _, _, _ + 1, .nil => .nil
  | _, _, n + 1, .cons _ r => HasL.drop n r
theorem HasL.set {H : Hp} {v : V} {d : D} (q : Has H v d) : ∀ {vs : List V} {ds : List D} (i : Nat), HasL H vs ds → HasL H (vs.set i v) (ds.set i d)
  | _, _, _, .nil => .nil
  | _, _, 0, .cons _ r => .cons q r
  | _, _, i + 1, .cons h r => .cons h (HasL.set q i r)
theorem HasL.ints {H : Hp} : ∀ (ns : List Int), HasL H (ns.map V.int) (ns.map PyData.int)
  | [] => .nil
  | n :: ns => .cons (.int n) (HasL.ints ns)

/-! ### what a program does: results, draws, errors -/
/-- an error: the name of its class, its fields -/
structure Exn where
  cls : Str
  fs : List (Str × D)
inductive T (α : Type) where
  | ret (a : α)
  | draw (m : Int) (k : Int → T α)
  | exc (x : Exn)
  | bad
def T.bind {α β : Type} : T α → (α → T β) → T β
  | .ret a, f => f a
  | .draw m k, f => .draw m fun i => (k i).bind f
  | .exc x, _ => .exc x
  | .bad, _ => .bad
def T.wp {α : Type} : T α → (α → Prop) → (Exn → Prop) → Prop
  | .ret a, P, _ => P a
  | .draw m k, P, E => 0 < m ∧ m < 1073741824 ∧ ∀ i, 0 ≤ i → i < m → (k i).wp P E
  | .exc x, _, E => E x
  | .bad, _, _ => False
theorem T.wp_bind {α β : Type} {P : β → Prop} {E : Exn → Prop} : ∀ (t : T α) (f : α → T β), (t.bind f).wp P E ↔ t.wp (fun a => (f a).wp P E) E
  | .ret _, _ => Iff.rfl
  | .draw _ k, f => ⟨fun h => ⟨h.1, h.2.1, fun i a b => (T.wp_bind (k i) f).mp (h.2.2 i a b)⟩, fun h => ⟨h.1, h.2.1, fun i a b => (T.wp_bind (k i) f).mpr (h.2.2 i a b)⟩⟩
  | .exc _, _ => Iff.rfl
  | .bad, _ => Iff.rfl
theorem T.wp_mono {α : Type} {P P' : α → Prop} {E E' : Exn → Prop} (hp : ∀ a, P a → P' a) (he : ∀ x, E x → E' x) : ∀ (t : T α), t.wp P E → t.wp P' E'
  | .ret _, h => hp _ h
  | .draw _ k, h => ⟨h.1, h.2.1, fun i a b => T.wp_mono hp he (k i) (h.2.2 i a b)⟩
  | .exc _, h => he _ h
  | .bad, h => h
@[simp] theorem T.ret_bind {α β : Type} (a : α) (f : α → T β) : (T.ret a).bind f = f a := rfl
@[simp] theorem T.exc_bind {α β : Type} (x : Exn) (f : α → T β) : (T.exc x : T α).bind f = .exc x := rfl
@[simp] theorem T.bad_bind {α β : Type} (f : α → T β) : (T.bad : T α).bind f = .bad := rfl
@[simp] theorem T.draw_bind {α β : Type} (m : Int) (k : Int → T α) (f : α → T β) : (T.draw m k).bind f = .draw m fun i => (k i).bind f := rfl
theorem T.bind_assoc {α β γ : Type} (f : α → T β) (g : β → T γ) : ∀ (t : T α), (t.bind f).bind g = t.bind fun a => (f a).bind g
  | .ret _ => rfl
  | .draw _ k => by
    show T.draw _ _ = T.draw _ _
    congr 1
    funext i
    exact T.bind_assoc f g (k i)
  | .exc _ => rfl
  | .bad => rfl
@[simp] theorem T.bind_ret {α : Type} : ∀ (t : T α), t.bind T.ret = t
  | .ret _ => rfl
  | .draw _ k => by
    show T.draw _ _ = T.draw _ _
    congr 1
    funext i
    exact T.bind_ret (k i)
  | .exc _ => rfl
  | .bad => rfl

/-! ### the source of the draws -/
structure Box where
  v : V
  tabs : List (Addr × Str)
  S : Addr → Prop
  ok : Hp → Prop
  here : ∀ H a, ok H → S a → ∃ o, H a = some o
  stay : ∀ H H', ok H → (∀ a o, (S a ∨ ∃ φ, o = HO.ext φ) → H a = some o → H' a = some o) → ok H'
def noBox : Box := ⟨.non, [], fun _ => False, fun _ => True, fun _ _ _ h => h.elim, fun _ _ _ _ => trivial⟩
/-- a list of three numbers -/
def springOk (p : Addr) (H : Hp) : Prop := ∃ x y z : Int, H p = some (.lst [.int x, .int y, .int z]) ∧ 0 ≤ x ∧ 0 ≤ y ∧ y < 2305843009213693951 ∧ 0 ≤ z
def springBox (p : Addr) : Box := ⟨.ref p, [], fun a => a = p, springOk p, fun H a ⟨_, _, _, h, _⟩ e => ⟨_, (congrArg H e).trans h⟩, fun H H' ⟨x, y, z, h, r⟩ k => ⟨x, y, z, k p _ (.inl rfl) h, r⟩⟩
/-- a dict of two lists and a number -/
def dictOk (b gr sm : Addr) (H : Hp) : Prop := ∃ (gs ss : List Int) (t : Int), H b = some (.dK [(.inr "great", .ref gr), (.inr "small", .ref sm), (.inr "turn", .int t)]) ∧ H gr = some (.lst (gs.map V.int)) ∧ H sm = some (.lst (ss.map V.int)) ∧
  (∀ x ∈ gs, 0 ≤ x) ∧ (∀ x ∈ ss, 0 ≤ x ∧ x < 1000000000000000000) ∧ ss ≠ [] ∧ 0 ≤ t ∧ gs.length ≤ 64 ∧ ss.length ≤ 64 ∧ gr ≠ sm
def dictBox (b gr sm : Addr) : Box := ⟨.ref b, [], fun a => a = b ∨ a = gr ∨ a = sm, dictOk b gr sm, fun H a ⟨_, _, _, h1, h2, h3, _⟩ e => by
    rcases e with e | e | e
    · exact ⟨_, (congrArg H e).trans h1⟩
    · exact ⟨_, (congrArg H e).trans h2⟩
    · exact ⟨_, (congrArg H e).trans h3⟩, fun H H' ⟨gs, ss, t, h1, h2, h3, r⟩ k => ⟨gs, ss, t, k b _ (.inl (.inl rfl)) h1, k gr _ (.inl (.inr (.inl rfl))) h2, k sm _ (.inl (.inr (.inr rfl))) h3, r⟩⟩
/-- beside it the tables of code objects -/
def tabBox (β : Box) (T : List (Addr × Str)) : Box := ⟨β.v, T, fun a => β.S a ∨ ∃ p ∈ T, a = p.1, fun H => β.ok H ∧ LamX.Tabs T H, fun H a h e => by
    rcases e with e | ⟨p, hp, rfl⟩
    · exact β.here H a h.1 e
    · obtain ⟨ps, e, _⟩ := h.2 p hp
      exact ⟨_, e⟩, fun H H' h k => ⟨β.stay H H' h.1 fun a o e => k a o (e.imp .inl id), fun p hp => by
    obtain ⟨ps, e1, e2, e3⟩ := h.2 p hp
    refine ⟨ps, k _ _ (.inl (.inr ⟨p, hp, rfl⟩)) e1, e2, fun pos cv hc => ?_⟩
    obtain ⟨c, z1, z2⟩ := e3 pos cv hc
    exact ⟨c, z1, k _ _ (.inr ⟨_, rfl⟩) z2⟩⟩⟩
/-- the value that the box is handed on by -/
def boxIs : Bool → Box → V → Prop
  | false, β, v => ∃ p T, β = tabBox (springBox p) T ∧ v = .ref p
  | true, β, v => ∃ b gr sm T, β = tabBox (dictBox b gr sm) T ∧ v = .ref b

/-- the known heap grows, what is private stays so, only the box's own may change -/
structure Stp (β : Box) (H0 H H0' H' : Hp) : Prop where
  grow : Same H0 H0'
  ext : Same H0' H'
  ok : β.ok H'
  boxf : ∀ a, β.S a → H0' a = none
  priv : ∀ p o, H p = some o → H0 p = none → H0' p = none ∧ (¬ β.S p → H' p = some o)
theorem Stp.refl {β : Box} {H0 H : Hp} (e : Same H0 H) (ok : β.ok H) (bf : ∀ a, β.S a → H0 a = none) : Stp β H0 H H0 H :=
  ⟨fun _ _ h => h, e, ok, bf, fun _ _ h n => ⟨n, fun _ => h⟩⟩
theorem Stp.trans {β : Box} {H0 H H0' H' H0'' H'' : Hp} (a : Stp β H0 H H0' H') (b : Stp β H0' H' H0'' H'') : Stp β H0 H H0'' H'' := by
  refine ⟨fun p o h => b.grow p o (a.grow p o h), b.ext, b.ok, b.boxf, fun p o h n => ?_⟩
  obtain ⟨n1, k1⟩ := a.priv p o h n
  by_cases hs : β.S p
  · exact ⟨b.boxf p hs, fun z => absurd hs z⟩
  · obtain ⟨n2, k2⟩ := b.priv p o (k1 hs) n1
    exact ⟨n2, fun _ => k2 hs⟩
/-- a new object, known from now on -/
theorem Stp.new {β : Box} {H0 H : Hp} {p : Addr} {o : HO} (e : Same H0 H) (ok : β.ok H) (bf : ∀ a, β.S a → H0 a = none) (hp : H p = none) : Stp β H0 H (upd H0 p o) (upd H p o) := by
  have hp0 : H0 p = none := e.free hp
  have nS : ¬ β.S p := fun z => by
    obtain ⟨u, q⟩ := β.here H p ok z
    rw [hp] at q
    cases q
  refine ⟨fun b u h => ?_, fun b u h => ?_, β.stay H _ ok (fun a u _ h => ?_), fun a h => ?_, fun b u h n => ?_⟩
  · rw [upd_ne (ne_of_none h hp0)]
    exact h
  · by_cases hb : b = p
    · subst hb
      rw [upd_same] at h ⊢
      exact h
    · rw [upd_ne hb] at h ⊢
      exact e b u h
  · rw [upd_ne (ne_of_none h hp)]
    exact h
  · have na : a ≠ p := by
      intro z
      subst z
      exact nS h
    rw [upd_ne na]
    exact bf a h
  · have hb : b ≠ p := ne_of_none h hp
    rw [upd_ne hb, upd_ne hb]
    exact ⟨n, fun _ => h⟩
/-- a new object, not known -/
theorem Stp.junk {β : Box} {H0 H : Hp} {p : Addr} {o : HO} (e : Same H0 H) (ok : β.ok H) (bf : ∀ a, β.S a → H0 a = none) (hp : H p = none) : Stp β H0 H H0 (upd H p o) :=
  ⟨fun _ _ h => h, fun b u h => by
    have h' := e b u h
    rw [upd_ne (ne_of_none h' hp)]
    exact h', β.stay H _ ok (fun a u _ h => by
    rw [upd_ne (ne_of_none h hp)]
    exact h), bf, fun b u h n => ⟨n, fun _ => by
    rw [upd_ne (ne_of_none h hp)]
    exact h⟩⟩

/-! ### slots -/
inductive Sl where
  | no
  | d (x : D)
  | own (xs : List D)
  | box (k : Bool)
  | ex (x : Exn)
  | fn
abbrev Env' := List Sl
/-- the classes of errors by their names; which boxes there are -/
structure Cad where
  fn : Str → Option Addr
  bx : Box → Prop
instance : CoeFun Cad fun _ => Str → Option Addr := ⟨Cad.fn⟩
/-- how an error lies: the class's address by its name, its dict -/
structure ExcIs (cad : Cad) (x : Exn) (c : Value) (dx : Option Addr) (H0 : Hp) : Prop where
  cls : ∃ C, cad x.cls = some C ∧ c = .ref C
  dict : (x.fs = [] ∧ dx = none) ∨ ∃ d vs, dx = some d ∧ H0 d = some (.xd ((x.fs.map (·.1)).zip vs)) ∧ HasL H0 vs (x.fs.map (·.2))
theorem ExcIs.mono {cad : Cad} {x : Exn} {c : Value} {dx : Option Addr} {H0 H0' : Hp} (e : Same H0 H0') (h : ExcIs cad x c dx H0) : ExcIs cad x c dx H0' := by
  obtain ⟨h1, h2⟩ := h
  refine ⟨h1, ?_⟩
  rcases h2 with h2 | ⟨d, vs, a, b, c⟩
  · exact .inl h2
  · exact .inr ⟨d, vs, a, e _ _ b, c.mono e⟩
/-- the error that is handled: where it stands, its class, its dict -/
abbrev Xi := Option (Addr × Value × Option Addr)
def SlOk (cad : Cad) (β : Box) (ξ : Xi) (H0 H : Hp) : Sl → Option V → Prop
  | .no, _ => True
  | .d x, s => ∃ v, s = some v ∧ Has H0 v x
  | .own xs, s => ∃ p vs, s = some (.ref p) ∧ H p = some (.lst vs) ∧ HasL H0 vs xs ∧ H0 p = none ∧ ¬ β.S p
  | .box k, s => ∃ v, s = some v ∧ boxIs k β v
  | .ex x, s => ∃ a c dx, ξ = some (a, c, dx) ∧ s = some (.ref a) ∧ ExcIs cad x c dx H0
  | .fn, s => s = some β.v
theorem SlOk.step {cad : Cad} {β : Box} {ξ : Xi} {H0 H H0' H' : Hp} (st : Stp β H0 H H0' H') : ∀ {sl : Sl} {s : Option V}, SlOk cad β ξ H0 H sl s → SlOk cad β ξ H0' H' sl s
  | .no, _, _ => trivial
  | .d _, _, ⟨v, e, h⟩ => ⟨v, e, h.mono st.grow⟩
  | .own _, _, ⟨p, vs, e, h, r, n, ns⟩ => ⟨p, vs, e, (st.priv p _ h n).2 ns, r.mono st.grow, (st.priv p _ h n).1, ns⟩
  | .box _, _, h => h
  | .ex _, _, ⟨a, c, dx, e1, e2, h⟩ => ⟨a, c, dx, e1, e2, h.mono st.grow⟩
  | .fn, _, h => h
def TabsIn (cad : Cad) (β : Box) : Prop := cad.bx β
/-- what stands for the slots -/
structure Rel (cad : Cad) (β : Box) (ξ : Xi) (H0 : Hp) (ρ : Env') (σ : L2.St) (H : Hp) : Prop where
  ext : Same H0 H
  len : ρ.length = σ.length
  sl : ∀ (i : Nat) (s : Sl) (o : Option V), ρ[i]? = some s → σ[i]? = some o → SlOk cad β ξ H0 H s o
  apart : ∀ (i j : Nat) (xs ys : List D) (p q : Addr), ρ[i]? = some (.own xs) → ρ[j]? = some (.own ys) → σ[i]? = some (some (.ref p)) → σ[j]? = some (some (.ref q)) → i ≠ j → p ≠ q
  ok : β.ok H
  boxf : ∀ a, β.S a → H0 a = none
  tabs : TabsIn cad β
section
variable {cad : Cad} {β : Box} {ξ : Xi} {H0 H H0' H' : Hp} {ρ : Env'} {σ : L2.St}
theorem Rel.step (r : Rel cad β ξ H0 ρ σ H) (st : Stp β H0 H H0' H') : Rel cad β ξ H0' ρ σ H' :=
  ⟨st.ext, r.len, fun i s o a b => (r.sl i s o a b).step st, r.apart, st.ok, st.boxf, r.tabs⟩
theorem Rel.refl (r : Rel cad β ξ H0 ρ σ H) : Stp β H0 H H0 H := Stp.refl r.ext r.ok r.boxf
theorem Rel.new (r : Rel cad β ξ H0 ρ σ H) {p : Addr} {o : HO} (hp : H p = none) : Stp β H0 H (upd H0 p o) (upd H p o) := Stp.new r.ext r.ok r.boxf hp
theorem Rel.junk (r : Rel cad β ξ H0 ρ σ H) {p : Addr} {o : HO} (hp : H p = none) : Stp β H0 H H0 (upd H p o) := Stp.junk r.ext r.ok r.boxf hp
/-- a slot that holds no list of its own is set -/
theorem Rel.set (r : Rel cad β ξ H0 ρ σ H) {i : Nat} {sl : Sl} {o : Option V} (hs : SlOk cad β ξ H0 H sl o) (hn : ∀ xs, sl ≠ .own xs) : Rel cad β ξ H0 (ρ.set i sl) (σ.set i o) H := by
  refine ⟨r.ext, by simp [r.len], fun j s u a b => ?_, fun j l xs ys p q a b c e ne => ?_, r.ok, r.boxf, r.tabs⟩
  · by_cases hj : j = i
    · subst hj
      by_cases hl : j < ρ.length
      · rw [List.getElem?_set_self hl] at a
        rw [List.getElem?_set_self (r.len ▸ hl)] at b
        cases a
        cases b
        exact hs
      · rw [List.getElem?_eq_none (by simpa using hl)] at a
        cases a
    · rw [List.getElem?_set_ne (Ne.symm hj)] at a b
      exact r.sl j s u a b
  · have nj : j ≠ i := fun z => by
      subst z
      by_cases hl : j < ρ.length
      · rw [List.getElem?_set_self hl] at a
        exact hn xs (Option.some.inj a)
      · rw [List.getElem?_eq_none (by simpa using hl)] at a
        cases a
    have nl : l ≠ i := fun z => by
      subst z
      by_cases hl : l < ρ.length
      · rw [List.getElem?_set_self hl] at b
        exact hn ys (Option.some.inj b)
      · rw [List.getElem?_eq_none (by simpa using hl)] at b
        cases b
    rw [List.getElem?_set_ne (Ne.symm nj)] at a c
    rw [List.getElem?_set_ne (Ne.symm nl)] at b e
    exact r.apart j l xs ys p q a b c e ne
theorem Rel.setD (r : Rel cad β ξ H0 ρ σ H) {i : Nat} {v : V} {d : D} (h : Has H0 v d) : Rel cad β ξ H0 (ρ.set i (.d d)) (σ.set i (some v)) H :=
  r.set ⟨v, rfl, h⟩ (fun _ z => by cases z)
/-- a slot takes a list of its own -/
theorem Rel.setOwn (r : Rel cad β ξ H0 ρ σ H) {i : Nat} {p : Addr} {vs : List V} {xs : List D} (h : H p = some (.lst vs)) (hl : HasL H0 vs xs) (n : H0 p = none) (ns : ¬ β.S p)
    (fr : ∀ (j : Nat) (ys : List D) (q : Addr), j ≠ i → ρ[j]? = some (.own ys) → σ[j]? = some (some (.ref q)) → q ≠ p) : Rel cad β ξ H0 (ρ.set i (.own xs)) (σ.set i (some (.ref p))) H := by
  refine ⟨r.ext, by simp [r.len], fun j s u a b => ?_, fun j l xs' ys p' q' a b c e ne => ?_, r.ok, r.boxf, r.tabs⟩
  · by_cases hj : j = i
    · subst hj
      by_cases hl' : j < ρ.length
      · rw [List.getElem?_set_self hl'] at a
        rw [List.getElem?_set_self (r.len ▸ hl')] at b
        cases a
        cases b
        exact ⟨p, vs, rfl, h, hl, n, ns⟩
      · rw [List.getElem?_eq_none (by simpa using hl')] at a
        cases a
    · rw [List.getElem?_set_ne (Ne.symm hj)] at a b
      exact r.sl j s u a b
  · by_cases hj : j = i
    · subst hj
      have hl' : j < ρ.length := by
        by_cases z : j < ρ.length
        · exact z
        · rw [List.getElem?_eq_none (by simpa using z)] at a
          cases a
      rw [List.getElem?_set_self (r.len ▸ hl')] at c
      cases c
      rw [List.getElem?_set_ne ne] at b e
      exact Ne.symm (fr l ys q' (Ne.symm ne) b e)
    · rw [List.getElem?_set_ne (Ne.symm hj)] at a c
      by_cases hl : l = i
      · subst hl
        have hl' : l < ρ.length := by
          by_cases z : l < ρ.length
          · exact z
          · rw [List.getElem?_eq_none (by simpa using z)] at b
            cases b
        rw [List.getElem?_set_self (r.len ▸ hl')] at e
        cases e
        exact fr j xs' p' hj a c
      · rw [List.getElem?_set_ne (Ne.symm hl)] at b e
        exact r.apart j l xs' ys p' q' a b c e ne
end
end Wb

set_option Elab.async false
set_option linter.all false
set_option maxRecDepth 100000
set_option maxHeartbeats 4000000
/-! Wb, part 2: expressions, by what they give of data. -/
namespace Wb
open PySem PySem.Spec PyProof.Rows L2

/-- what a body is read under: the classes of errors, the error that is handled, the wish about errors -/
structure Ct where
  cad : Cad
  ξ : Xi
  W : WX
  lk : Box → Hp → Hp → Prop
/-- the wish, from a state -/
def Ct.X (g : Ct) (β : Box) (H0 H : Hp) (σ : L2.St) (x : Exn) : Prop :=
  ∀ c dx H0' H', Stp β H0 H H0' H' → ExcIs g.cad x c dx H0' → g.W c dx σ H'
theorem Ct.X.step {g : Ct} {β : Box} {H0 H H0' H' : Hp} {σ : L2.St} {x : Exn} (st : Stp β H0 H H0' H') (h : g.X β H0 H σ x) : g.X β H0' H' σ x :=
  fun c dx H2 H3 s e => h c dx H2 H3 (st.trans s) e
/-- the way out with a value -/
def Out (β : Box) (H0 H : Hp) (Q : VK) (d : D) : Prop := ∀ v H0' H', Stp β H0 H H0' H' → Has H0' v d → Q v H'
theorem Out.step {β : Box} {H0 H H0' H' : Hp} {Q : VK} {d : D} (st : Stp β H0 H H0' H') (h : Out β H0 H Q d) : Out β H0' H' Q d :=
  fun v H2 H3 s e => h v H2 H3 (st.trans s) e
def tE (g : Ct) (f : Env' → T D) : TE := fun σ H Q => ∃ β H0 ρ, Rel g.cad β g.ξ H0 ρ σ H ∧ (f ρ).wp (Out β H0 H Q) (g.X β H0 H σ)
def tT (g : Ct) (f : Env' → T D) : TT := fun σ H Q => ∃ β H0 ρ, Rel g.cad β g.ξ H0 ρ σ H ∧
  (f ρ).wp (fun d => ∃ b, d = .bool b ∧ ∀ H0' H', Stp β H0 H H0' H' → Q b H') (g.X β H0 H σ)
/-- an argument: data, or the box -/
inductive Ar where
  | d (x : D)
  | box (k : Bool)
def HasA (β : Box) (H0 : Hp) (v : V) : Ar → Prop
  | .d x => Has H0 v x
  | .box k => boxIs k β v
inductive HasAs (β : Box) (H0 : Hp) : List V → List Ar → Prop
  | nil : HasAs β H0 [] []
  | cons {v : V} {vs : List V} {a : Ar} {as : List Ar} : HasA β H0 v a → HasAs β H0 vs as → HasAs β H0 (v :: vs) (a :: as)
theorem HasA.mono {β : Box} {H0 H0' : Hp} (e : Same H0 H0') {v : V} : ∀ {a : Ar}, HasA β H0 v a → HasA β H0' v a
  | .d _, h => Has.mono e h
  | .box _, h => h
theorem HasAs.mono {β : Box} {H0 H0' : Hp} (e : Same H0 H0') : ∀ {vs : List V} {as : List Ar}, HasAs β H0 vs as → HasAs β H0' vs as
  | _, _, .nil => .nil
  | _, _, .cons h r => .cons (h.mono e) (HasAs.mono e r)
theorem HasAs.length {β : Box} {H0 : Hp} : ∀ {vs : List V} {as : List Ar}, HasAs β H0 vs as → vs.length = as.length
  | _, _, .nil => rfl
  | _, _, .cons _ r => by simp [HasAs.length r]
def tA (g : Ct) (f : Env' → T (List Ar)) : TA := fun σ H Q => ∃ β H0 ρ, Rel g.cad β g.ξ H0 ρ σ H ∧
  (f ρ).wp (fun as => ∀ vs H0' H', Stp β H0 H H0' H' → HasAs β H0' vs as → Q vs H') (g.X β H0 H σ)

theorem _root_.L2.PE.imp {X : Cx} {e : Expr} {t t' : TE} (h : PE X e t) (i : ∀ σ H Q, t' σ H Q → t σ H Q) : PE X e t' := ⟨fun pins s σ H Q I q => h.run pins s σ H Q I (i _ _ _ q)⟩
theorem _root_.L2.PT.imp {X : Cx} {e : Expr} {t t' : TT} (h : PT X e t) (i : ∀ σ H Q, t' σ H Q → t σ H Q) : PT X e t' := ⟨fun pins s σ H Q I q => h.run pins s σ H Q I (i _ _ _ q)⟩
theorem _root_.L2.PW.imp {X : Cx} {e : Expr} {t t' : TT} (h : PW X e t) (i : ∀ σ H Q, t' σ H Q → t σ H Q) : PW X e t' := ⟨fun w pins s σ H Q I q => h.run w pins s σ H Q I (i _ _ _ q)⟩
theorem _root_.L2.PA.imp {X : Cx} {e : List Expr} {t t' : TA} (h : PA X e t) (i : ∀ σ H Q, t' σ H Q → t σ H Q) : PA X e t' := ⟨fun p pins s σ H Q I q => h.run p pins s σ H Q I (i _ _ _ q)⟩
theorem _root_.L2.PO.imp {X : Cx} {e : Option Expr} {t t' : TO} (h : PO X e t) (i : ∀ σ H Q, t' σ H Q → t σ H Q) : PO X e t' := ⟨fun pins s σ H Q I q => h.run pins s σ H Q I (i _ _ _ q)⟩

/-! ### one after another -/
section
variable {g : Ct} {σ : L2.St} {H : Hp}
/-- a value is reckoned first -/
theorem tE_then {α : Type} {β : Box} {H0 : Hp} {ρ : Env'} {f : Env' → T D} {k : D → T α} {P : α → Prop} {Q : VK} (r : Rel g.cad β g.ξ H0 ρ σ H) (h : ((f ρ).bind k).wp P (g.X β H0 H σ))
    (hq : ∀ d v H0' H', Stp β H0 H H0' H' → Has H0' v d → (k d).wp P (g.X β H0 H σ) → Q v H') : tE g f σ H Q :=
  ⟨β, H0, ρ, r, T.wp_mono (fun d hd v H0' H' st hv => hq d v H0' H' st hv hd) (fun _ h => h) _ ((T.wp_bind _ _).mp h)⟩
theorem tA_then {α : Type} {β : Box} {H0 : Hp} {ρ : Env'} {f : Env' → T (List Ar)} {k : List Ar → T α} {P : α → Prop} {Q : List V → Hp → Prop} (r : Rel g.cad β g.ξ H0 ρ σ H) (h : ((f ρ).bind k).wp P (g.X β H0 H σ))
    (hq : ∀ as vs H0' H', Stp β H0 H H0' H' → HasAs β H0' vs as → (k as).wp P (g.X β H0 H σ) → Q vs H') : tA g f σ H Q :=
  ⟨β, H0, ρ, r, T.wp_mono (fun d hd v H0' H' st hv => hq d v H0' H' st hv hd) (fun _ h => h) _ ((T.wp_bind _ _).mp h)⟩
/-- what follows, from where one stands now -/
theorem wp_out {β : Box} {H0 H0' H' : Hp} {Q : VK} {t : T D} (st : Stp β H0 H H0' H') (h : t.wp (Out β H0 H Q) (g.X β H0 H σ)) : t.wp (Out β H0' H' Q) (g.X β H0' H' σ) :=
  T.wp_mono (fun _ q => q.step st) (fun _ q => q.step st) t h
end

/-! ### names, constants -/
def eC (d : D) : Env' → T D := fun _ => .ret d
def eV (i : Nat) : Env' → T D := fun ρ => match ρ[i]? with
  | some (.d x) => .ret x
  | _ => .bad
section
variable {X : Cx} {g : Ct} {a b c : Expr} {f h k : Env' → T D} {pos : Pos}
theorem tE_val {β : Box} {H0 H : Hp} {σ : L2.St} {ρ : Env'} {Q : VK} {v : V} {d : D} (r : Rel g.cad β g.ξ H0 ρ σ H) (hv : Has H0 v d) (q : (T.ret d).wp (Out β H0 H Q) (g.X β H0 H σ)) : Q v H :=
  q v H0 H r.refl hv
theorem r_int {i : Int} {j pos} : PE X (.Constant (.int i) j pos) (tE g (eC (.int i))) := pe_int.imp fun _ _ _ ⟨_, _, _, r, q⟩ => tE_val r (.int i) q
theorem r_bl {i : Bool} {j pos} : PE X (.Constant (.bool i) j pos) (tE g (eC (.bool i))) := pe_bl.imp fun _ _ _ ⟨_, _, _, r, q⟩ => tE_val r (.bl i) q
theorem r_non {j pos} : PE X (.Constant .none j pos) (tE g (eC .none)) := pe_non.imp fun _ _ _ ⟨_, _, _, r, q⟩ => tE_val r .non q
theorem r_str {x : Str} {j pos} : PE X (.Constant (.str x) j pos) (tE g (eC (.str x))) := pe_str.imp fun _ _ _ ⟨_, _, _, r, q⟩ => tE_val r (.str x) q
theorem r_glob {x : Str} {v : V} {u : Value} {d : D} (hg : Gl X x) (hm : X.mg x = some u) (rv : RelV v u) (hd : ∀ H, Has H v d) (hdb : (x == ("__debug__" : Str)) = false := by decide) : PE X (.Name x pos) (tE g (eC d)) :=
  (pe_glob hg hm rv hdb).imp fun _ _ _ ⟨_, _, _, r, q⟩ => tE_val r (hd _) q
theorem eV_slot {β : Box} {H0 H : Hp} {σ : L2.St} {ρ : Env'} {i : Nat} {P : D → Prop} {E : Exn → Prop} (r : Rel g.cad β g.ξ H0 ρ σ H) (q : (eV i ρ).wp P E) : ∃ v d, σ[i]? = some (some v) ∧ Has H0 v d ∧ P d := by
  unfold eV at q
  split at q
  · next x hx =>
    have hl : i < σ.length := by
      rw [← r.len]
      exact (List.getElem?_eq_some_iff.mp hx).1
    obtain ⟨v, e, hv⟩ := r.sl i _ _ hx (List.getElem?_eq_getElem hl)
    exact ⟨v, x, by rw [List.getElem?_eq_getElem hl, e], hv, q⟩
  · exact q.elim
theorem r_v (i : Nat) {x : Str} (hp : PE X (.Name x pos) (tVar i)) : PE X (.Name x pos) (tE g (eV i)) := hp.imp fun σ H Q ⟨β, H0, ρ, r, q⟩ => by
  obtain ⟨v, d, e, hv, hq⟩ := eV_slot r q
  exact ⟨v, e, hq v H0 H r.refl hv⟩

/-! ### operators -/
/-- an operation of the layer does o -/
def OpD (r : R2) (o : D → D → T D) : Prop := ∀ {β : Box} {H0 H : Hp} {v w : V} {x y : D} {Q : VK} {E : Exn → Prop}, Same H0 H → β.ok H → (∀ a, β.S a → H0 a = none) → Has H0 v x → Has H0 w y →
  (o x y).wp (Out β H0 H Q) E → r v w H Q
def UnD (r : V → Hp → VK → Prop) (o : D → T D) : Prop := ∀ {β : Box} {H0 H : Hp} {v : V} {x : D} {Q : VK} {E : Exn → Prop}, Same H0 H → β.ok H → (∀ a, β.S a → H0 a = none) → Has H0 v x →
  (o x).wp (Out β H0 H Q) E → r v H Q
def CaD (r : List V → Hp → VK → Prop) (o : List Ar → T D) : Prop := ∀ {β : Box} {H0 H : Hp} {vs : List V} {as : List Ar} {Q : VK} {E : Exn → Prop}, Same H0 H → β.ok H → (∀ a, β.S a → H0 a = none) → HasAs β H0 vs as →
  (o as).wp (Out β H0 H Q) E → r vs H Q
def eBin (o : D → D → T D) (f h : Env' → T D) : Env' → T D := fun ρ => (f ρ).bind fun x => (h ρ).bind fun y => o x y
def eUn (o : D → T D) (f : Env' → T D) : Env' → T D := fun ρ => (f ρ).bind o
theorem tOp_of {r : R2} {o : D → D → T D} (ho : OpD r o) {σ : L2.St} {H : Hp} {Q : VK} (q : tE g (eBin o f h) σ H Q) : tOp r (tE g f) (tE g h) σ H Q := by
  obtain ⟨β, H0, ρ, rr, q⟩ := q
  refine tE_then rr q fun d v H1 H2 st hv q1 => ?_
  have rr1 := rr.step st
  refine tE_then rr1 (wp_out st q1) fun d' v' H3 H4 st2 hv' q2 => ?_
  exact ho st2.ext st2.ok st2.boxf (hv.mono st2.grow) hv' (wp_out st2 q2)
theorem r_op {op : Operator} {r : R2} {o : D → D → T D} (ho : OpR X (binaryOp op) r) (hd : OpD r o) (ha : PE X a (tE g f)) (hb : PE X b (tE g h)) : PE X (.BinOp a op b pos) (tE g (eBin o f h)) :=
  (pe_op ho ha hb).imp fun _ _ _ q => tOp_of hd q
theorem r_cmp {op : CmpOp} {r : R2} {o : D → D → T D} (ho : OpR X (compareOp op) r) (hd : OpD r o) (ha : PE X a (tE g f)) (hb : PE X b (tE g h)) (hm : behindInMarks op b = false) : PE X (.Compare a [op] [b] pos) (tE g (eBin o f h)) :=
  (pe_cmpR ho ha hb hm).imp fun _ _ _ q => tOp_of hd q
theorem r_ix {r : R2} {o : D → D → T D} (hr : IxR X r) (hd : OpD r o) (ha : PE X a (tE g f)) (hb : PE X b (tE g h)) (hs : PlainIx b) : PE X (.Subscript a b pos) (tE g (eBin o f h)) :=
  (pe_ix hr ha hb hs).imp fun _ _ _ q => tOp_of hd q
theorem r_un {op : UnaryOp} {r : V → Hp → VK → Prop} {o : D → T D} (ho : UnR X (unaryOp op) r) (hd : UnD r o) (ha : PE X a (tE g f)) : PE X (.UnaryOp op a pos) (tE g (eUn o f)) :=
  (pe_un ho ha).imp fun σ H Q ⟨β, H0, ρ, rr, q⟩ => tE_then rr q fun d v H1 H2 st hv q1 => hd st.ext st.ok st.boxf hv (wp_out st q1)
/-- a op b op' c -/
def eCh (o o' : D → D → T D) (f h k : Env' → T D) : Env' → T D := fun ρ => (f ρ).bind fun x => (h ρ).bind fun y => (o x y).bind fun z => match z with
  | .bool true => (k ρ).bind fun w => o' y w
  | .bool false => .ret (.bool false)
  | _ => .bad
/-- an operation that makes nothing -/
def PuD (r : R2) (o : D → D → T D) : Prop := ∀ {H0 H : Hp} {v w : V} {x y : D} {α : Type} {Q : VK} {P : α → Prop} {E : Exn → Prop} {k : D → T α}, Same H0 H → Has H0 v x → Has H0 w y →
  ((o x y).bind k).wp P E → (∀ z b, z = .bool b → (k z).wp P E → Q (.bl b) H) → (∀ z, (∀ b, z ≠ .bool b) → (k z).wp P E → False) → r v w H Q
theorem tChain_of {r r' : R2} {o o' : D → D → T D} (ho : PuD r o) (ho' : OpD r' o') {σ : L2.St} {H : Hp} {Q : VK} (q : tE g (eCh o o' f h k) σ H Q) : tChain r r' (tE g f) (tE g h) (tE g k) σ H Q := by
  obtain ⟨β, H0, ρ, rr, q⟩ := q
  refine tE_then rr q fun d v H1 H2 st hv q1 => ?_
  have rr1 := rr.step st
  refine tE_then rr1 (wp_out st q1) fun d' v' H3 H4 st2 hv' q2 => ?_
  have rr2 := rr1.step st2
  refine ho st2.ext (hv.mono st2.grow) hv' (wp_out st2 q2) (fun z b ez qz => ?_) (fun z nz qz => ?_)
  · subst ez
    refine ⟨b, rfl, ?_⟩
    cases b with
    | true =>
      refine iteT ?_
      refine tE_then rr2 qz fun d3 v3 H5 H6 st3 hv3 q3 => ?_
      exact ho' st3.ext st3.ok st3.boxf (hv'.mono st3.grow) hv3 (wp_out st3 q3)
    | false =>
      refine iteF ?_
      exact qz (.bl false) H3 H4 rr2.refl (.bl false)
  · cases z with
    | bool b => exact nz b rfl
    | _ => exact qz
theorem r_chain {op op' : CmpOp} {r r' : R2} {o o' : D → D → T D} (ho : OpR X (compareOp op) r) (ho' : OpR X (compareOp op') r') (hd : PuD r o) (hd' : OpD r' o') (ha : PE X a (tE g f)) (hb : PE X b (tE g h)) (hc : PE X c (tE g k))
    (hm : lastMarks [op, op'] [b, c] = false := by with_unfolding_all rfl) : PE X (.Compare a [op, op'] [b, c] pos) (tE g (eCh o o' f h k)) :=
  (pe_chain ho ho' ha hb hc hm).imp fun _ _ _ q => tChain_of hd hd' q

/-! ### and, or, not, if as values -/
def eAnd (f h : Env' → T D) : Env' → T D := fun ρ => (f ρ).bind fun x => match x with
  | .bool true => h ρ
  | .bool false => .ret (.bool false)
  | _ => .bad
def eOr (f h : Env' → T D) : Env' → T D := fun ρ => (f ρ).bind fun x => match x with
  | .bool false => h ρ
  | .bool true => .ret (.bool true)
  | _ => .bad
def oNot : D → T D
  | .bool b => .ret (.bool (!b))
  | _ => .bad
def eIf (t f h : Env' → T D) : Env' → T D := fun ρ => (t ρ).bind fun x => match x with
  | .bool true => f ρ
  | .bool false => h ρ
  | _ => .bad
variable {rest : List Expr}
theorem r_and (ha : PE X a (tE g f)) (hb : PE X (.BoolOp .And (b :: rest) pos) (tE g h)) : PE X (.BoolOp .And (a :: b :: rest) pos) (tE g (eAnd f h)) :=
  (pe_and ha hb).imp fun σ H Q ⟨β, H0, ρ, rr, q⟩ => tE_then rr q fun d v H1 H2 st hv q1 => by
    cases hv with
    | bl z =>
      refine ⟨z, rfl, ?_⟩
      cases z with
      | true => exact iteT ⟨β, H1, ρ, rr.step st, wp_out st q1⟩
      | false => exact iteF (q1 (.bl false) H1 H2 st (.bl false))
    | _ => exact q1.elim
theorem r_or (ha : PE X a (tE g f)) (hb : PE X (.BoolOp .Or (b :: rest) pos) (tE g h)) : PE X (.BoolOp .Or (a :: b :: rest) pos) (tE g (eOr f h)) :=
  (pe_or ha hb).imp fun σ H Q ⟨β, H0, ρ, rr, q⟩ => tE_then rr q fun d v H1 H2 st hv q1 => by
    cases hv with
    | bl z =>
      refine ⟨z, rfl, ?_⟩
      cases z with
      | false => exact iteF ⟨β, H1, ρ, rr.step st, wp_out st q1⟩
      | true => exact iteT (q1 (.bl true) H1 H2 st (.bl true))
    | _ => exact q1.elim
theorem r_one {op} (ha : PE X a (tE g f)) : PE X (.BoolOp op [a] pos) (tE g f) := pe_one ha
theorem r_not (ha : PE X a (tE g f)) : PE X (.UnaryOp .Not a pos) (tE g (eUn oNot f)) :=
  (pe_not ha).imp fun σ H Q ⟨β, H0, ρ, rr, q⟩ => tE_then rr q fun d v H1 H2 st hv q1 => by
    cases hv with
    | bl z => exact ⟨z, rfl, q1 (.bl (!z)) H1 H2 st (.bl _)⟩
    | _ => exact q1.elim
/-! ### tests -/
theorem q_val (ha : PE X a (tE g f)) (he : ∀ whole, isTrue a X.env whole = (do let v ← whole; standAt a.pos; holding [v] (truthy v)) := by intro _; rfl) : PT X a (tT g f) :=
  (pt_val ha he).imp fun σ H Q ⟨β, H0, ρ, rr, q⟩ => ⟨β, H0, ρ, rr, T.wp_mono (fun d hd v H1 H2 st hv => by
    obtain ⟨z, e, hq⟩ := hd
    subst e
    cases hv
    exact ⟨z, rfl, hq H1 H2 st⟩) (fun _ z => z) _ q⟩
theorem q_cmp {op : CmpOp} {r : R2} {o : D → D → T D} (ho : OpR X (compareOp op) r) (hd : OpD r o) (ha : PE X a (tE g f)) (hb : PE X b (tE g h)) (hm : behindInMarks op b = false) : PT X (.Compare a [op] [b] pos) (tT g (eBin o f h)) :=
  (pt_cmpR ho ha hb hm).imp fun σ H Q ⟨β, H0, ρ, rr, q⟩ => tOp_of (Q := fun x H' => ∃ k, x = .bl k ∧ Q k H') hd ⟨β, H0, ρ, rr, T.wp_mono (fun d hd v H1 H2 st hv => by
    obtain ⟨z, e, hq⟩ := hd
    subst e
    cases hv
    exact ⟨z, rfl, hq H1 H2 st⟩) (fun _ z => z) _ q⟩
theorem q_chain {op op' : CmpOp} {r r' : R2} {o o' : D → D → T D} (ho : OpR X (compareOp op) r) (ho' : OpR X (compareOp op') r') (hd : PuD r o) (hd' : OpD r' o') (ha : PE X a (tE g f)) (hb : PE X b (tE g h)) (hc : PE X c (tE g k))
    (hm : lastMarks [op, op'] [b, c] = false := by with_unfolding_all rfl) : PT X (.Compare a [op, op'] [b, c] pos) (tT g (eCh o o' f h k)) :=
  (pt_chain ho ho' ha hb hc hm).imp fun σ H Q ⟨β, H0, ρ, rr, q⟩ => tChain_of (Q := fun x H' => ∃ k, x = .bl k ∧ Q k H') hd hd' ⟨β, H0, ρ, rr, T.wp_mono (fun d hd v H1 H2 st hv => by
    obtain ⟨z, e, hq⟩ := hd
    subst e
    cases hv
    exact ⟨z, rfl, hq H1 H2 st⟩) (fun _ z => z) _ q⟩
theorem tT_then {α : Type} {β : Box} {H0 H : Hp} {σ : L2.St} {ρ : Env'} {kk : D → T α} {P : α → Prop} {Q : Bool → Hp → Prop} (r : Rel g.cad β g.ξ H0 ρ σ H) (hw : ((f ρ).bind kk).wp P (g.X β H0 H σ))
    (hq : ∀ z H0' H', Stp β H0 H H0' H' → (kk (.bool z)).wp P (g.X β H0 H σ) → Q z H') (hn : ∀ d, (∀ z, d ≠ .bool z) → (kk d).wp P (g.X β H0 H σ) → False) : tT g f σ H Q :=
  ⟨β, H0, ρ, r, T.wp_mono (fun d hd => by
    cases d with
    | bool z => exact ⟨z, rfl, fun H1 H2 st => hq z H1 H2 st hd⟩
    | _ => exact (hn _ (fun _ z => by cases z) hd).elim) (fun _ h => h) _ ((T.wp_bind _ _).mp hw)⟩
def outB (β : Box) (H0 H : Hp) (Q : Bool → Hp → Prop) (d : D) : Prop := ∃ b, d = .bool b ∧ ∀ H0' H', Stp β H0 H H0' H' → Q b H'
theorem wp_outB {β : Box} {H0 H H0' H' : Hp} {σ : L2.St} {Q : Bool → Hp → Prop} {t : T D} (st : Stp β H0 H H0' H') (hw : t.wp (outB β H0 H Q) (g.X β H0 H σ)) : t.wp (outB β H0' H' Q) (g.X β H0' H' σ) :=
  T.wp_mono (fun _ ⟨b, e, q⟩ => ⟨b, e, fun H2 H3 s => q H2 H3 (st.trans s)⟩) (fun _ q => q.step st) t hw
theorem q_and (ha : PT X a (tT g f)) (hb : PW X (.BoolOp .And (b :: rest) pos) (tT g h)) : PW X (.BoolOp .And (a :: b :: rest) pos) (tT g (eAnd f h)) :=
  (pw_and ha hb).imp fun σ H Q ⟨β, H0, ρ, rr, q⟩ => tT_then (f := f) rr q (fun z H1 H2 st q1 => by
    cases z with
    | true => exact iteT ⟨β, H1, ρ, rr.step st, wp_outB st q1⟩
    | false =>
      obtain ⟨b, e, hq⟩ := q1
      cases e
      exact iteF (hq H1 H2 st)) (fun d hn q1 => by
    cases d with
    | bool z => exact hn z rfl
    | _ => exact q1)
theorem q_or (ha : PT X a (tT g f)) (hb : PW X (.BoolOp .Or (b :: rest) pos) (tT g h)) : PW X (.BoolOp .Or (a :: b :: rest) pos) (tT g (eOr f h)) :=
  (pw_or ha hb).imp fun σ H Q ⟨β, H0, ρ, rr, q⟩ => tT_then (f := f) rr q (fun z H1 H2 st q1 => by
    cases z with
    | false => exact iteF ⟨β, H1, ρ, rr.step st, wp_outB st q1⟩
    | true =>
      obtain ⟨b, e, hq⟩ := q1
      cases e
      exact iteT (hq H1 H2 st)) (fun d hn q1 => by
    cases d with
    | bool z => exact hn z rfl
    | _ => exact q1)
theorem q_and1 (ha : PT X a (tT g f)) : PW X (.BoolOp .And [a] pos) (tT g f) := pw_and1 ha
theorem q_or1 (ha : PT X a (tT g f)) : PW X (.BoolOp .Or [a] pos) (tT g f) := pw_or1 ha
theorem q_not (ha : PT X a (tT g f)) : PT X (.UnaryOp .Not a pos) (tT g (eUn oNot f)) :=
  (pt_not ha).imp fun σ H Q ⟨β, H0, ρ, rr, q⟩ => tT_then (f := f) rr q (fun z H1 H2 st q1 => by
    obtain ⟨b, e, hq⟩ := q1
    cases e
    exact hq H1 H2 st) (fun d hn q1 => by
    cases d with
    | bool z => exact hn z rfl
    | _ => exact q1)
theorem r_if (ht : PT X c (tT g k)) (ha : PE X a (tE g f)) (hb : PE X b (tE g h)) : PE X (.IfExp c a b pos) (tE g (eIf k f h)) :=
  (pe_ifExp ht ha hb).imp fun σ H Q ⟨β, H0, ρ, rr, q⟩ => tT_then (f := k) rr q (fun z H1 H2 st q1 => by
    cases z with
    | true => exact iteT ⟨β, H1, ρ, rr.step st, wp_out st q1⟩
    | false => exact iteF ⟨β, H1, ρ, rr.step st, wp_out st q1⟩) (fun d hn q1 => by
    cases d with
    | bool z => exact hn z rfl
    | _ => exact q1)
/-- truth of any data -/
def oTruth : D → T D
  | .none => .ret (.bool false)
  | .bool b => .ret (.bool b)
  | .int i => .ret (.bool (i != 0))
  | .str x => if x.length ≤ 1000000 then .ret (.bool ((x.length : Int) != 0)) else .bad
  | .list xs => .ret (.bool (!xs.isEmpty))
  | .tuple xs => .ret (.bool (!xs.isEmpty))
  | .dict kvs => .ret (.bool (!kvs.isEmpty))
theorem lim_line {n : Nat} (h : n ≤ 1000000) : n ≤ sizeLine := by
  rw [sizeLine_eq]
  omega
theorem HasL.isEmpty {H : Hp} {vs : List V} {ds : List D} (h : HasL H vs ds) : vs.isEmpty = ds.isEmpty := by
  cases h <;> rfl
theorem HasK.isEmpty {H : Hp} {vs : List (Key × V)} {ds : List (D × D)} (h : HasK H vs ds) : vs.isEmpty = ds.isEmpty := by
  cases h <;> rfl
theorem q_truth (ha : PE X a (tE g f)) (he : ∀ whole, isTrue a X.env whole = (do let v ← whole; standAt a.pos; holding [v] (truthy v)) := by intro _; rfl) : PT X a (tT g (eUn oTruth f)) :=
  (pt_truth ha he).imp fun σ H Q ⟨β, H0, ρ, rr, q⟩ => tE_then rr q fun d v H1 H2 st hv q1 => by
    have fin : ∀ {z : Bool}, (T.ret (PyData.bool z)).wp (outB β H0 H Q) (g.X β H0 H σ) → Q z H2 := fun ⟨b, e, hq⟩ => by
      cases e
      exact hq H1 H2 st
    cases hv with
    | non => exact ⟨false, rfl, fin q1⟩
    | bl z => exact ⟨z, rfl, fin q1⟩
    | int i => exact ⟨i != 0, rfl, fin q1⟩
    | str x =>
      have q1 : (if x.length ≤ 1000000 then T.ret (PyData.bool ((x.length : Int) != 0)) else .bad).wp (outB β H0 H Q) (g.X β H0 H σ) := q1
      by_cases hx : x.length ≤ 1000000
      · rw [if_pos hx] at q1
        exact ⟨_, ⟨lim_line hx, rfl⟩, fin q1⟩
      · rw [if_neg hx] at q1
        exact q1.elim
    | lst h1 h2 => exact ⟨_, .inl ⟨_, SqL.of (st.ext _ _ h1), by rw [h2.isEmpty]⟩, fin q1⟩
    | tup h1 h2 => exact ⟨_, .inr (.inl ⟨_, SqT.of (st.ext _ _ h1), by rw [h2.isEmpty]⟩), fin q1⟩
    | dct h1 h2 => exact ⟨_, .inr (.inr ⟨_, st.ext _ _ h1, by rw [h2.isEmpty]⟩), fin q1⟩

/-! ### arguments, displays, calls -/
variable {es : List Expr} {fs : Env' → T (List Ar)}
def aNil : Env' → T (List Ar) := fun _ => .ret []
def aCons (f : Env' → T D) (fs : Env' → T (List Ar)) : Env' → T (List Ar) := fun ρ => (f ρ).bind fun d => (fs ρ).bind fun r => .ret (.d d :: r)
def aBox (i : Nat) (fs : Env' → T (List Ar)) : Env' → T (List Ar) := fun ρ => match ρ[i]? with
  | some (.box k) => (fs ρ).bind fun r => .ret (.box k :: r)
  | _ => .bad
theorem a_nil : PA X [] (tA g aNil) := pa_nil.imp fun _ _ _ ⟨_, H0, _, r, q⟩ => q [] H0 _ r.refl .nil
theorem a_cons (ha : PE X a (tE g f)) (hr : PA X es (tA g fs)) (hs : starEach (a :: es) X.env = (false, eval a X.env) :: starEach es X.env := by rfl) : PA X (a :: es) (tA g (aCons f fs)) :=
  (pa_cons ha hr hs).imp fun σ H Q ⟨β, H0, ρ, rr, q⟩ => tE_then rr q fun d v H1 H2 st hv q1 => by
    have q2 := T.wp_mono (fun (as : List Ar) (h : ∀ vs H0' H', Stp β H0 H H0' H' → HasAs β H0' vs as → Q vs H') vs H0' H' s e => h vs H0' H' (st.trans s) e) (fun x (h : g.X β H0 H σ x) => h.step st) _ q1
    refine tA_then (rr.step st) q2 fun as vs H3 H4 st2 hvs q3 => ?_
    exact q3 (v :: vs) H3 H4 st2 (.cons (hv.mono st2.grow) hvs)
theorem a_box {i : Nat} {x : Str} {p : Pos} (hp : PE X (.Name x p) (tVar i)) (hr : PA X es (tA g fs)) (hs : starEach (.Name x p :: es) X.env = (false, eval (.Name x p) X.env) :: starEach es X.env := by rfl) : PA X (.Name x p :: es) (tA g (aBox i fs)) :=
  (pa_cons hp hr hs).imp fun σ H Q ⟨β, H0, ρ, rr, q⟩ => by
    unfold aBox at q
    split at q
    · next k hx =>
      have hl : i < σ.length := by
        rw [← rr.len]
        exact (List.getElem?_eq_some_iff.mp hx).1
      obtain ⟨v, e', hb⟩ := rr.sl i _ _ hx (List.getElem?_eq_getElem hl)
      refine ⟨v, by rw [List.getElem?_eq_getElem hl, e'], ?_⟩
      refine tA_then rr q fun as vs H3 H4 st2 hvs q3 => ?_
      exact q3 (v :: vs) H3 H4 st2 (.cons hb hvs)
    · exact q.elim
theorem HasAs.ds {β : Box} {H0 : Hp} : ∀ {vs : List V} {as : List Ar} {ds : List D}, HasAs β H0 vs as → as = ds.map Ar.d → HasL H0 vs ds
  | _, _, [], .nil, _ => .nil
  | _, _, d :: ds, .cons h r, e => by
    rw [List.map_cons] at e
    injection e with e1 e2
    subst e1
    exact .cons h (HasAs.ds r e2)
def dsOf : List Ar → Option (List D)
  | [] => some []
  | .d x :: r => (dsOf r).map (x :: ·)
  | .box _ :: _ => none
theorem dsOf_some : ∀ {as : List Ar} {ds : List D}, dsOf as = some ds → as = ds.map Ar.d
  | [], ds, h => by
    cases h
    rfl
  | .d x :: r, ds, h => by
    unfold dsOf at h
    cases q : dsOf r with
    | none =>
      rw [q] at h
      cases h
    | some es =>
      rw [q] at h
      cases h
      rw [dsOf_some q]
      rfl
  | .box _ :: _, _, h => by cases h
def eTup (fs : Env' → T (List Ar)) : Env' → T D := fun ρ => (fs ρ).bind fun as => match dsOf as with
  | some ds => if ds.length ≤ 1000000 then .ret (.tuple ds) else .bad
  | none => .bad
def eLst (fs : Env' → T (List Ar)) : Env' → T D := fun ρ => (fs ρ).bind fun as => match dsOf as with
  | some ds => if ds.length ≤ 1000000 then .ret (.list ds) else .bad
  | none => .bad
theorem upd_has {H : Hp} {p : Addr} {o : HO} {vs : List V} {ds : List D} (hp : H p = none) (h : HasL H vs ds) : HasL (upd H p o) vs ds :=
  h.mono fun b u e => by
    rw [upd_ne (ne_of_none e hp)]
    exact e
theorem r_tup {x1} (hs : PA X es (tA g fs)) : PE X (.Tuple es x1 pos) (tE g (eTup fs)) :=
  (pe_tup hs).imp fun σ H Q ⟨β, H0, ρ, rr, q⟩ => tA_then rr q fun as vs H1 H2 st hv q1 => by
    split at q1
    · next ds e =>
      split at q1
      · next hz =>
        have hl := hv.ds (dsOf_some e)
        have hlen := hl.length
        refine ⟨lim_line (by omega), fun p hp => ?_⟩
        have hp1 : H1 p = none := st.ext.free hp
        exact q1 (.ref p) _ _ (st.trans (Stp.new st.ext st.ok st.boxf hp)) (.tup upd_same (upd_has hp1 hl))
      · exact q1.elim
    · exact q1.elim
theorem r_lst (hs : PA X es (tA g fs)) : PE X (.List es pos) (tE g (eLst fs)) :=
  (pe_lst hs).imp fun σ H Q ⟨β, H0, ρ, rr, q⟩ => tA_then rr q fun as vs H1 H2 st hv q1 => by
    split at q1
    · next ds e =>
      split at q1
      · next hz =>
        have hl := hv.ds (dsOf_some e)
        have hlen := hl.length
        refine ⟨lim_line (by omega), fun p hp => ?_⟩
        have hp1 : H1 p = none := st.ext.free hp
        exact q1 (.ref p) _ _ (st.trans (Stp.new st.ext st.ok st.boxf hp)) (.lst upd_same (upd_has hp1 hl))
      · exact q1.elim
    · exact q1.elim
/-- a built-in function, a built-in class, a module's function: by its name -/
def eCb (o : List Ar → T D) (fs : Env' → T (List Ar)) : Env' → T D := fun ρ => (fs ρ).bind o
theorem tCB_of {r : List V → Hp → VK → Prop} {o : List Ar → T D} (hd : CaD r o) {σ : L2.St} {H : Hp} {Q : VK} (q : tE g (eCb o fs) σ H Q) : tCB r (tA g fs) σ H Q := by
  obtain ⟨β, H0, ρ, rr, q⟩ := q
  exact tA_then rr q fun as vs H1 H2 st hv q1 => hd st.ext st.ok st.boxf hv (wp_out st q1)
theorem r_b {x : Str} {id : String} {p : Pos} {r : List V → Hp → VK → Prop} {o : List Ar → T D} (hc : CallR X (.builtin id) r) (hd : CaD r o) (hg : Gl X x) (hm : X.mg x = none) (hv : bootBuiltins x = some (.builtin id)) (ha : PA X (a :: es) (tA g fs))
    (hn : x ≠ "__name__" := by decide) (hdb : (x == ("__debug__" : Str)) = false := by decide)
    (he : starEach (a :: es) X.env = (false, eval a X.env) :: starEach es X.env := by rfl) (hpl : (backTo pos (starEach es X.env)).any (·.1) = false := by rfl) : PE X (.Call (.Name x p) (a :: es) [] pos) (tE g (eCb o fs)) :=
  (pe_callB hc hg hm hv ha hn hdb he hpl).imp fun _ _ _ q => tCB_of hd q
theorem r_bt {x : Str} {id : String} {p : Pos} {r : List V → Hp → VK → Prop} {o : List Ar → T D} (hc : CallR X (.type id) r) (hd : CaD r o) (hg : Gl X x) (hm : X.mg x = none) (hv : bootBuiltins x = some (.type id)) (ha : PA X (a :: es) (tA g fs))
    (hn : x ≠ "__name__" := by decide) (hdb : (x == ("__debug__" : Str)) = false := by decide)
    (he : starEach (a :: es) X.env = (false, eval a X.env) :: starEach es X.env := by rfl) (hpl : (backTo pos (starEach es X.env)).any (·.1) = false := by rfl) : PE X (.Call (.Name x p) (a :: es) [] pos) (tE g (eCb o fs)) :=
  (pe_callTy hc hg hm hv ha hn hdb he hpl).imp fun _ _ _ q => tCB_of hd q
theorem r_bf {x : Str} {id : String} {p : Pos} {r : List V → Hp → VK → Prop} {o : List Ar → T D} (hc : CallR X (.builtin id) r) (hd : CaD r o) (hg : Gl X x) (hm : X.mg x = some (.builtin id)) (ha : PA X (a :: es) (tA g fs)) (hdb : (x == ("__debug__" : Str)) = false := by decide)
    (he : starEach (a :: es) X.env = (false, eval a X.env) :: starEach es X.env := by rfl) (hpl : (backTo pos (starEach es X.env)).any (·.1) = false := by rfl) : PE X (.Call (.Name x p) (a :: es) [] pos) (tE g (eCb o fs)) :=
  (pe_callBfun hc hg hm ha hdb he hpl).imp fun _ _ _ q => tCB_of hd q

/-! ### a def's promise in data, its call -/
/-- the def does m with its n arguments -/
def spD (cad : Cad) (n : Nat) (m : List Ar → T D) : Sp := fun vs H Q E => vs.length = n ∧ ∃ β H0 as, Same H0 H ∧ β.ok H ∧ (∀ a, β.S a → H0 a = none) ∧ TabsIn cad β ∧ HasAs β H0 vs as ∧
  (m as).wp (Out β H0 H Q) (fun x => ∀ c dx H0' H', Stp β H0 H H0' H' → ExcIs cad x c dx H0' → E c dx H')
def eCall (n : Nat) (m : List Ar → T D) (fs : Env' → T (List Ar)) : Env' → T D := fun ρ => (fs ρ).bind fun as => if as.length = n then m as else .bad
theorem tCallW_of {n : Nat} {m : List Ar → T D} {σ : L2.St} {H : Hp} {Q : VK} (q : tE g (eCall n m fs) σ H Q) : tCallW (spD g.cad n m) [] g.W (tA g fs) σ H Q := by
  obtain ⟨β, H0, ρ, rr, q⟩ := q
  refine tA_then rr q fun as vs H1 H2 st hv q1 => ?_
  by_cases hl : as.length = n
  · rw [if_pos hl] at q1
    have lv := hv.length
    rw [List.append_nil]
    exact ⟨lv.trans hl, β, H1, as, st.ext, st.ok, st.boxf, rr.tabs, hv, wp_out st q1⟩
  · rw [if_neg hl] at q1
    exact q1.elim
theorem r_call {x : Str} {p : Pos} {j n : Nat} {fa : Addr} {fd : FuncData} {ps : List Str} {m : List Ar → T D} (F : FnG X.prog X.w X.K X.mg X.base j fa fd ps (spD g.cad n m)) (hr : Room j X.A) (hgu : X.A.guards = some []) (hg : Gl X x) (hm : X.mg x = some (.ref fa))
    (hk : PySem.W.keepIn X.K (.ref fa) = true) (hb : Binds X.K fd ps []) (tk : Takes X g.W) (ha : PA X (a :: es) (tA g fs)) (hdb : (x == ("__debug__" : Str)) = false := by decide)
    (he : starEach (a :: es) X.env = (false, eval a X.env) :: starEach es X.env := by rfl) (hpl : (backTo pos (starEach es X.env)).any (·.1) = false := by rfl) : PE X (.Call (.Name x p) (a :: es) [] pos) (tE g (eCall n m fs)) :=
  (pe_callG F hr hgu hg hm hk hb .nil tk ha hdb he hpl).imp fun _ _ _ q => tCallW_of q
theorem r_call0 {x : Str} {p : Pos} {j n : Nat} {fa : Addr} {fd : FuncData} {ps : List Str} {m : List Ar → T D} (F : FnG X.prog X.w X.K X.mg X.base j fa fd ps (spD g.cad n m)) (hr : Room j X.A) (hgu : X.A.guards = some []) (hg : Gl X x) (hm : X.mg x = some (.ref fa))
    (hk : PySem.W.keepIn X.K (.ref fa) = true) (hb : Binds X.K fd ps []) (tk : Takes X g.W) (hdb : (x == ("__debug__" : Str)) = false := by decide) : PE X (.Call (.Name x p) [] [] pos) (tE g (eCall n m aNil)) :=
  (pe_callG0 F hr hgu hg hm hk hb .nil tk hdb).imp fun σ H Q ⟨β, H0, ρ, rr, q⟩ => by
    refine tCallW_of (fs := aNil) ⟨β, H0, ρ, rr, q⟩ |> fun z => ?_
    obtain ⟨β', H0', ρ', rr', z⟩ := z
    exact z [] H0' H rr'.refl .nil

/-! ### slices -/
def tO (g : Ct) (f : Env' → T (Option Int)) : TO := fun σ H Q => ∃ β H0 ρ, Rel g.cad β g.ξ H0 ρ σ H ∧ (f ρ).wp (fun o => ∀ H0' H', Stp β H0 H H0' H' → Q o H') (g.X β H0 H σ)
def pNone : Env' → T (Option Int) := fun _ => .ret none
def pSome (f : Env' → T D) : Env' → T (Option Int) := fun ρ => (f ρ).bind fun d => match d with
  | .int i => .ret (some i)
  | _ => .bad
theorem p_none : PO X none (tO g pNone) := po_none.imp fun _ _ _ ⟨_, H0, _, r, q⟩ => q H0 _ r.refl
theorem p_some (ha : PE X a (tE g f)) : PO X (some a) (tO g (pSome f)) := (po_some ha).imp fun σ H Q ⟨β, H0, ρ, rr, q⟩ => tE_then rr q fun d v H1 H2 st hv q1 => by
  cases hv with
  | int i => exact ⟨i, rfl, q1 H1 H2 st⟩
  | _ => exact q1.elim
def cutD (xs : List D) (lo hi : Option Int) : List D := (xs.drop (HT.sIx xs.length 0 lo)).take (HT.sIx xs.length xs.length hi - HT.sIx xs.length 0 lo)
theorem HasL.cut {H : Hp} {vs : List V} {ds : List D} (h : HasL H vs ds) (lo hi : Option Int) : HasL H (cutV vs lo hi) (cutD ds lo hi) := by
  unfold cutV cutD
  rw [h.length]
  exact (h.drop _).take _
def oSl (x : D) (lo hi : Option Int) : T D := match x with
  | .list xs => .ret (.list (cutD xs lo hi))
  | .tuple xs => .ret (.tuple (cutD xs lo hi))
  | _ => .bad
def eSl (f : Env' → T D) (l u : Env' → T (Option Int)) : Env' → T D := fun ρ => (f ρ).bind fun x => (l ρ).bind fun lo => (u ρ).bind fun hi => oSl x lo hi
variable {lo hi : Option Expr} {l u : Env' → T (Option Int)} {p2 : Pos}
theorem tO_then {α : Type} {β : Box} {H0 H : Hp} {σ : L2.St} {ρ : Env'} {ff : Env' → T (Option Int)} {kk : Option Int → T α} {P : α → Prop} {Q : Option Int → Hp → Prop} (r : Rel g.cad β g.ξ H0 ρ σ H) (h : ((ff ρ).bind kk).wp P (g.X β H0 H σ))
    (hq : ∀ o H0' H', Stp β H0 H H0' H' → (kk o).wp P (g.X β H0 H σ) → Q o H') : tO g ff σ H Q :=
  ⟨β, H0, ρ, r, T.wp_mono (fun d hd H0' H' st => hq d H0' H' st hd) (fun _ h => h) _ ((T.wp_bind _ _).mp h)⟩
theorem r_sl (ha : PE X a (tE g f)) (hl : PO X lo (tO g l)) (hu : PO X hi (tO g u)) : PE X (.Subscript a (.Slice lo hi none p2) pos) (tE g (eSl f l u)) :=
  (pe_slice (SlR.or sl_list sl_tupA) ha hl hu).imp fun σ H Q ⟨β, H0, ρ, rr, q⟩ => tE_then rr q fun d v H1 H2 st hv q1 => by
    have rr1 := rr.step st
    refine tO_then rr1 (wp_out st q1) fun o1 H3 H4 st2 q2 => ?_
    have rr2 := rr1.step st2
    refine tO_then rr2 (wp_out st2 q2) fun o2 H5 H6 st3 q3 => ?_
    have q4 := wp_out st3 q3
    have hv' := (hv.mono st2.grow).mono st3.grow
    cases hv' with
    | lst h1 h2 =>
      refine .inl ⟨_, _, rfl, SqL.of (st3.ext _ _ h1), fun p hp => ?_⟩
      have hp1 : H5 p = none := st3.ext.free hp
      exact q4 (.ref p) _ _ (Stp.new st3.ext st3.ok st3.boxf hp) (.lst upd_same (upd_has hp1 (h2.cut _ _)))
    | @tup a xs ds h1 h2 =>
      refine .inr ⟨_, _, rfl, SqT.of (st3.ext _ _ h1), fun hw => ?_, fun hw p hp => ?_⟩
      · have ec : cutD ds o1 o2 = ds := by
          unfold cutD
          rw [← h2.length, hw.1, hw.2]
          simp [h2.length]
        have q5 : (T.ret (PyData.tuple ds)).wp (Out β H5 H6 Q) (g.X β H5 H6 σ) := by
          have z : (T.ret (PyData.tuple (cutD ds o1 o2))).wp (Out β H5 H6 Q) (g.X β H5 H6 σ) := q4
          rw [ec] at z
          exact z
        exact q5 (.ref a) H5 H6 (Stp.refl st3.ext st3.ok st3.boxf) (.tup h1 h2)
      · have hp1 : H5 p = none := st3.ext.free hp
        exact q4 (.ref p) _ _ (Stp.new st3.ext st3.ok st3.boxf hp) (.tup upd_same (upd_has hp1 (h2.cut _ _)))
    | _ => exact q4.elim
end
end Wb

set_option Elab.async false
set_option linter.all false
set_option maxRecDepth 100000
set_option maxHeartbeats 4000000
/-! Wb, part 3: the operations on data. -/
namespace Wb
open PySem PySem.Spec PyProof.Rows L2

theorem opOr {X : Cx} {f : Value → Value → Sem Value} {r r' : R2} (h : OpR X f r) (h' : OpR X f r') : OpR X f (fun x y H Q => r x y H Q ∨ r' x y H Q) := by
  intro pins s σ H x y v u Q I rx ry q
  cases q with
  | inl q => exact h pins s σ H x y v u Q I rx ry q
  | inr q => exact h' pins s σ H x y v u Q I rx ry q
section
variable {β : Box} {H0 H : Hp} {Q : VK} {E : Exn → Prop}
theorem out_ret {v : V} {d : D} (e : Same H0 H) (ok : β.ok H) (bf : ∀ a, β.S a → H0 a = none) (hv : Has H0 v d) (q : (T.ret d).wp (Out β H0 H Q) E) : Q v H := q v H0 H (Stp.refl e ok bf) hv
theorem out_lst {p : Addr} {vs : List V} {ds : List D} (e : Same H0 H) (ok : β.ok H) (bf : ∀ a, β.S a → H0 a = none) (hp : H p = none) (hv : HasL H0 vs ds) (q : (T.ret (PyData.list ds)).wp (Out β H0 H Q) E) : Q (.ref p) (upd H p (.lst vs)) :=
  q (.ref p) _ _ (Stp.new e ok bf hp) (.lst upd_same (upd_has (e.free hp) hv))
theorem out_tup {p : Addr} {vs : List V} {ds : List D} (e : Same H0 H) (ok : β.ok H) (bf : ∀ a, β.S a → H0 a = none) (hp : H p = none) (hv : HasL H0 vs ds) (q : (T.ret (PyData.tuple ds)).wp (Out β H0 H Q) E) : Q (.ref p) (upd H p (.tup vs)) :=
  q (.ref p) _ _ (Stp.new e ok bf hp) (.tup upd_same (upd_has (e.free hp) hv))
end

/-! ### + - * // % ** -/
def oAdd : D → D → T D
  | .int i, .int j => .ret (.int (i + j))
  | .str x, .str y => if x.length + y.length ≤ 1000000 then .ret (.str (x ++ y)) else .bad
  | .tuple xs, .tuple ys => if xs.length + ys.length ≤ 1000000 then .ret (.tuple (xs ++ ys)) else .bad
  | .list xs, .list ys => if xs.length + ys.length ≤ 1000000 then .ret (.list (xs ++ ys)) else .bad
  | _, _ => .bad
def rAddD (K : PySem.W.Frag) : R2 := fun x y H Q => rI0 (fun i j => .int (i + j)) x y H Q ∨ (∃ i j, x = .str i ∧ y = .str j ∧ i.length + j.length ≤ sizeLine ∧ Q (.str (i ++ j)) H) ∨ rCatA K x y H Q ∨ rCat x y H Q
theorem op_addD {X : Cx} : OpR X (binaryOp .Add) (rAddD X.K) := opOr op_add (opOr op_add_str (opOr op_catA op_cat))
theorem d_add {K : PySem.W.Frag} : OpD (rAddD K) oAdd := by
  intro β H0 H v w x y Q E e ok bf hv hw q
  cases hv with
  | int i =>
    cases hw with
    | int j => exact .inl ⟨i, j, rfl, rfl, out_ret e ok bf (.int _) q⟩
    | _ => exact q.elim
  | str a =>
    cases hw with
    | str b =>
      have q : (if a.length + b.length ≤ 1000000 then T.ret (PyData.str (a ++ b)) else .bad).wp (Out β H0 H Q) E := q
      by_cases z : a.length + b.length ≤ 1000000
      · rw [if_pos z] at q
        exact .inr (.inl ⟨a, b, rfl, rfl, lim_line z, out_ret e ok bf (.str _) q⟩)
      · rw [if_neg z] at q
        exact q.elim
    | _ => exact q.elim
  | @tup a xs ds h1 h2 =>
    cases hw with
    | @tup b ys es h3 h4 =>
      have q : (if ds.length + es.length ≤ 1000000 then T.ret (PyData.tuple (ds ++ es)) else .bad).wp (Out β H0 H Q) E := q
      by_cases z : ds.length + es.length ≤ 1000000
      · rw [if_pos z] at q
        have l1 := h2.length
        have l2 := h4.length
        refine .inr (.inr (.inl ⟨a, b, xs, ys, rfl, rfl, SqT.of (e _ _ h1), SqT.of (e _ _ h3), lim_line (by omega), fun ex => ?_, fun _ ey => ?_, fun _ _ p hp => ?_⟩))
        · subst ex
          cases h2
          exact out_ret e ok bf (.tup h3 h4) q
        · subst ey
          cases h4
          rw [List.append_nil] at q
          exact out_ret e ok bf (.tup h1 h2) q
        · exact out_tup e ok bf hp (h2.append h4) q
      · rw [if_neg z] at q
        exact q.elim
    | _ => exact q.elim
  | @lst a xs ds h1 h2 =>
    cases hw with
    | @lst b ys es h3 h4 =>
      have q : (if ds.length + es.length ≤ 1000000 then T.ret (PyData.list (ds ++ es)) else .bad).wp (Out β H0 H Q) E := q
      by_cases z : ds.length + es.length ≤ 1000000
      · rw [if_pos z] at q
        have l1 := h2.length
        have l2 := h4.length
        exact .inr (.inr (.inr ⟨a, b, xs, ys, rfl, rfl, e _ _ h1, e _ _ h3, lim_line (by omega), fun p hp => out_lst e ok bf hp (h2.append h4) q⟩))
      · rw [if_neg z] at q
        exact q.elim
    | _ => exact q.elim
  | _ => exact q.elim
def oInt2 (C : Int → Int → Bool) (h : Int → Int → D) : D → D → T D
  | .int i, .int j => if C i j = true then .ret (h i j) else .bad
  | _, _ => .bad
theorem d_int2 {r : R2} {C : Int → Int → Bool} {h : Int → Int → D} (hr : ∀ (i j : Int) (H : Hp) (Q : VK) (v : V), C i j = true → (∀ H0, Has H0 v (h i j)) → Q v H → r (.int i) (.int j) H Q) (hv' : ∀ i j, ∃ v, ∀ H0, Has H0 v (h i j)) : OpD r (oInt2 C h) := by
  intro β H0 H v w x y Q E e ok bf hv hw q
  cases hv with
  | int i =>
    cases hw with
    | int j =>
      have q : (if C i j = true then T.ret (h i j) else .bad).wp (Out β H0 H Q) E := q
      by_cases z : C i j = true
      · rw [if_pos z] at q
        obtain ⟨u, hu⟩ := hv' i j
        exact hr i j H Q u z hu (out_ret e ok bf (hu H0) q)
      · rw [if_neg z] at q
        exact q.elim
    | _ => exact q.elim
  | _ => exact q.elim
abbrev oSub := oInt2 (fun _ _ => true) (fun i j => .int (i - j))
theorem has_int_eq {v : V} {i : Int} (h : ∀ H0, Has H0 v (.int i)) : v = .int i := by
  cases h (fun _ => none)
  rfl
theorem has_bl_eq {v : V} {b : Bool} (h : ∀ H0, Has H0 v (.bool b)) : v = .bl b := by
  cases h (fun _ => none)
  rfl
theorem d_sub : OpD (rI0 fun i j => .int (i - j)) oSub := d_int2 (fun i j H Q v _ hv q => by
  rw [has_int_eq hv] at q
  exact ⟨i, j, rfl, rfl, q⟩) fun i j => ⟨.int _, fun _ => .int _⟩
/-- a factor below 2 ^ 64, or both together below a million bits; also a tuple, a list so many times -/
def cMul (i j : Int) : Bool := decide (i.natAbs < 18446744073709551616) || decide (j.natAbs < 18446744073709551616) || decide (i.natAbs.log2 + j.natAbs.log2 < 1000000)
def oMul : D → D → T D
  | .int i, .int j => if cMul i j = true then .ret (.int (i * j)) else .bad
  | .tuple xs, .int k => if xs ≠ [] ∧ 2 ≤ k ∧ k ≤ 1000 ∧ xs.length ≤ 1000 then .ret (.tuple (List.replicate k.toNat xs).flatten) else .bad
  | .list xs, .int k => if 0 ≤ k ∧ k ≤ 1000 ∧ xs.length ≤ 1000 then .ret (.list (List.replicate k.toNat xs).flatten) else .bad
  | _, _ => .bad
def rMulD (K : PySem.W.Frag) : R2 := fun x y H Q => rI CMul (fun i j => .int (i * j)) x y H Q ∨ rI CMulW (fun i j => .int (i * j)) x y H Q ∨ rRepT K x y H Q ∨ rRep x y H Q
theorem op_mulD {X : Cx} : OpR X (binaryOp .Mult) (rMulD X.K) := opOr op_mul (opOr op_mulW (opOr op_repT op_rep))
theorem HasL.rep {H : Hp} {vs : List V} {ds : List D} (h : HasL H vs ds) : ∀ n : Nat, HasL H (List.replicate n vs).flatten (List.replicate n ds).flatten
  | 0 => .nil
  | n + 1 => by
    rw [List.replicate_succ, List.replicate_succ, List.flatten_cons, List.flatten_cons]
    exact h.append (HasL.rep h n)
theorem natAbs_small {i : Int} (h : i.natAbs < 18446744073709551616) : -(2 ^ 64) < i ∧ i < 2 ^ 64 := by
  constructor <;> omega
theorem cMul_int {i j : Int} (h : cMul i j = true) : CMul i j ∨ CMulW i j := by
  unfold cMul at h
  simp only [Bool.or_eq_true, decide_eq_true_eq] at h
  rcases h with (h | h) | h
  · exact .inl (.inl (natAbs_small h))
  · exact .inl (.inr (natAbs_small h))
  · exact .inr h
theorem d_mul {K : PySem.W.Frag} : OpD (rMulD K) oMul := by
  intro β H0 H v w x y Q E e ok bf hv hw q
  cases hv with
  | int i =>
    cases hw with
    | int j =>
      have q : (if cMul i j = true then T.ret (PyData.int (i * j)) else .bad).wp (Out β H0 H Q) E := q
      by_cases z : cMul i j = true
      · rw [if_pos z] at q
        rcases cMul_int z with c | c
        · exact .inl ⟨i, j, rfl, rfl, c, out_ret e ok bf (.int _) q⟩
        · exact .inr (.inl ⟨i, j, rfl, rfl, c, out_ret e ok bf (.int _) q⟩)
      · rw [if_neg z] at q
        exact q.elim
    | _ => exact q.elim
  | @tup a xs ds h1 h2 =>
    cases hw with
    | int k =>
      have q : (if ds ≠ [] ∧ 2 ≤ k ∧ k ≤ 1000 ∧ ds.length ≤ 1000 then T.ret (PyData.tuple (List.replicate k.toNat ds).flatten) else .bad).wp (Out β H0 H Q) E := q
      by_cases z : ds ≠ [] ∧ 2 ≤ k ∧ k ≤ 1000 ∧ ds.length ≤ 1000
      · rw [if_pos z] at q
        have l1 := h2.length
        have ne : xs ≠ [] := fun c => by
          subst c
          cases h2
          exact z.1 rfl
        exact .inr (.inr (.inl ⟨a, k, xs, rfl, rfl, SqT.of (e _ _ h1), ne, z.2.1, z.2.2.1, by omega, fun p hp => out_tup e ok bf hp (h2.rep _) q⟩))
      · rw [if_neg z] at q
        exact q.elim
    | _ => exact q.elim
  | @lst a xs ds h1 h2 =>
    cases hw with
    | int k =>
      have q : (if 0 ≤ k ∧ k ≤ 1000 ∧ ds.length ≤ 1000 then T.ret (PyData.list (List.replicate k.toNat ds).flatten) else .bad).wp (Out β H0 H Q) E := q
      by_cases z : 0 ≤ k ∧ k ≤ 1000 ∧ ds.length ≤ 1000
      · rw [if_pos z] at q
        have l1 := h2.length
        have hk : xs.length * k.toNat ≤ 1000 * 1000 := Nat.mul_le_mul (by omega) (by omega)
        refine .inr (.inr (.inr ⟨a, k, xs, rfl, rfl, e _ _ h1, by omega, by omega, lim_line (by omega), fun p hp => ?_⟩))
        exact out_lst e ok bf hp (h2.rep _) q
      · rw [if_neg z] at q
        exact q.elim
    | _ => exact q.elim
  | _ => exact q.elim
def cDiv (_ j : Int) : Bool := decide (j ≠ 0) && (decide (j.natAbs < 1073741824) || (decide (0 < j) && decide (j.natAbs.log2 < 9000)))
abbrev oFdiv := oInt2 cDiv (fun i j => .int (i.fdiv j))
def rFdivD : R2 := fun x y H Q => rI CDivN (fun i j => .int (i.fdiv j)) x y H Q ∨ rI CDivW (fun i j => .int (i / j)) x y H Q
theorem op_fdivD {X : Cx} : OpR X (binaryOp .FloorDiv) rFdivD := opOr op_fdivN op_fdivW
theorem d_fdiv : OpD rFdivD oFdiv := d_int2 (fun i j H Q v c hv q => by
  rw [has_int_eq hv] at q
  unfold cDiv at c
  simp only [Bool.and_eq_true, Bool.or_eq_true, decide_eq_true_eq] at c
  rcases c.2 with c2 | c2
  · exact .inl ⟨i, j, rfl, rfl, ⟨c.1, c2⟩, q⟩
  · refine .inr ⟨i, j, rfl, rfl, c2, ?_⟩
    rw [Int.fdiv_eq_ediv_of_nonneg i (by omega)] at q
    exact q) fun i j => ⟨.int _, fun _ => .int _⟩
abbrev oMod := oInt2 (fun _ j => decide (j ≠ 0)) (fun i j => .int (i.fmod j))
theorem d_mod : OpD (rI (fun _ j => j ≠ 0) fun i j => .int (i.fmod j)) oMod := d_int2 (fun i j H Q v c hv q => by
  rw [has_int_eq hv] at q
  exact ⟨i, j, rfl, rfl, of_decide_eq_true c, q⟩) fun i j => ⟨.int _, fun _ => .int _⟩
abbrev oPow := oInt2 (fun i j => decide (0 ≤ j) && decide (j ≤ 1000) && decide (i.natAbs < 1000)) (fun i j => .int (i ^ j.toNat))
theorem d_pow : OpD (rI CPow fun i j => .int (i ^ j.toNat)) oPow := d_int2 (fun i j H Q v c hv q => by
  rw [has_int_eq hv] at q
  simp only [Bool.and_eq_true, decide_eq_true_eq] at c
  exact ⟨i, j, rfl, rfl, ⟨c.1.1, by omega, by omega⟩, q⟩) fun i j => ⟨.int _, fun _ => .int _⟩
def oNeg : D → T D
  | .int i => .ret (.int (-i))
  | _ => .bad
theorem d_neg : UnD (rU fun i => .int (-i)) oNeg := by
  intro β H0 H v x Q E e ok bf hv q
  cases hv with
  | int i => exact ⟨i, rfl, out_ret e ok bf (.int _) q⟩
  | _ => exact q.elim

/-! ### comparisons -/
abbrev oCmp (c : Int → Int → Bool) := oInt2 (fun _ _ => true) (fun i j => .bool (c i j))
theorem d_cmp {c : Int → Int → Bool} : OpD (rI0 fun i j => .bl (c i j)) (oCmp c) := d_int2 (fun i j H Q v _ hv q => by
  rw [has_bl_eq hv] at q
  exact ⟨i, j, rfl, rfl, q⟩) fun i j => ⟨.bl _, fun _ => .bl _⟩
theorem u_cmp {c : Int → Int → Bool} : PuD (rI0 fun i j => .bl (c i j)) (oCmp c) := by
  intro H0 H v w x y α Q P E k e hv hw q h1 h2
  cases hv with
  | int i =>
    cases hw with
    | int j => exact ⟨i, j, rfl, rfl, h1 _ _ rfl q⟩
    | _ => exact q.elim
  | _ => exact q.elim
abbrev oLt := oCmp fun i j => decide (i < j)
abbrev oLe := oCmp fun i j => decide (i ≤ j)
abbrev oGt := oCmp fun i j => decide (j < i)
abbrev oGe := oCmp fun i j => decide (j ≤ i)
mutual
theorem Has.dp {K : PySem.W.Frag} {H0 H : Hp} (e : Same H0 H) : ∀ {v : V} {d : D}, Has H0 v d → d.hasDict = false → Dp K H v d
  | _, _, .non, _ => .non
  | _, _, .bl b, _ => .bl b
  | _, _, .int i, _ => .int i
  | _, _, .str x, _ => .str x
  | _, _, .lst h r, n => .lst (SqL.of (e _ _ h)) (HasL.dp e r n)
  | _, _, .tup h r, n => .tup (SqT.of (e _ _ h)) (HasL.dp e r n)
  | _, _, .dct h r, n => by cases n
theorem HasL.dp {K : PySem.W.Frag} {H0 H : Hp} (e : Same H0 H) : ∀ {v : List V} {d : List D}, HasL H0 v d → PyData.hasDictAll d = false → DpAll K H v d
  | _, _, .nil, _ => .nil
  | _, _, .cons h r, n => by
    unfold PyData.hasDictAll at n
    rw [Bool.or_eq_false_iff] at n
    exact .cons (Has.dp e h n.1) (HasL.dp e r n.2)
end
def cEq (x : D) : Bool := !x.hasDict && SeqAt.shaped x
def twoStr : D → D → Bool
  | .str _, .str _ => true
  | _, _ => false
def oEq (x y : D) : T D := if (twoStr x y || (cEq x && cEq y)) = true then .ret (.bool (PyData.eqv x y)) else .bad
def oNe (x y : D) : T D := if (twoStr x y || (cEq x && cEq y)) = true then .ret (.bool (!PyData.eqv x y)) else .bad
theorem op_eqW {X : Cx} (hu : X.A.units + 64 < cLine) : OpR X (compareOp .Eq) (fun x y H Q => rEq x y H Q ∨ rEqD X.K x y H Q) := opOr op_eq (op_eqD hu)
theorem op_neW {X : Cx} (hu : X.A.units + 64 < cLine) : OpR X (compareOp .NotEq) (fun x y H Q => rNe x y H Q ∨ rNeD X.K x y H Q) := opOr op_ne (op_neD hu)
theorem cEq_of {x : D} (h : cEq x = true) : x.hasDict = false ∧ SeqAt.shaped x = true := by
  unfold cEq at h
  rw [Bool.and_eq_true] at h
  exact ⟨by simpa using h.1, h.2⟩
theorem d_eq {K : PySem.W.Frag} : OpD (fun x y H Q => rEq x y H Q ∨ rEqD K x y H Q) oEq := by
  intro β H0 H v w x y Q E e ok bf hv hw q
  unfold oEq at q
  split at q
  · next c =>
    rw [Bool.or_eq_true] at c
    rcases c with c | c
    · cases hv with
      | str a =>
        cases hw with
        | str b =>
          refine .inl ⟨rfl, ?_⟩
          rw [dec_str]
          exact out_ret e ok bf (.bl _) q
        | _ => cases c
      | _ => cases c
    · rw [Bool.and_eq_true] at c
      obtain ⟨a1, a2⟩ := cEq_of c.1
      obtain ⟨b1, b2⟩ := cEq_of c.2
      exact .inr ⟨x, y, hv.dp e a1, hw.dp e b1, a2, b2, out_ret e ok bf (.bl _) q⟩
  · exact q.elim
theorem d_ne {K : PySem.W.Frag} : OpD (fun x y H Q => rNe x y H Q ∨ rNeD K x y H Q) oNe := by
  intro β H0 H v w x y Q E e ok bf hv hw q
  unfold oNe at q
  split at q
  · next c =>
    rw [Bool.or_eq_true] at c
    rcases c with c | c
    · cases hv with
      | str a =>
        cases hw with
        | str b =>
          refine .inl ⟨rfl, ?_⟩
          rw [dec_str]
          exact out_ret e ok bf (.bl _) q
        | _ => cases c
      | _ => cases c
    · rw [Bool.and_eq_true] at c
      obtain ⟨a1, a2⟩ := cEq_of c.1
      obtain ⟨b1, b2⟩ := cEq_of c.2
      exact .inr ⟨x, y, hv.dp e a1, hw.dp e b1, a2, b2, out_ret e ok bf (.bl _) q⟩
  · exact q.elim
/-- is None -/
def oIsN (x y : D) : T D := match y with
  | .none => .ret (.bool (match x with | .none => true | _ => false))
  | _ => .bad
def oNotN (x y : D) : T D := match y with
  | .none => .ret (.bool (match x with | .none => false | _ => true))
  | _ => .bad
theorem d_isN : OpD (fun x y H Q => y = .non ∧ Q (.bl (decide (x = .non))) H) oIsN := by
  intro β H0 H v w x y Q E e ok bf hv hw q
  cases hw with
  | non =>
    refine ⟨rfl, ?_⟩
    cases hv <;> exact out_ret e ok bf (.bl _) q
  | _ => exact q.elim
theorem d_notN : OpD (fun x y H Q => y = .non ∧ Q (.bl (!decide (x = .non))) H) oNotN := by
  intro β H0 H v w x y Q E e ok bf hv hw q
  cases hw with
  | non =>
    refine ⟨rfl, ?_⟩
    cases hv <;> exact out_ret e ok bf (.bl _) q
  | _ => exact q.elim
/-- in a list or tuple of flat data -/
def flatD : D → Bool
  | .none | .bool _ | .int _ | .str _ => true
  | _ => false

/-! ### items -/
def oIx : D → D → T D
  | .list xs, .int i => match atI xs i with
    | some d => .ret d
    | none => .bad
  | .tuple xs, .int i => match atI xs i with
    | some d => .ret d
    | none => .bad
  | _, _ => .bad
theorem atI_has {H : Hp} {vs : List V} {ds : List D} {i : Int} {d : D} (h : HasL H vs ds) (e : atI ds i = some d) : ∃ v, atI vs i = some v ∧ Has H v d := by
  unfold atI at e ⊢
  rw [h.length]
  cases q : ixN ds.length i with
  | none =>
    rw [q] at e
    cases e
  | some j =>
    rw [q] at e
    exact h.getD e
theorem d_ix {K : PySem.W.Frag} : OpD (rIx K) oIx := by
  intro β H0 H v w x y Q E e ok bf hv hw q
  cases hv with
  | lst h1 h2 =>
    cases hw with
    | int i =>
      unfold oIx at q
      simp only at q
      split at q
      · next d hd =>
        obtain ⟨u, hu, hh⟩ := atI_has h2 hd
        exact .inl ⟨_, _, i, u, rfl, rfl, SqL.of (e _ _ h1), hu, out_ret e ok bf hh q⟩
      · exact q.elim
    | _ => exact q.elim
  | tup h1 h2 =>
    cases hw with
    | int i =>
      unfold oIx at q
      simp only at q
      split at q
      · next d hd =>
        obtain ⟨u, hu, hh⟩ := atI_has h2 hd
        exact .inr (.inl ⟨_, _, i, u, rfl, rfl, SqT.of (e _ _ h1), hu, out_ret e ok bf hh q⟩)
      · exact q.elim
    | _ => exact q.elim
  | _ => exact q.elim

/-! ### built-in calls -/
def oLen : List Ar → T D
  | [.d (.list xs)] => .ret (.int xs.length)
  | [.d (.tuple xs)] => .ret (.int xs.length)
  | _ => .bad
theorem d_len {K : PySem.W.Frag} : CaD (fun xs H Q => ∃ p ys, xs = [.ref p] ∧ (SqL K H p ys ∨ SqT K H p ys) ∧ Q (.int ys.length) H) oLen := by
  intro β H0 H vs as Q E e ok bf hv q
  cases hv with
  | nil => exact q.elim
  | @cons v vs a as h1 h2 =>
    cases a with
    | box _ => exact q.elim
    | d x =>
      cases h2 with
      | cons _ _ =>
        cases x <;> exact q.elim
      | nil =>
        cases (show Has H0 v x from h1) with
        | lst a1 a2 =>
          refine ⟨_, _, rfl, .inl (SqL.of (e _ _ a1)), ?_⟩
          rw [a2.length]
          exact out_ret e ok bf (.int _) q
        | tup a1 a2 =>
          refine ⟨_, _, rfl, .inr (SqT.of (e _ _ a1)), ?_⟩
          rw [a2.length]
          exact out_ret e ok bf (.int _) q
        | _ => exact q.elim
/-- one argument of data -/
def o1 (o : D → T D) : List Ar → T D
  | [.d x] => o x
  | _ => .bad
def o2 (o : D → D → T D) : List Ar → T D
  | [.d x, .d y] => o x y
  | _ => .bad
theorem d_1 {r : List V → Hp → VK → Prop} {o : D → T D} (h : UnD (fun v H Q => r [v] H Q) o) : CaD r (o1 o) := by
  intro β H0 H vs as Q E e ok bf hv q
  cases hv with
  | nil => exact q.elim
  | @cons v vs a as h1 h2 =>
    cases a with
    | box _ =>
      cases h2 <;> exact q.elim
    | d x =>
      cases h2 with
      | cons _ _ => exact q.elim
      | nil => exact h e ok bf h1 q
theorem d_2 {r : List V → Hp → VK → Prop} {o : D → D → T D} (h : OpD (fun v w H Q => r [v, w] H Q) o) : CaD r (o2 o) := by
  intro β H0 H vs as Q E e ok bf hv q
  cases hv with
  | nil => exact q.elim
  | @cons v vs a as h1 h2 =>
    cases a with
    | box _ =>
      cases h2 with
      | nil => exact q.elim
      | cons a b =>
        cases b <;> exact q.elim
    | d x =>
      cases h2 with
      | nil => exact q.elim
      | @cons w ws b bs h3 h4 =>
        cases b with
        | box _ =>
          cases h4 <;> exact q.elim
        | d y =>
          cases h4 with
          | cons _ _ => exact q.elim
          | nil => exact h e ok bf h1 h3 q
def oAbs : D → T D
  | .int i => .ret (.int (if i < 0 then -i else i))
  | _ => .bad
theorem d_abs : CaD (fun xs H Q => ∃ i, xs = [.int i] ∧ Q (.int (if i < 0 then -i else i)) H) (o1 oAbs) := by
  apply d_1
  intro β H0 H v x Q E e ok bf hv q
  cases hv with
  | int i => exact ⟨i, rfl, out_ret e ok bf (.int _) q⟩
  | _ => exact q.elim
def oInt : D → T D
  | .int i => .ret (.int i)
  | .bool b => .ret (.int (if b then 1 else 0))
  | _ => .bad
theorem d_int : CaD (fun xs H Q => (∃ i, xs = [.int i] ∧ Q (.int i) H) ∨ ∃ k, xs = [.bl k] ∧ Q (.int (if k then 1 else 0)) H) (o1 oInt) := by
  apply d_1
  intro β H0 H v x Q E e ok bf hv q
  cases hv with
  | int i => exact .inl ⟨i, rfl, out_ret e ok bf (.int _) q⟩
  | bl b => exact .inr ⟨b, rfl, out_ret e ok bf (.int _) q⟩
  | _ => exact q.elim
def oGcd : D → D → T D
  | .int i, .int j => .ret (.int ((Nat.gcd i.natAbs j.natAbs : Nat) : Int))
  | _, _ => .bad
theorem d_gcd : CaD rGcd (o2 oGcd) := by
  apply d_2
  intro β H0 H v w x y Q E e ok bf hv hw q
  cases hv with
  | int i =>
    cases hw with
    | int j => exact ⟨i, j, rfl, out_ret e ok bf (.int _) q⟩
    | _ => exact q.elim
  | _ => exact q.elim
/-- a list of ints -/
def intsOf : List D → Option (List Int)
  | [] => some []
  | .int i :: r => (intsOf r).map (i :: ·)
  | _ :: _ => none
theorem intsOf_some : ∀ {ds : List D} {ns : List Int}, intsOf ds = some ns → ds = ns.map PyData.int
  | [], ns, h => by
    cases h
    rfl
  | .int i :: r, ns, h => by
    unfold intsOf at h
    cases q : intsOf r with
    | none =>
      rw [q] at h
      cases h
    | some es =>
      rw [q] at h
      cases h
      rw [intsOf_some q]
      rfl
  | .none :: _, _, h => by cases h
  | .bool _ :: _, _, h => by cases h
  | .str _ :: _, _, h => by cases h
  | .list _ :: _, _, h => by cases h
  | .tuple _ :: _, _, h => by cases h
  | .dict _ :: _, _, h => by cases h
@[simp] theorem intsOf_map : ∀ ns : List Int, intsOf (ns.map PyData.int) = some ns
  | [] => rfl
  | n :: ns => by
    rw [List.map_cons]
    show (intsOf (ns.map PyData.int)).map (n :: ·) = _
    rw [intsOf_map ns]
    rfl
theorem HasL.ints_eq {H : Hp} : ∀ {vs : List V} {ns : List Int}, HasL H vs (ns.map PyData.int) → vs = ns.map V.int
  | _, [], .nil => rfl
  | _, n :: ns, h => by
    rw [List.map_cons] at h
    cases h with
    | cons h1 h2 =>
      cases h1
      rw [HasL.ints_eq h2]
      rfl
def oSum : D → T D
  | .list ds => match intsOf ds with
    | some ns => .ret (.int ns.sum)
    | none => .bad
  | _ => .bad
theorem d_sum {K : PySem.W.Frag} : CaD (rSum K) (o1 oSum) := by
  apply d_1
  intro β H0 H v x Q E e ok bf hv q
  cases hv with
  | lst h1 h2 =>
    unfold oSum at q
    simp only at q
    split at q
    · next ns hn =>
      rw [intsOf_some hn] at h2
      rw [h2.ints_eq] at h1
      exact ⟨_, ns, rfl, SqL.of (e _ _ h1), out_ret e ok bf (.int _) q⟩
    · exact q.elim
  | _ => exact q.elim
def oTupleOf : D → T D
  | .list ds => .ret (.tuple ds)
  | .tuple ds => .ret (.tuple ds)
  | _ => .bad
theorem d_tuple {K : PySem.W.Frag} : CaD (fun xs H Q => ∃ p ys, xs = [.ref p] ∧ ((SqL K H p ys ∧ ∀ l, H l = none → Q (.ref l) (upd H l (.tup ys))) ∨ (SqT K H p ys ∧ Q (.ref p) H))) (o1 oTupleOf) := by
  apply d_1
  intro β H0 H v x Q E e ok bf hv q
  cases hv with
  | lst h1 h2 => exact ⟨_, _, rfl, .inl ⟨SqL.of (e _ _ h1), fun p hp => out_tup e ok bf hp h2 q⟩⟩
  | tup h1 h2 => exact ⟨_, _, rfl, .inr ⟨SqT.of (e _ _ h1), out_ret e ok bf (.tup h1 h2) q⟩⟩
  | _ => exact q.elim
def oListOf : D → T D
  | .list ds => .ret (.list ds)
  | .tuple ds => .ret (.list ds)
  | _ => .bad
theorem d_list {K : PySem.W.Frag} : CaD (fun xs H Q => ∃ p ys, xs = [.ref p] ∧ (SqL K H p ys ∨ SqT K H p ys) ∧ ∀ l, H l = none → Q (.ref l) (upd H l (.lst ys))) (o1 oListOf) := by
  apply d_1
  intro β H0 H v x Q E e ok bf hv q
  cases hv with
  | lst h1 h2 => exact ⟨_, _, rfl, .inl (SqL.of (e _ _ h1)), fun p hp => out_lst e ok bf hp h2 q⟩
  | tup h1 h2 => exact ⟨_, _, rfl, .inr (SqT.of (e _ _ h1)), fun p hp => out_lst e ok bf hp h2 q⟩
  | _ => exact q.elim
def boolsOf : List D → Option (List Bool)
  | [] => some []
  | .bool i :: r => (boolsOf r).map (i :: ·)
  | _ :: _ => none
theorem boolsOf_some : ∀ {ds : List D} {ns : List Bool}, boolsOf ds = some ns → ds = ns.map PyData.bool
  | [], ns, h => by
    cases h
    rfl
  | .bool i :: r, ns, h => by
    unfold boolsOf at h
    cases q : boolsOf r with
    | none =>
      rw [q] at h
      cases h
    | some es =>
      rw [q] at h
      cases h
      rw [boolsOf_some q]
      rfl
  | .none :: _, _, h => by cases h
  | .int _ :: _, _, h => by cases h
  | .str _ :: _, _, h => by cases h
  | .list _ :: _, _, h => by cases h
  | .tuple _ :: _, _, h => by cases h
  | .dict _ :: _, _, h => by cases h
@[simp] theorem boolsOf_map : ∀ ns : List Bool, boolsOf (ns.map PyData.bool) = some ns
  | [] => rfl
  | n :: ns => by
    rw [List.map_cons]
    show (boolsOf (ns.map PyData.bool)).map (n :: ·) = _
    rw [boolsOf_map ns]
    rfl
theorem HasL.bools_eq {H : Hp} : ∀ {vs : List V} {ns : List Bool}, HasL H vs (ns.map PyData.bool) → vs = ns.map V.bl
  | _, [], .nil => rfl
  | _, n :: ns, h => by
    rw [List.map_cons] at h
    cases h with
    | cons h1 h2 =>
      cases h1
      rw [HasL.bools_eq h2]
      rfl
def oAll : D → T D
  | .list ds => match boolsOf ds with
    | some bs => .ret (.bool (bs.all id))
    | none => .bad
  | _ => .bad
theorem d_all {K : PySem.W.Frag} : CaD (rAll K) (o1 oAll) := by
  apply d_1
  intro β H0 H v x Q E e ok bf hv q
  cases hv with
  | lst h1 h2 =>
    unfold oAll at q
    simp only at q
    split at q
    · next ns hn =>
      rw [boolsOf_some hn] at h2
      rw [h2.bools_eq] at h1
      exact ⟨_, ns, rfl, SqL.of (e _ _ h1), out_ret e ok bf (.bl _) q⟩
    · exact q.elim
  | _ => exact q.elim
def oAny : D → T D
  | .list ds => match boolsOf ds with
    | some bs => .ret (.bool (bs.any id))
    | none => .bad
  | _ => .bad
theorem d_any {K : PySem.W.Frag} : CaD (rAny K) (o1 oAny) := by
  apply d_1
  intro β H0 H v x Q E e ok bf hv q
  cases hv with
  | lst h1 h2 =>
    unfold oAny at q
    simp only at q
    split at q
    · next ns hn =>
      rw [boolsOf_some hn] at h2
      rw [h2.bools_eq] at h1
      exact ⟨_, ns, rfl, SqL.of (e _ _ h1), out_ret e ok bf (.bl _) q⟩
    · exact q.elim
  | _ => exact q.elim

/-! ### isinstance(x, T) -/
def tyD : D → String
  | .none => "NoneType"
  | .bool _ => "bool"
  | .int _ => "int"
  | .str _ => "str"
  | .list _ => "list"
  | .tuple _ => "tuple"
  | .dict _ => "dict"
/-- isinstance of data: bool is int too -/
def isaD (n : String) (d : D) : Bool := tyD d == n || (n == "int" && tyD d == "bool")
theorem Has.ty {K : PySem.W.Frag} {H0 H : Hp} {v : V} {d : D} (e : Same H0 H) (h : Has H0 v d) : TyX K H v (.type (tyD d)) := by
  cases h with
  | non => exact .base .non
  | bl b => exact .base (.bl b)
  | int i => exact .base (.int i)
  | str x => exact .base (.str x)
  | lst a b => exact .base (.lst (e _ _ a))
  | tup a b => exact .base (.tup (e _ _ a))
  | dct a b => exact .base (.dK (e _ _ a))
end Wb

set_option Elab.async false
set_option linter.all false
set_option maxRecDepth 100000
set_option maxHeartbeats 4000000
/-! Wb, part 4: what is walked, targets, comprehensions. -/
namespace Wb
open PySem PySem.Spec PyProof.Rows L2 RZ

/-- an iterator that gives these data -/
def Gives (J : It) (ds : List D) (H0 : Hp) : Prop := ∃ (G : Hp → Prop) (Y : Nat → Hp → V → Hp → Prop), Walk J ds.length G Y ∧ (∀ H1, Same H0 H1 → G H1) ∧
  ∀ (i : Nat) (H1 : Hp) (x : V) (H2 : Hp) (d : D) (H0' : Hp), ds[i]? = some d → Same H0 H0' → Same H0' H1 → Y i H1 x H2 →
    (H2 = H1 ∧ Has H0' x d) ∨ ∃ tp vs es, x = .ref tp ∧ H1 tp = none ∧ H2 = upd H1 tp (.tup vs) ∧ d = .tuple es ∧ HasL H0' vs es
def tI (g : Ct) (f : Env' → T (List D)) : TI := fun σ H R => ∃ β H0 ρ, Rel g.cad β g.ξ H0 ρ σ H ∧
  (f ρ).wp (fun ds => ∀ J H0' H', Stp β H0 H H0' H' → Gives J ds H0' → R J H') (g.X β H0 H σ)
theorem _root_.L2.PI.imp {X : Cx} {tg e : Expr} {t t' : TI} (h : PI X tg e t) (i : ∀ σ H Q, t' σ H Q → t σ H Q) : PI X tg e t' := ⟨fun pins s σ H Q I q => h.run pins s σ H Q I (i _ _ _ q)⟩
theorem _root_.L2.PG.imp {X : Cx} {e : Expr} {t t' : TG} (h : PG X e t) (i : ∀ v σ H Q, t' v σ H Q → t v σ H Q) : PG X e t' := ⟨fun pins s σ H v u Q I r q => h.run pins s σ H v u Q I r (i _ _ _ _ q)⟩
theorem _root_.L2.PS.imp {X : Cx} {e : Stmt} {t t' : TS} (h : PS X e t) (i : ∀ D σ H, t' D σ H → t D σ H) : PS X e t' := ⟨fun pins s σ H D I q => h.run pins s σ H D I (i _ _ _ q)⟩
theorem _root_.L2.PSs.imp {X : Cx} {e : List Stmt} {t t' : TS} (h : PSs X e t) (i : ∀ D σ H, t' D σ H → t D σ H) : PSs X e t' := ⟨fun pins s σ H D I q => h.run pins s σ H D I (i _ _ _ q)⟩

theorem gives_list {K : PySem.W.Frag} {H0 : Hp} {a : Addr} {vs : List V} {ds : List D} (h : H0 a = some (.lst vs)) (hl : HasL H0 vs ds) : Gives (Itl K a) ds H0 := by
  refine ⟨fun H => SqL K H a vs, YAt vs, by rw [← hl.length]; exact walk_list, fun H1 e => SqL.of (e _ _ h), fun i H1 x H2 d H0' hd e0 e1 y => .inl ⟨y.1, ?_⟩⟩
  obtain ⟨d', h1, h2⟩ := hl.get y.2
  rw [hd] at h1
  cases h1
  exact h2.mono e0
theorem gives_tup {K : PySem.W.Frag} {H0 : Hp} {a : Addr} {vs : List V} {ds : List D} (h : H0 a = some (.tup vs)) (hl : HasL H0 vs ds) : Gives (Itt K a) ds H0 := by
  refine ⟨fun H => SqT K H a vs, YAt vs, by rw [← hl.length]; exact walk_tup, fun H1 e => SqT.of (e _ _ h), fun i H1 x H2 d H0' hd e0 e1 y => .inl ⟨y.1, ?_⟩⟩
  obtain ⟨d', h1, h2⟩ := hl.get y.2
  rw [hd] at h1
  cases h1
  exact h2.mono e0
/-- lo, lo + 1, .. -/
def rangeD (lo : Int) (n : Nat) : List D := (List.range n).map fun i => .int (lo + (i : Nat))
theorem gives_range {H0 : Hp} {lo : Int} {n : Nat} : Gives (Itr lo n) (rangeD lo n) H0 := by
  have hl : (rangeD lo n).length = n := by simp [rangeD]
  refine ⟨fun _ => True, YFn fun i => .int (lo + i), by rw [hl]; exact walk_range, fun _ _ => trivial, fun i H1 x H2 d H0' hd _ _ y => .inl ⟨y.1, ?_⟩⟩
  have e : x = .int (lo + (i : Nat)) := y.2
  have hi : i < n := by
    have := (List.getElem?_eq_some_iff.mp hd).1
    omega
  have e2 : (rangeD lo n)[i]? = some (.int (lo + (i : Nat))) := by simp [rangeD, hi]
  rw [hd] at e2
  cases e2
  rw [e]
  exact .int _
theorem gives_zip {K : PySem.W.Frag} {H0 : Hp} {a b : Addr} {vs ws : List V} {ds es : List D} (h : H0 a = some (.lst vs)) (hl : HasL H0 vs ds) (h' : H0 b = some (.lst ws)) (hl' : HasL H0 ws es) :
    Gives (Itz K a b) ((ds.zip es).map fun p => .tuple [p.1, p.2]) H0 := by
  refine ⟨_, _, walk_zip (K := K) (a := a) (b := b) (xs := vs) (ys := ws) (by simp [hl.length, hl'.length]), fun H1 e => ⟨SqL.of (e _ _ h), SqL.of (e _ _ h')⟩, fun i H1 x H2 d H0' hd e0 e1 y => ?_⟩
  obtain ⟨tp, u, w, rfl, hn, rfl, hu, hw⟩ := y
  obtain ⟨d1, a1, a2⟩ := hl.get hu
  obtain ⟨d2, b1, b2⟩ := hl'.get hw
  have e2 : ((ds.zip es).map fun p => PyData.tuple [p.1, p.2])[i]? = some (.tuple [d1, d2]) := by
    rw [List.getElem?_map, (List.getElem?_zip_eq_some (z := (d1, d2))).mpr ⟨a1, b1⟩]
    rfl
  rw [hd] at e2
  cases e2
  exact .inr ⟨tp, [u, w], [d1, d2], rfl, hn, rfl, rfl, .cons (a2.mono e0) (.cons (b2.mono e0) .nil)⟩
theorem walk_zipT {K : PySem.W.Frag} {a b : Addr} {xs ys : List V} {n : Nat} (hn : n = min xs.length ys.length) : Walk (ItzT K a b) n (fun H => SqT K H a xs ∧ SqT K H b ys) (YPair (fun i => xs[i]?) (fun i => ys[i]?)) := by
  subst hn
  refine ⟨fun i _ hi q => ?_, fun _ q => ⟨xs, ys, q.1, q.2, by omega⟩, fun i H v H' _ q y => ?_⟩
  · exact ⟨xs, ys, xs[i]'(by omega), ys[i]'(by omega), q.1, q.2, by rw [List.getElem?_eq_getElem], by rw [List.getElem?_eq_getElem]⟩
  · obtain ⟨tp, x, z, h1, h2, h3, h4, h5⟩ := y
    exact ⟨tp, x, z, h1, h2, h3, h4 xs q.1, h5 ys q.2⟩
theorem gives_zipT {K : PySem.W.Frag} {H0 : Hp} {a b : Addr} {vs ws : List V} {ds es : List D} (h : H0 a = some (.tup vs)) (hl : HasL H0 vs ds) (h' : H0 b = some (.tup ws)) (hl' : HasL H0 ws es) :
    Gives (ItzT K a b) ((ds.zip es).map fun p => .tuple [p.1, p.2]) H0 := by
  refine ⟨_, _, walk_zipT (K := K) (a := a) (b := b) (xs := vs) (ys := ws) (by simp [hl.length, hl'.length]), fun H1 e => ⟨SqT.of (e _ _ h), SqT.of (e _ _ h')⟩, fun i H1 x H2 d H0' hd e0 e1 y => ?_⟩
  obtain ⟨tp, u, w, rfl, hn, rfl, hu, hw⟩ := y
  obtain ⟨d1, a1, a2⟩ := hl.get hu
  obtain ⟨d2, b1, b2⟩ := hl'.get hw
  have e2 : ((ds.zip es).map fun p => PyData.tuple [p.1, p.2])[i]? = some (.tuple [d1, d2]) := by
    rw [List.getElem?_map, (List.getElem?_zip_eq_some (z := (d1, d2))).mpr ⟨a1, b1⟩]
    rfl
  rw [hd] at e2
  cases e2
  exact .inr ⟨tp, [u, w], [d1, d2], rfl, hn, rfl, rfl, .cons (a2.mono e0) (.cons (b2.mono e0) .nil)⟩

section
variable {X : Cx} {g : Ct} {a b c : Expr} {f h k : Env' → T D} {pos : Pos} {tg : Expr} {es : List Expr} {fs : Env' → T (List Ar)}
/-- the items of a list or a tuple -/
def iSeq (f : Env' → T D) : Env' → T (List D) := fun ρ => (f ρ).bind fun d => match d with
  | .list ds => .ret ds
  | .tuple ds => .ret ds
  | _ => .bad
def iSeqV (K : PySem.W.Frag) (tl : TE) : TI := fun σ H R => tl σ H fun x H1 => ∃ a, x = .ref a ∧ (((∃ xs, SqL K H1 a xs) ∧ R (Itl K a) H1) ∨ ((∃ xs, SqT K H1 a xs) ∧ R (Itt K a) H1))
theorem pi_seqV {l : Expr} {tl : TE} (hl : PE X l tl) : PI X tg l (iSeqV X.K tl) := by
  constructor
  intro pins s σ H R I h
  refine thn (hl.run pins s σ H _ I h) ?_
  rintro v s1 ⟨x, H1, I1, r1, a, rfl, q1⟩
  cases r1
  have fresh : ∀ b ∈ [s1.heap.objs.size], FpOk X pins H1 b := by
    intro b hb
    rw [List.mem_singleton] at hb
    subst hb
    exact I1.fpOk (Nat.le_refl _) (I1.hok.fresh (Nat.le_refl _))
  rcases q1 with ⟨⟨xs, hq⟩, q⟩ | ⟨⟨xs, hq⟩, q⟩
  · obtain ⟨its, rv, p, hz⟩ := I1.list hq
    apply wpAny_pyIter_list p.isList
    have kept := I1.kept (t' := s1.toks) (h' := s1.heap.push { cls := .type "list_iterator", data := .fields #[.ref a, .int 0 0] })
    exact ⟨_, [s1.heap.objs.size], _, _, H1, rfl, I1.kept (t' := s1.toks) (fun b o z => Heap.get?_push_of_some _ z), turn_list a _,
      ⟨_, Heap.get?_push_size _ rfl, rfl, rfl⟩, fresh, q⟩
  · obtain ⟨its, rv, p, hz⟩ := I1.tuple hq
    apply wpAny_pyIter_tuple (show s1.heap.IsTuple a its.toArray from p)
    exact ⟨_, [s1.heap.objs.size], _, _, H1, rfl, I1.kept (t' := s1.toks) (fun b o z => Heap.get?_push_of_some _ z), turn_tuple a _,
      ⟨_, Heap.get?_push_size _ rfl, rfl, rfl⟩, fresh, q⟩
theorem i_seq (ha : PE X a (tE g f)) : PI X tg a (tI g (iSeq f)) := (pi_seqV ha).imp fun σ H R ⟨β, H0, ρ, rr, q⟩ => tE_then rr q fun d v H1 H2 st hv q1 => by
  cases hv with
  | lst h1 h2 => exact ⟨_, rfl, .inl ⟨⟨_, SqL.of (st.ext _ _ h1)⟩, q1 _ _ _ st (gives_list h1 h2)⟩⟩
  | tup h1 h2 => exact ⟨_, rfl, .inr ⟨⟨_, SqT.of (st.ext _ _ h1)⟩, q1 _ _ _ st (gives_tup h1 h2)⟩⟩
  | _ => exact q1.elim
theorem HasAs.one {β : Box} {H0 : Hp} {vs : List V} {x : D} (h : HasAs β H0 vs [.d x]) : ∃ v, vs = [v] ∧ Has H0 v x := by
  cases h with
  | cons h1 h2 =>
    cases h2
    exact ⟨_, rfl, h1⟩
theorem HasAs.two {β : Box} {H0 : Hp} {vs : List V} {x y : D} (h : HasAs β H0 vs [.d x, .d y]) : ∃ v w, vs = [v, w] ∧ Has H0 v x ∧ Has H0 w y := by
  cases h with
  | cons h1 h2 =>
    cases h2 with
    | cons h3 h4 =>
      cases h4
      exact ⟨_, _, rfl, h1, h3⟩
theorem Has.int_eq {H0 : Hp} {v : V} {i : Int} (h : Has H0 v (.int i)) : v = .int i := by
  cases h
  rfl
def oRng1 : List Ar → T (List D)
  | [.d (.int n)] => if n.natAbs < 1000000000000 then .ret (rangeD 0 n.toNat) else .bad
  | _ => .bad
def oRng2 : List Ar → T (List D)
  | [.d (.int l), .d (.int n)] => if l.natAbs < 1000000000000 ∧ n.natAbs < 1000000000000 then .ret (rangeD l (n - l).toNat) else .bad
  | _ => .bad
def iArg (o : List Ar → T (List D)) (fs : Env' → T (List Ar)) : Env' → T (List D) := fun ρ => (fs ρ).bind o
theorem oRng1_cases {as : List Ar} {P : List D → Prop} {E : Exn → Prop} (h : (oRng1 as).wp P E) : ∃ n : Int, as = [.d (.int n)] ∧ n.natAbs < 1000000000000 ∧ P (rangeD 0 n.toNat) := by
  unfold oRng1 at h
  split at h
  · next n =>
    split at h
    · next c => exact ⟨n, rfl, c, h⟩
    · exact h.elim
  · exact h.elim
theorem oRng2_cases {as : List Ar} {P : List D → Prop} {E : Exn → Prop} (h : (oRng2 as).wp P E) :
    ∃ l n : Int, as = [.d (.int l), .d (.int n)] ∧ l.natAbs < 1000000000000 ∧ n.natAbs < 1000000000000 ∧ P (rangeD l (n - l).toNat) := by
  unfold oRng2 at h
  split at h
  · next l n =>
    split at h
    · next c => exact ⟨l, n, rfl, c.1, c.2, h⟩
    · exact h.elim
  · exact h.elim
theorem i_rng1 {p : Pos} (hg : Gl X "range") (hm : X.mg "range" = none) (ha : PA X [a] (tA g fs)) (hs : starEach [a] X.env = [(false, eval a X.env)] := by rfl) : PI X tg (.Call (.Name "range" p) [a] [] pos) (tI g (iArg oRng1 fs)) :=
  (pi_range1 hg hm ha hs).imp fun σ H R ⟨β, H0, ρ, rr, q⟩ => tA_then (k := oRng1) rr q fun as vs H1 H2 st hv q1 => by
    obtain ⟨n, e, c, hq⟩ := oRng1_cases q1
    subst e
    obtain ⟨v, rfl, hh⟩ := hv.one
    have ev := hh.int_eq
    subst ev
    exact ⟨n, rfl, by omega, by omega, hq _ H1 H2 st gives_range⟩
theorem i_rng2 {p : Pos} (hg : Gl X "range") (hm : X.mg "range" = none) (ha : PA X [a, b] (tA g fs)) (hs : starEach [a, b] X.env = [(false, eval a X.env), (false, eval b X.env)] := by rfl) (hs2 : starEach [b] X.env = [(false, eval b X.env)] := by rfl) :
    PI X tg (.Call (.Name "range" p) [a, b] [] pos) (tI g (iArg oRng2 fs)) :=
  (pi_range2 hg hm ha hs hs2).imp fun σ H R ⟨β, H0, ρ, rr, q⟩ => tA_then (k := oRng2) rr q fun as vs H1 H2 st hv q1 => by
    obtain ⟨l, n, e, c1, c2, hq⟩ := oRng2_cases q1
    subst e
    obtain ⟨v, w, rfl, h1, h2⟩ := hv.two
    have e1 := h1.int_eq
    have e2 := h2.int_eq
    subst e1 e2
    exact ⟨l, n, rfl, ⟨by omega, by omega, by omega, by omega⟩, hq _ H1 H2 st gives_range⟩
def oZip : List Ar → T (List D)
  | [.d (.list xs), .d (.list ys)] => .ret ((xs.zip ys).map fun p => .tuple [p.1, p.2])
  | [.d (.tuple xs), .d (.tuple ys)] => .ret ((xs.zip ys).map fun p => .tuple [p.1, p.2])
  | _ => .bad
theorem i_zip {p tpos : Pos} {elts : List Expr} {kk : Nat} (hg : Gl X "zip") (hm : X.mg "zip" = none) (ha : PA X [a, b] (tA g fs)) (hs : starEach [a, b] X.env = (false, eval a X.env) :: starEach [b] X.env := by rfl) (hpl : (backTo pos (starEach [b] X.env)).any (·.1) = false := by rfl) :
    PI X (.Tuple elts kk tpos) (.Call (.Name "zip" p) [a, b] [] pos) (tI g (iArg oZip fs)) :=
  (pi_zipA hg hm ha hs hpl).imp fun σ H R ⟨β, H0, ρ, rr, q⟩ => tA_then (k := oZip) rr q fun as vs H1 H2 st hv q1 => by
    unfold oZip at q1
    split at q1
    · next xs ys =>
      obtain ⟨v, w, rfl, h1, h2⟩ := hv.two
      cases h1 with
      | lst a1 a2 =>
        cases h2 with
        | lst b1 b2 => exact ⟨_, _, _, _, rfl, .inl ⟨SqL.of (st.ext _ _ a1), SqL.of (st.ext _ _ b1), q1 _ H1 H2 st (gives_zip a1 a2 b1 b2)⟩⟩
    · next xs ys =>
      obtain ⟨v, w, rfl, h1, h2⟩ := hv.two
      cases h1 with
      | tup a1 a2 =>
        cases h2 with
        | tup b1 b2 => exact ⟨_, _, _, _, rfl, .inr ⟨SqT.of (st.ext _ _ a1), SqT.of (st.ext _ _ b1), q1 _ H1 H2 st (gives_zipT a1 a2 b1 b2)⟩⟩
    · exact q1.elim

/-! ### targets: names, tuples of such -/
inductive Tg where
  | n (i : Nat)
  | t (l : List Tg)
/-- a target takes data -/
def setT : Nat → D → Env' → Env' := fun i d ρ => ρ.set i (.d d)
/-- lists of one's own: none but those that were there -/
def OwnSub (ρ : Env') (σ : L2.St) (ρ' : Env') (σ' : L2.St) : Prop := ∀ (i : Nat) (xs : List D) (p : Addr), ρ'[i]? = some (.own xs) → σ'[i]? = some (some (.ref p)) → ρ[i]? = some (.own xs) ∧ σ[i]? = some (some (.ref p))
theorem OwnSub.set {ρ : Env'} {σ : L2.St} {i : Nat} {d : D} {v : V} : OwnSub ρ σ (ρ.set i (.d d)) (σ.set i (some v)) := fun j xs p a b => by
  by_cases hj : j = i
  · subst hj
    by_cases hl : j < ρ.length
    · rw [List.getElem?_set_self hl] at a
      cases a
    · rw [List.getElem?_eq_none (by simpa using hl)] at a
      cases a
  · rw [List.getElem?_set_ne (Ne.symm hj)] at a b
    exact ⟨a, b⟩
theorem OwnSub.trans {ρ ρ' ρ'' : Env'} {σ σ' σ'' : L2.St} (a : OwnSub ρ σ ρ' σ') (b : OwnSub ρ' σ' ρ'' σ'') : OwnSub ρ σ ρ'' σ'' := fun i xs p h1 h2 =>
  let ⟨h3, h4⟩ := b i xs p h1 h2
  a i xs p h3 h4
/-- a reading of a target: the data go into slots of js -/
def tG (g : Ct) (js : List Nat) (bd : D → Env' → Option Env') : TG := fun v σ H Q => ∃ β H0 ρ d ρ', Rel g.cad β g.ξ H0 ρ σ H ∧ Has H0 v d ∧ bd d ρ = some ρ' ∧
  ∀ σ', Rel g.cad β g.ξ H0 ρ' σ' H → (∀ vs : List Nat, (∀ j ∈ js, j ∈ vs) → wipe σ' vs = wipe σ vs) → OwnSub ρ σ ρ' σ' → Q σ' H
def bName (i : Nat) : D → Env' → Option Env' := fun d ρ => some (ρ.set i (.d d))
theorem wipe_set {σ : L2.St} {j : Nat} {x : Option V} : ∀ {vs : List Nat}, j ∈ vs → wipe (σ.set j x) vs = wipe σ vs
  | v :: vs, h => by
    show (wipe (σ.set j x) vs).set v none = (wipe σ vs).set v none
    by_cases hm : j ∈ vs
    · rw [wipe_set hm]
    · have e : j = v := by
        rcases List.mem_cons.mp h with e | e
        · exact e
        · exact absurd e hm
      subst e
      have key : ∀ (vs : List Nat) (σ : L2.St), j ∉ vs → wipe (σ.set j x) vs = (wipe σ vs).set j x := by
        intro vs
        induction vs with
        | nil => intro σ _; rfl
        | cons w ws ih =>
          intro σ hn
          show (wipe (σ.set j x) ws).set w none = ((wipe σ ws).set w none).set j x
          rw [ih σ (fun z => hn (List.mem_cons_of_mem _ z))]
          exact List.set_comm _ _ (fun z => hn (z ▸ List.mem_cons_self))
      rw [key vs σ hm, List.set_set]
theorem g_name {i : Nat} {x : Str} {p : Pos} (h : PG X (.Name x p) (gName i)) : PG X (.Name x p) (tG g [i] (bName i)) := h.imp fun v σ H Q ⟨β, H0, ρ, d, ρ', rr, hv, e, q⟩ => by
  cases e
  exact q _ (rr.setD hv) (fun vs hj => wipe_set (hj i List.mem_cons_self)) OwnSub.set
def bNames : List Nat → List D → Env' → Option Env'
  | [], [], ρ => some ρ
  | i :: is, d :: ds, ρ => bNames is ds (ρ.set i (.d d))
  | _, _, _ => none
def bTup (is : List Nat) : D → Env' → Option Env' := fun d ρ => match d with
  | .tuple ds => bNames is ds ρ
  | _ => none
def gNames : List Nat → TGs
  | [] => gNil
  | i :: is => gCons (gName i) (gNames is)
theorem gNames_of {β : Box} {H0 H : Hp} : ∀ {is : List Nat} {ds : List D} {vs : List V} {ρ ρ' : Env'} {σ : L2.St} {Q : L2.St → Hp → Prop}, Rel g.cad β g.ξ H0 ρ σ H → HasL H0 vs ds → bNames is ds ρ = some ρ' →
    (∀ σ', Rel g.cad β g.ξ H0 ρ' σ' H → (∀ ws : List Nat, (∀ j ∈ is, j ∈ ws) → wipe σ' ws = wipe σ ws) → OwnSub ρ σ ρ' σ' → Q σ' H) → gNames is vs σ H Q
  | [], [], vs, ρ, ρ', σ, Q, rr, hl, e, q => by
    cases hl
    cases e
    exact ⟨rfl, q σ rr (fun _ _ => rfl) fun _ _ _ a b => ⟨a, b⟩⟩
  | i :: is, d :: ds, vs, ρ, ρ', σ, Q, rr, hl, e, q => by
    cases hl with
    | @cons v vs _ _ h1 h2 =>
      refine ⟨v, vs, rfl, ?_⟩
      show gNames is vs (σ.set i (some v)) H Q
      refine gNames_of (rr.setD h1) h2 e fun σ' r' w' o' => q σ' r' (fun ws hw => ?_) (OwnSub.set.trans o')
      rw [w' ws (fun j hj => hw j (List.mem_cons_of_mem _ hj))]
      exact wipe_set (hw i List.mem_cons_self)
  | [], _ :: _, _, _, _, _, _, _, _, e, _ => by cases e
  | _ :: _, [], _, _, _, _, _, _, _, e, _ => by cases e
theorem bNames_len : ∀ {is : List Nat} {ds : List D} {ρ ρ' : Env'}, bNames is ds ρ = some ρ' → ds.length = is.length
  | [], [], _, _, _ => rfl
  | _ :: is, _ :: ds, _, _, e => by simp [bNames_len (is := is) e]
  | [], _ :: _, _, _, e => by cases e
  | _ :: _, [], _, _, e => by cases e
theorem g_tup {is : List Nat} {els : List Expr} {kk : Nat} {n : Nat} {p : Pos} (hn : n = is.length) (h : PG X (.Tuple els kk p) (gTup X.K n (gNames is))) : PG X (.Tuple els kk p) (tG g is (bTup is)) := h.imp fun v σ H Q ⟨β, H0, ρ, d, ρ', rr, hv, e, q⟩ => by
  cases hv with
  | tup h1 h2 =>
    have e' : bNames is _ ρ = some ρ' := e
    refine ⟨_, _, rfl, SqT.of (rr.ext _ _ h1), ?_, gNames_of rr h2 e' q⟩
    rw [h2.length, bNames_len e', hn]
  | _ => cases e
end
/-! ### comprehensions -/
def T.quiet {α : Type} : T α → T α
  | .ret a => .ret a
  | .draw m k => .draw m fun i => (k i).quiet
  | .exc _ => .bad
  | .bad => .bad
theorem T.wp_quiet {α : Type} {P : α → Prop} {E E' : Exn → Prop} : ∀ {t : T α}, t.quiet.wp P E → t.wp P E'
  | .ret _, h => h
  | .draw _ _, h => ⟨h.1, h.2.1, fun i a b => T.wp_quiet (h.2.2 i a b)⟩
  | .exc _, h => h.elim
  | .bad, h => h
@[simp] theorem T.quiet_ret {α : Type} (a : α) : (T.ret a).quiet = .ret a := rfl
def wipeE (ρ : Env') : List Nat → Env'
  | [] => ρ
  | v :: vs => (wipeE ρ vs).set v .no
theorem Rel.wipe {cad : Cad} {β : Box} {ξ : Xi} {H0 H : Hp} {ρ : Env'} {σ : L2.St} (r : Rel cad β ξ H0 ρ σ H) : ∀ vs : List Nat, Rel cad β ξ H0 (wipeE ρ vs) (wipe σ vs) H
  | [] => r
  | v :: vs => (Rel.wipe r vs).set (sl := .no) trivial (fun _ z => by cases z)
def lcGo (bd : D → Env' → Option Env') (t : Env' → T D) (e : Env' → T D) (ρ : Env') : List D → T (List D)
  | [] => .ret []
  | d :: r => match bd d ρ with
    | none => .bad
    | some ρ1 => (t ρ1).quiet.bind fun b => match b with
      | .bool true => (e ρ1).quiet.bind fun y => (lcGo bd t e ρ r).bind fun out => .ret (y :: out)
      | .bool false => lcGo bd t e ρ r
      | _ => .bad
def eLc (vs : List Nat) (it : Env' → T (List D)) (bd : D → Env' → Option Env') (t : Env' → T D) (e : Env' → T D) : Env' → T D := fun ρ =>
  (it ρ).bind fun ds => if ds.length ≤ 1000000 then (lcGo bd t e (wipeE ρ vs) ds).bind fun out => .ret (.list out) else .bad
def tTrue : Env' → T D := fun _ => .ret (.bool true)
/-- nothing is let out -/
def Ct.q (g : Ct) : Ct := { g with W := fun _ _ _ _ => False }
theorem pts_yes {X : Cx} {g : Ct} : PTs X [] (tT g tTrue) := ⟨fun pins s σ H Q I h => pts_nil.run pins s σ H Q I (by
  obtain ⟨β, H0, ρ, rr, b, e, q⟩ := h
  cases e
  exact q H0 H rr.refl)⟩
theorem pts_if {X : Cx} {g : Ct} {c : Expr} {f : Env' → T D} (h : PT X c (tT g f)) : PTs X [c] (tT g f) := pts_one h
theorem Stp.mine {β : Box} {A B C H : Hp} {p : Addr} {o : HO} (st : Stp β A B C H) (h1 : B p = none) (h2 : C p = none) (hS : ¬ β.S p) (he : ∀ φ, H p ≠ some (HO.ext φ)) : Stp β A B C (upd H p o) := by
  refine ⟨st.grow, fun b u h => ?_, β.stay H _ st.ok (fun a u hs h => ?_), st.boxf, fun q u h n => ?_⟩
  · rw [upd_ne (ne_of_none h h2)]
    exact st.ext b u h
  · have na : a ≠ p := fun z => by
      subst z
      rcases hs with hs | ⟨φ, rfl⟩
      · exact hS hs
      · exact he φ h
    rw [upd_ne na]
    exact h
  · obtain ⟨n1, k⟩ := st.priv q u h n
    refine ⟨n1, fun hs => ?_⟩
    rw [upd_ne (ne_of_none h h1)]
    exact k hs
theorem Stp.known {β : Box} {A B C H : Hp} {p : Addr} {o : HO} (st : Stp β A B C H) (h1 : B p = none) (h2 : C p = none) (hS : ¬ β.S p) (h : H p = some o) : Stp β A B (upd C p o) H := by
  refine ⟨fun b u z => ?_, fun b u z => ?_, st.ok, fun a z => ?_, fun q u z n => ?_⟩
  · have z' := st.grow b u z
    rw [upd_ne (ne_of_none z' h2)]
    exact z'
  · by_cases e : b = p
    · subst e
      rw [upd_same] at z
      rw [h]
      exact z
    · rw [upd_ne e] at z
      exact st.ext b u z
  · have na : a ≠ p := fun e => hS (e ▸ z)
    rw [upd_ne na]
    exact st.boxf a z
  · obtain ⟨n1, k⟩ := st.priv q u z n
    rw [upd_ne (ne_of_none z h1)]
    exact ⟨n1, k⟩
theorem upd_has' {H : Hp} {p : Addr} {o : HO} {v : V} {d : D} (hp : H p = none) (h : Has H v d) : Has (upd H p o) v d :=
  h.mono fun b u e => by
    rw [upd_ne (ne_of_none e hp)]
    exact e
section
variable {g : Ct} {vs js : List Nat} {it : Env' → T (List D)} {bd : D → Env' → Option Env'} {t e : Env' → T D}
theorem wipe_wipe {σ : L2.St} {ws : List Nat} : ∀ {us : List Nat}, (∀ j ∈ us, j ∈ ws) → wipe (wipe σ us) ws = wipe σ ws
  | [], _ => rfl
  | u :: us, h => by
    show wipe ((wipe σ us).set u none) ws = wipe σ ws
    rw [wipe_set (h u List.mem_cons_self)]
    exact wipe_wipe fun j hj => h j (List.mem_cons_of_mem _ hj)
/-- a new list, private so far -/
def OutL (β : Box) (H0 H : Hp) (Q : VK) (ds : List D) : Prop := ∀ p H0' H' vs, Stp β H0 H H0' H' → H p = none → H' p = some (.lst vs) → H0' p = none → ¬ β.S p → HasL H0' vs ds → Q (.ref p) H'
theorem OutL.step {β : Box} {H0 H H0' H' : Hp} {Q : VK} {ds : List D} (st : Stp β H0 H H0' H') (h : OutL β H0 H Q ds) : OutL β H0' H' Q ds := fun p H2 H3 vs s hn h1 h2 h3 h4 => by
  refine h p H2 H3 vs (st.trans s) ?_ h1 h2 h3 h4
  cases e : H p with
  | none => rfl
  | some o =>
    exfalso
    cases e0 : H0 p with
    | none =>
      by_cases hS : β.S p
      · exact h3 hS
      · have := (st.priv p o e e0).2 hS
        rw [hn] at this
        cases this
    | some u =>
      have := st.ext p u (st.grow p u e0)
      rw [hn] at this
      cases this
/-- a list that is made, from the tree of its items -/
def tEL (g : Ct) (f : Env' → T (List D)) : TE := fun σ H Q => ∃ β H0 ρ, Rel g.cad β g.ξ H0 ρ σ H ∧ (f ρ).wp (OutL β H0 H Q) (g.X β H0 H σ)
def lLc (vs : List Nat) (it : Env' → T (List D)) (bd : D → Env' → Option Env') (t : Env' → T D) (e : Env' → T D) : Env' → T (List D) := fun ρ =>
  (it ρ).bind fun ds => if ds.length ≤ 1000000 then lcGo bd t e (wipeE ρ vs) ds else .bad
/-- the list becomes known -/
theorem tEL_of {f : Env' → T (List D)} {σ : L2.St} {H : Hp} {Q : VK} (h : tE g (fun ρ => (f ρ).bind fun out => .ret (.list out)) σ H Q) : tEL g f σ H Q := by
  obtain ⟨β, H0, ρ, rr, q⟩ := h
  refine ⟨β, H0, ρ, rr, T.wp_mono (fun out z p H0' H' vs st hn h1 h2 h3 h4 => ?_) (fun _ z => z) _ ((T.wp_bind _ _).mp q)⟩
  exact z (.ref p) _ H' (st.known hn h2 h3 h1) (.lst upd_same (upd_has h2 h4))
theorem tLc_core (hj : ∀ j ∈ js, j ∈ vs) {σ : L2.St} {H : Hp} {Q : VK} (h : tEL g (lLc vs it bd t e) σ H Q) : tLc (tI g it) (tG g.q js bd) (tT g.q t) (tE g.q e) vs σ H Q := by
  obtain ⟨β, H0, ρ, rr, q⟩ := h
  refine ⟨β, H0, ρ, rr, T.wp_mono (fun ds q1 J H1 Hb st gv Dl hD => ?_) (fun _ z => z) _ ((T.wp_bind _ _).mp q)⟩
  split at q1
  · next hz =>
    have rr1 := rr.step st
    have nS : ¬ β.S Dl := fun z => by
      obtain ⟨u, w⟩ := β.here Hb Dl st.ok z
      rw [hD] at w
      cases w
    have hD1 : H1 Dl = none := st.ext.free hD
    obtain ⟨G, Y, walk, hG, hY⟩ := gv
    have q2 := q1
    refine lc_it walk (D := Dl) (fun i Hc => ∃ H0' acc outs, Stp β H1 Hb H0' Hc ∧ Hc Dl = some (.lst acc) ∧ H0' Dl = none ∧ HasL H0' acc outs ∧ outs.length ≤ i ∧
      (lcGo bd t e (wipeE ρ vs) (ds.drop i)).wp (fun rest => OutL β H1 Hb Q (outs ++ rest)) (g.X β H1 Hb σ)) ?_ ?_ ?_ ?_
    · refine ⟨H1, [], [], Stp.junk rr1.ext rr1.ok rr1.boxf hD, upd_same, hD1, .nil, Nat.le_refl _, ?_⟩
      exact T.wp_mono (fun rest z => z.step st) (fun x z => z.step st) _ q2
    · rintro i Hc _ ⟨H0', acc, outs, s, _⟩
      exact hG _ (fun b o z => s.ext b o (s.grow b o z))
    · rintro i x Hc H2 hi ⟨H0', acc, outs, s, hc, hn, hl, ho, hw⟩ hy
      have hd : ds[i]? = some ds[i] := List.getElem?_eq_getElem hi
      have ed : ds.drop i = ds[i] :: ds.drop (i + 1) := List.drop_eq_getElem_cons hi
      rw [ed] at hw
      -- the item, from a state that is known
      have turn : ∀ H0n H2n, Stp β H1 Hb H0n H2n → H2n Dl = some (.lst acc) → H0n Dl = none → HasL H0n acc outs → Has H0n x ds[i] →
          tG g.q js bd x (wipe σ vs) H2n fun σ2 H2 => wipe σ2 vs = wipe σ vs ∧ tT g.q t σ2 H2 fun b H3 => if b = true then tE g.q e σ2 H3 fun y H4 => ∃ acc, H4 Dl = some (.lst acc) ∧ acc.length < sizeLine ∧
            (∃ H0' acc' outs, Stp β H1 Hb H0' (upd H4 Dl (.lst (acc ++ [y]))) ∧ (upd H4 Dl (.lst (acc ++ [y]))) Dl = some (.lst acc') ∧ H0' Dl = none ∧ HasL H0' acc' outs ∧ outs.length ≤ i + 1 ∧
              (lcGo bd t e (wipeE ρ vs) (ds.drop (i + 1))).wp (fun rest => OutL β H1 Hb Q (outs ++ rest)) (g.X β H1 Hb σ)) else
            ∃ H0' acc' outs, Stp β H1 Hb H0' H3 ∧ H3 Dl = some (.lst acc') ∧ H0' Dl = none ∧ HasL H0' acc' outs ∧ outs.length ≤ i + 1 ∧
              (lcGo bd t e (wipeE ρ vs) (ds.drop (i + 1))).wp (fun rest => OutL β H1 Hb Q (outs ++ rest)) (g.X β H1 Hb σ) := by
        intro H0n H2n sn hcn hnn hln hx
        have rw1 := (rr1.step sn).wipe vs
        unfold lcGo at hw
        split at hw
        · exact hw.elim
        · next ρ1 hb =>
          refine ⟨β, H0n, wipeE ρ vs, ds[i], ρ1, rw1, hx, hb, fun σ2 r2 w2 _ => ⟨(w2 vs hj).trans (wipe_wipe fun _ z => z), ?_⟩⟩
          have hw2 := (T.wp_bind _ _).mp hw
          refine ⟨β, H0n, ρ1, r2, T.wp_mono (fun b hb2 => ?_) (fun _ z => z) _ (T.wp_quiet hw2)⟩
          cases b with
          | bool z =>
            refine ⟨z, rfl, fun H0m H3 st3 => ?_⟩
            have s3 := sn.trans st3
            obtain ⟨n3, k3⟩ := st3.priv Dl _ hcn hnn
            have hc3 := k3 nS
            cases z with
            | false => exact iteF ⟨H0m, acc, outs, s3, hc3, n3, hln.mono st3.grow, by omega, hb2⟩
            | true =>
              refine iteT ⟨β, H0m, ρ1, r2.step st3, T.wp_mono (fun y hy2 v H0k H4 st4 hv => ?_) (fun _ z => z) _ (T.wp_quiet ((T.wp_bind _ _).mp hb2))⟩
              obtain ⟨n4, k4⟩ := st4.priv Dl _ hc3 n3
              have hc4 := k4 nS
              have s4 := s3.trans st4
              have la := (hln.mono st3.grow).mono st4.grow
              refine ⟨acc, hc4, ?_, H0k, acc ++ [v], outs ++ [y], s4.mine hD n4 nS (fun φ z => by rw [hc4] at z; cases z), upd_same, n4, la.append (.cons hv .nil), by simp; omega, ?_⟩
              · have := la.length
                rw [sizeLine_eq]
                omega
              · refine T.wp_mono (fun rest z => ?_) (fun _ z => z) _ ((T.wp_bind _ _).mp hy2)
                rw [List.append_assoc]
                exact z
          | _ => exact hb2.elim
      rcases hY i Hc x H2 ds[i] H0' hd s.grow s.ext hy with ⟨e2, hx⟩ | ⟨tp, us, es, e1, hn2, e2, e3, hu⟩
      · subst e2
        exact turn H0' H2 s hc hn hl hx
      · subst e1
        subst e2
        have nD : Dl ≠ tp := ne_of_none hc hn2
        have htp : H0' tp = none := s.ext.free hn2
        refine turn (upd H0' tp (.tup us)) _ (s.trans (Stp.new s.ext s.ok s.boxf hn2)) ?_ ?_ (upd_has htp hl) ?_
        · rw [upd_ne nD]
          exact hc
        · rw [upd_ne nD]
          exact hn
        · rw [e3]
          exact .tup upd_same (upd_has htp hu)
    · rintro Hc ⟨H0', acc, outs, s, hc, hn, hl, ho, hw⟩
      rw [List.drop_length] at hw
      have q3 : OutL β H1 Hb Q (outs ++ []) := hw
      rw [List.append_nil] at q3
      exact q3 Dl H0' Hc acc s hD hc hn nS hl
  · exact q1.elim
theorem eLc_l {ρ : Env'} : eLc vs it bd t e ρ = (lLc vs it bd t e ρ).bind fun out => .ret (.list out) := by
  unfold eLc lLc
  rw [T.bind_assoc]
  congr 1
  funext ds
  split <;> rfl
theorem tLc_of (hj : ∀ j ∈ js, j ∈ vs) {σ : L2.St} {H : Hp} {Q : VK} (h : tE g (eLc vs it bd t e) σ H Q) : tLc (tI g it) (tG g.q js bd) (tT g.q t) (tE g.q e) vs σ H Q := by
  refine tLc_core hj (tEL_of ?_)
  have ee : (fun ρ => (lLc vs it bd t e ρ).bind fun out => T.ret (PyData.list out)) = eLc vs it bd t e := by
    funext ρ
    exact eLc_l.symm
  rw [ee]
  exact h
end
section
variable {X : Cx} {g : Ct} {tg iter elt : Expr} {ifs : List Expr} {scope : Scope} {own : List (Str × Nat)} {pos : Pos} {js : List Nat} {it : Env' → T (List D)} {bd : D → Env' → Option Env'} {t e : Env' → T D}
theorem r_lc (hc : X.calm = true) (hN : X.N.Nodup) (hi : PI X tg iter (tI g it)) (ok : BlkOk X.N X.env.scope scope own)
    (hg : ∀ (s : Shared) (H : Hp) (C : Addr) (cl : List (Str × Addr)) (fp : List Addr), PG (X.blk s H scope (compEnvC scope cl C X.env) fp) tg (tG g.q js bd))
    (ht : ∀ (s : Shared) (H : Hp) (C : Addr) (cl : List (Str × Addr)) (fp : List Addr), PTs (X.blk s H scope (compEnvC scope cl C X.env) fp) ifs (tT g.q t))
    (he : ∀ (s : Shared) (H : Hp) (C : Addr) (cl : List (Str × Addr)) (fp : List Addr), PE (X.blk s H scope (compEnvC scope cl C X.env) fp) elt (tE g.q e))
    (hj : ∀ j ∈ js, j ∈ own.map (·.2)) (hs : ∀ x, foldedSetIterable iter X.env x = pure x := by intro _; rfl) :
    PE X (.ListComp elt [⟨tg, iter, ifs, 0⟩] scope pos) (tE g (eLc (own.map (·.2)) it bd t e)) :=
  (pe_lc hc hN hi ok hg ht he hs).imp fun _ _ _ q => tLc_of hj q
end
end Wb

set_option Elab.async false
set_option linter.all false
set_option maxRecDepth 100000
set_option maxHeartbeats 4000000
/-! Wb, part 5: statements, loops, defs. -/
namespace Wb
open PySem PySem.Spec PyProof.Rows L2

/-- what a statement comes to -/
inductive Fl where
  | nx (ρ : Env')
  | ret (d : D)
  | brk (ρ : Env')
  | cnt (ρ : Env')
  | exc (x : Exn) (ρ : Env')
/-- what stands: from the def's entry (A known, B in all), what is known since (C), known now (H0) -/
structure SR (g : Ct) (β : Box) (A B C : Hp) (H0 : Hp) (ρ : Env') (σ : L2.St) (H : Hp) : Prop where
  rel : Rel g.cad β g.ξ H0 ρ σ H
  st : Stp β A B H0 H
  base : Same C H0
  lk : g.lk β A B
  own : ∀ (i : Nat) (xs : List D) (p : Addr), ρ[i]? = some (.own xs) → σ[i]? = some (some (.ref p)) → B p = none
section
variable {g : Ct} {β : Box} {A B C H0 H H0' H' : Hp} {ρ : Env'} {σ : L2.St}
theorem SR.step (r : SR g β A B C H0 ρ σ H) (s : Stp β H0 H H0' H') : SR g β A B C H0' ρ σ H' := ⟨r.rel.step s, r.st.trans s, r.base.trans s.grow, r.lk, r.own⟩
theorem SR.rebase {C' : Hp} (r : SR g β A B C H0 ρ σ H) (e : Same C' H0) : SR g β A B C' H0 ρ σ H := ⟨r.rel, r.st, e, r.lk, r.own⟩
theorem SR.setD (r : SR g β A B C H0 ρ σ H) {i : Nat} {v : V} {d : D} (h : Has H0 v d) : SR g β A B C H0 (ρ.set i (.d d)) (σ.set i (some v)) H := by
  refine ⟨r.rel.setD h, r.st, r.base, r.lk, fun j xs p a b => ?_⟩
  by_cases hj : j = i
  · subst hj
    by_cases hl : j < ρ.length
    · rw [List.getElem?_set_self hl] at a
      cases a
    · rw [List.getElem?_eq_none (by simpa using hl)] at a
      cases a
  · rw [List.getElem?_set_ne (Ne.symm hj)] at a b
    exact r.own j xs p a b
end
def FlOut (g : Ct) (β : Box) (A B C : Hp) (E : Ends) : Fl → Prop
  | .nx ρ' => ∀ σ' H0' H', SR g β A B C H0' ρ' σ' H' → E.nx σ' H'
  | .ret d => ∀ v H0' H', Stp β A B H0' H' → Has H0' v d → E.rt v H'
  | .brk ρ' => ∀ σ' H0' H', SR g β A B C H0' ρ' σ' H' → E.bk σ' H'
  | .cnt ρ' => ∀ σ' H0' H', SR g β A B C H0' ρ' σ' H' → E.ct σ' H'
  | .exc x ρ' => ∀ c dx σ' H0' H', SR g β A B C H0' ρ' σ' H' → ExcIs g.cad x c dx H0' → g.W c dx σ' H'
def noE : Exn → Prop := fun _ => False
def tS (g : Ct) (F : Env' → T Fl) : TS := fun E σ H => ∃ β A B C H0 ρ, SR g β A B C H0 ρ σ H ∧ (F ρ).wp (FlOut g β A B C E) noE
/-- an expression within a statement: its error becomes the statement's -/
def T.lift {α : Type} : T α → Env' → (α → T Fl) → T Fl
  | .ret a, _, k => k a
  | .draw m f, ρ, k => .draw m fun i => (f i).lift ρ k
  | .exc x, ρ, _ => .ret (.exc x ρ)
  | .bad, _, _ => .bad
@[simp] theorem T.lift_ret {α : Type} (a : α) (ρ : Env') (k : α → T Fl) : (T.ret a).lift ρ k = k a := rfl
@[simp] theorem T.lift_exc {α : Type} (x : Exn) (ρ : Env') (k : α → T Fl) : (T.exc x : T α).lift ρ k = .ret (.exc x ρ) := rfl
@[simp] theorem T.lift_bad {α : Type} (ρ : Env') (k : α → T Fl) : (T.bad : T α).lift ρ k = .bad := rfl
@[simp] theorem T.lift_draw {α : Type} (m : Int) (f : Int → T α) (ρ : Env') (k : α → T Fl) : (T.draw m f).lift ρ k = .draw m fun i => (f i).lift ρ k := rfl
theorem T.wp_lift {α : Type} {P : Fl → Prop} {E : Exn → Prop} {ρ : Env'} {k : α → T Fl} : ∀ (t : T α), (t.lift ρ k).wp P E ↔ t.wp (fun a => (k a).wp P E) (fun x => P (.exc x ρ))
  | .ret _ => Iff.rfl
  | .draw _ f => ⟨fun h => ⟨h.1, h.2.1, fun i a b => (T.wp_lift (f i)).mp (h.2.2 i a b)⟩, fun h => ⟨h.1, h.2.1, fun i a b => (T.wp_lift (f i)).mpr (h.2.2 i a b)⟩⟩
  | .exc _ => Iff.rfl
  | .bad => Iff.rfl
theorem T.lift_bind {α γ : Type} {ρ : Env'} {k : γ → T Fl} (f : α → T γ) : ∀ (t : T α), (t.bind f).lift ρ k = t.lift ρ fun a => (f a).lift ρ k
  | .ret _ => rfl
  | .draw _ h => by
    show T.draw _ _ = T.draw _ _
    congr 1
    funext i
    exact T.lift_bind f (h i)
  | .exc _ => rfl
  | .bad => rfl
section
variable {g : Ct} {β : Box} {A B C H0 H : Hp} {ρ : Env'} {σ : L2.St} {E : Ends}
theorem excX {x : Exn} (r : SR g β A B C H0 ρ σ H) (h : FlOut g β A B C E (.exc x ρ)) : g.X β H0 H σ x := fun c dx H1 H2 st e => h c dx σ H1 H2 (r.step st) e
theorem tE_lift {f : Env' → T D} {k : D → T Fl} {Q : VK} (r : SR g β A B C H0 ρ σ H) (h : ((f ρ).lift ρ k).wp (FlOut g β A B C E) noE)
    (hq : ∀ d v H0' H', Stp β H0 H H0' H' → Has H0' v d → (k d).wp (FlOut g β A B C E) noE → Q v H') : tE g f σ H Q :=
  ⟨β, H0, ρ, r.rel, T.wp_mono (fun d hd v H1 H2 st hv => hq d v H1 H2 st hv hd) (fun _ z => excX r z) _ ((T.wp_lift _).mp h)⟩
theorem tA_lift {f : Env' → T (List Ar)} {k : List Ar → T Fl} {Q : List V → Hp → Prop} (r : SR g β A B C H0 ρ σ H) (h : ((f ρ).lift ρ k).wp (FlOut g β A B C E) noE)
    (hq : ∀ d v H0' H', Stp β H0 H H0' H' → HasAs β H0' v d → (k d).wp (FlOut g β A B C E) noE → Q v H') : tA g f σ H Q :=
  ⟨β, H0, ρ, r.rel, T.wp_mono (fun d hd v H1 H2 st hv => hq d v H1 H2 st hv hd) (fun _ z => excX r z) _ ((T.wp_lift _).mp h)⟩
theorem tT_lift {f : Env' → T D} {k : D → T Fl} {Q : Bool → Hp → Prop} (r : SR g β A B C H0 ρ σ H) (h : ((f ρ).lift ρ k).wp (FlOut g β A B C E) noE)
    (hq : ∀ z H0' H', Stp β H0 H H0' H' → (k (.bool z)).wp (FlOut g β A B C E) noE → Q z H') (hn : ∀ d, (∀ z, d ≠ .bool z) → (k d).wp (FlOut g β A B C E) noE → False) : tT g f σ H Q :=
  ⟨β, H0, ρ, r.rel, T.wp_mono (fun d hd => by
    cases d with
    | bool z => exact ⟨z, rfl, fun H1 H2 st => hq z H1 H2 st hd⟩
    | _ => exact (hn _ (fun _ z => by cases z) hd).elim) (fun _ z => excX r z) _ ((T.wp_lift _).mp h)⟩
theorem tI_lift {f : Env' → T (List D)} {k : List D → T Fl} {R : It → Hp → Prop} (r : SR g β A B C H0 ρ σ H) (h : ((f ρ).lift ρ k).wp (FlOut g β A B C E) noE)
    (hq : ∀ ds J H0' H', Stp β H0 H H0' H' → Gives J ds H0' → (k ds).wp (FlOut g β A B C E) noE → R J H') : tI g f σ H R :=
  ⟨β, H0, ρ, r.rel, T.wp_mono (fun d hd J H1 H2 st gv => hq d J H1 H2 st gv hd) (fun _ z => excX r z) _ ((T.wp_lift _).mp h)⟩
end

/-! ### small statements -/
def sSet (i : Nat) (f : Env' → T D) : Env' → T Fl := fun ρ => (f ρ).lift ρ fun d => .ret (.nx (ρ.set i (.d d)))
def sRet (f : Env' → T D) : Env' → T Fl := fun ρ => (f ρ).lift ρ fun d => .ret (.ret d)
def sDrop (f : Env' → T D) : Env' → T Fl := fun ρ => (f ρ).lift ρ fun _ => .ret (.nx ρ)
def sNil : Env' → T Fl := fun ρ => .ret (.nx ρ)
def sBrk : Env' → T Fl := fun ρ => .ret (.brk ρ)
def sCnt : Env' → T Fl := fun ρ => .ret (.cnt ρ)
def thenS (G : Env' → T Fl) : Fl → T Fl
  | .nx ρ => G ρ
  | .ret d => .ret (.ret d)
  | .brk ρ => .ret (.brk ρ)
  | .cnt ρ => .ret (.cnt ρ)
  | .exc x ρ => .ret (.exc x ρ)
def sSeq (F G : Env' → T Fl) : Env' → T Fl := fun ρ => (F ρ).bind (thenS G)
def onB (F G : T Fl) : D → T Fl
  | .bool true => F
  | .bool false => G
  | _ => .bad
def sIf (t : Env' → T D) (F G : Env' → T Fl) : Env' → T Fl := fun ρ => (t ρ).lift ρ (onB (F ρ) (G ρ))
section
variable {X : Cx} {g : Ct} {a b c : Expr} {f h t : Env' → T D} {pos : Pos} {st : Stmt} {rest : List Stmt} {F G : Env' → T Fl}
theorem tAsg_of {i : Nat} {E : Ends} {σ : L2.St} {H : Hp} (q : tS g (sSet i f) E σ H) : tAsg (tE g f) (gName i) E σ H := by
  obtain ⟨β, A, B, C, H0, ρ, r, q⟩ := q
  exact tE_lift r q fun d v H1 H2 s hv q1 => q1 _ H1 H2 ((r.step s).setD hv)
theorem s_set {i : Nat} (hs : PS X st (tAsg (tE g f) (gName i))) : PS X st (tS g (sSet i f)) := hs.imp fun _ _ _ q => tAsg_of q
theorem s_setLc {i : Nat} {vs js : List Nat} {it : Env' → T (List D)} {bd : D → Env' → Option Env'} {t e : Env' → T D} (hs : PS X st (tAsg (tLc (tI g it) (tG g.q js bd) (tT g.q t) (tE g.q e) vs) (gName i))) (hj : ∀ j ∈ js, j ∈ vs) : PS X st (tS g (sSet i (eLc vs it bd t e))) :=
  hs.imp fun E σ H q => tLc_of hj (Q := fun x H1 => gName i x σ H1 E.nx) (tAsg_of q)
theorem s_ret (ha : PE X a (tE g f)) : PS X (.Return (some a) pos) (tS g (sRet f)) := (ps_ret ha).imp fun E σ H ⟨β, A, B, C, H0, ρ, r, q⟩ =>
  tE_lift r q fun d v H1 H2 s hv q1 => q1 v H1 H2 (r.st.trans s) hv
theorem s_drop (hs : PS X st (tDrop (tE g f))) : PS X st (tS g (sDrop f)) := hs.imp fun E σ H ⟨β, A, B, C, H0, ρ, r, q⟩ =>
  tE_lift r q fun d v H1 H2 s hv q1 => q1 σ H1 H2 (r.step s)
theorem ss_nil : PSs X [] (tS g sNil) := pss_nil.imp fun E σ H ⟨β, A, B, C, H0, ρ, r, q⟩ => q σ H0 H r
theorem s_pass : PS X (.Pass pos) (tS g sNil) := ps_pass.imp fun E σ H ⟨β, A, B, C, H0, ρ, r, q⟩ => q σ H0 H r
theorem s_brk : PS X (.Break pos) (tS g sBrk) := ps_break.imp fun E σ H ⟨β, A, B, C, H0, ρ, r, q⟩ => q σ H0 H r
theorem s_cnt : PS X (.Continue pos) (tS g sCnt) := ps_continue.imp fun E σ H ⟨β, A, B, C, H0, ρ, r, q⟩ => q σ H0 H r
theorem FlOut.seq {β : Box} {A B C : Hp} {E : Ends} : ∀ {fl : Fl}, (thenS G fl).wp (FlOut g β A B C E) noE → FlOut g β A B C { E with nx := tS g G E } fl
  | .nx ρ, h => fun σ' H0' H' r => ⟨β, A, B, C, H0', ρ, r, h⟩
  | .ret _, h => h
  | .brk _, h => h
  | .cnt _, h => h
  | .exc _ _, h => h
theorem ss_cons (h1 : PS X st (tS g F)) (h2 : PSs X rest (tS g G)) : PSs X (st :: rest) (tS g (sSeq F G)) := (pss_cons h1 h2).imp fun E σ H ⟨β, A, B, C, H0, ρ, r, q⟩ =>
  ⟨β, A, B, C, H0, ρ, r, T.wp_mono (fun _ z => FlOut.seq z) (fun _ z => z) _ ((T.wp_bind _ _).mp q)⟩
theorem ss_one (h1 : PS X st (tS g F)) : PSs X [st] (tS g F) := pss_one h1
theorem s_if {as bs : List Stmt} (hc : PT X c (tT g t)) (ha : PSs X as (tS g F)) (hb : PSs X bs (tS g G)) : PS X (.If c as bs pos) (tS g (sIf t F G)) := (ps_if hc ha hb).imp fun E σ H ⟨β, A, B, C, H0, ρ, r, q⟩ =>
  tT_lift r q (fun z H1 H2 s q1 => by
    cases z with
    | true => exact iteT ⟨β, A, B, C, H1, ρ, r.step s, q1⟩
    | false => exact iteF ⟨β, A, B, C, H1, ρ, r.step s, q1⟩) (fun d hn q1 => by
    cases d with
    | bool z => exact hn z rfl
    | _ => exact q1)
/-- a, b = x, y -/
def sPar (i j : Nat) (fs : Env' → T (List Ar)) : Env' → T Fl := fun ρ => (fs ρ).lift ρ fun as => match as with
  | [.d x, .d y] => .ret (.nx ((ρ.set i (.d x)).set j (.d y)))
  | _ => .bad
theorem s_par {i j : Nat} {fs : Env' → T (List Ar)} (hs : PS X st (tPar i j (tA g fs))) : PS X st (tS g (sPar i j fs)) := hs.imp fun E σ H ⟨β, A, B, C, H0, ρ, r, q⟩ => tA_lift r q fun as vs H1 H2 s hv q1 => by
  split at q1
  · next x y =>
    obtain ⟨v, w, rfl, h1, h2⟩ := hv.two
    exact ⟨v, w, rfl, q1 _ H1 H2 (((r.step s).setD h1).setD h2)⟩
  · exact q1.elim
/-- a, b, .. = e -/
def sUnp (bd : D → Env' → Option Env') (f : Env' → T D) : Env' → T Fl := fun ρ => (f ρ).lift ρ fun d => match bd d ρ with
  | some ρ' => .ret (.nx ρ')
  | none => .bad
theorem SR.names {β : Box} {A B C H0 H : Hp} : ∀ {is : List Nat} {ds : List D} {vs : List V} {ρ ρ' : Env'} {σ : L2.St} {Q : L2.St → Hp → Prop}, SR g β A B C H0 ρ σ H → HasL H0 vs ds → bNames is ds ρ = some ρ' →
    (∀ σ', SR g β A B C H0 ρ' σ' H → Q σ' H) → gNames is vs σ H Q
  | [], [], vs, ρ, ρ', σ, Q, rr, hl, e, q => by
    cases hl
    cases e
    exact ⟨rfl, q σ rr⟩
  | i :: is, d :: ds, vs, ρ, ρ', σ, Q, rr, hl, e, q => by
    cases hl with
    | @cons v vs _ _ h1 h2 => exact ⟨v, vs, rfl, SR.names (rr.setD h1) h2 e q⟩
  | [], _ :: _, _, _, _, _, _, _, _, e, _ => by cases e
  | _ :: _, [], _, _, _, _, _, _, _, e, _ => by cases e
theorem s_unp {is : List Nat} {n : Nat} (hn : n = is.length) (hs : PS X st (tAsg (tE g f) (gTup X.K n (gNames is)))) : PS X st (tS g (sUnp (bTup is) f)) := hs.imp fun E σ H ⟨β, A, B, C, H0, ρ, r, q⟩ => tE_lift r q fun d v H1 H2 s hv q1 => by
  split at q1
  · next ρ' hb =>
    have rr := r.step s
    cases hv with
    | tup h1 h2 =>
      have e' : bNames is _ ρ = some ρ' := hb
      refine ⟨_, _, rfl, SqT.of (s.ext _ _ h1), ?_, SR.names rr h2 e' fun σ' r' => q1 σ' H1 H2 r'⟩
      rw [h2.length, bNames_len e', hn]
    | _ => cases hb
  · exact q1.elim
/-- n op= e, ints -/
def sAug (i : Nat) (o : Int → Int → Int) (f : Env' → T D) : Env' → T Fl := fun ρ => match ρ[i]? with
  | some (.d (.int x)) => (f ρ).lift ρ fun d => match d with
    | .int y => .ret (.nx (ρ.set i (.d (.int (o x y)))))
    | _ => .bad
  | _ => .bad
theorem s_aug {i : Nat} {o : Int → Int → Int} (hs : PS X st (tAug i (tE g f) (ipI o))) : PS X st (tS g (sAug i o f)) := hs.imp fun E σ H ⟨β, A, B, C, H0, ρ, r, q⟩ => by
  unfold sAug at q
  split at q
  · next x hx =>
    have hl : i < σ.length := by
      rw [← r.rel.len]
      exact (List.getElem?_eq_some_iff.mp hx).1
    obtain ⟨v, e, hv⟩ := r.rel.sl i _ _ hx (List.getElem?_eq_getElem hl)
    have ev := hv.int_eq
    subst ev
    refine ⟨.int x, by rw [List.getElem?_eq_getElem hl, e], tE_lift r q fun d w H1 H2 s hw q1 => ?_⟩
    cases hw with
    | int y => exact ⟨x, y, rfl, rfl, q1 _ H1 H2 ((r.step s).setD (.int _))⟩
    | _ => exact q1.elim
  · exact q.elim

/-! ### loops -/
def forGo (bd : D → Env' → Option Env') (F : Env' → T Fl) : List D → Env' → T Fl
  | [], ρ => .ret (.nx ρ)
  | d :: r, ρ => match bd d ρ with
    | none => .bad
    | some ρ1 => (F ρ1).bind fun fl => match fl with
      | .nx ρ' => forGo bd F r ρ'
      | .cnt ρ' => forGo bd F r ρ'
      | .brk ρ' => .ret (.nx ρ')
      | .ret d => .ret (.ret d)
      | .exc x ρ' => .ret (.exc x ρ')
def sFor (it : Env' → T (List D)) (bd : D → Env' → Option Env') (F : Env' → T Fl) : Env' → T Fl := fun ρ => (it ρ).lift ρ fun ds => forGo bd F ds ρ
/-- a target within a statement -/
def PB (K : PySem.W.Frag) (g : Ct) (tg : TG) (bd : D → Env' → Option Env') : Prop := ∀ {β : Box} {A B C H0 H : Hp} {ρ ρ' : Env'} {σ : L2.St} {v : V} {d : D} {Q : L2.St → Hp → Prop},
  SR g β A B C H0 ρ σ H → Has H0 v d → bd d ρ = some ρ' → (∀ σ', SR g β A B C H0 ρ' σ' H → Q σ' H) → tg v σ H Q
theorem b_name {K : PySem.W.Frag} {i : Nat} : PB K g (gName i) (bName i) := fun r hv e q => by
  cases e
  exact q _ (r.setD hv)
theorem b_tup {K : PySem.W.Frag} {is : List Nat} {n : Nat} (hn : n = is.length) : PB K g (gTup K n (gNames is)) (bTup is) := by
  intro β A B C H0 H ρ ρ' σ v d Q r hv e q
  cases hv with
  | tup h1 h2 =>
    have e' : bNames is _ ρ = some ρ' := e
    refine ⟨_, _, rfl, SqT.of (r.rel.ext _ _ h1), ?_, SR.names r h2 e' q⟩
    rw [h2.length, bNames_len e', hn]
  | _ => cases e
theorem s_for {it : Env' → T (List D)} {tg : TG} {bd : D → Env' → Option Env'} (hb : PB X.K g tg bd) (hs : PS X st (tFor (tI g it) tg (tS g F))) : PS X st (tS g (sFor it bd F)) := hs.imp fun E σ H ⟨β, A, B, C, H0, ρ, r, q⟩ =>
  tI_lift r q fun ds J H1 H2 s gv q1 => by
    obtain ⟨Gd, Y, walk, hG, hY⟩ := gv
    have r1 := r.step s
    refine for_it walk (D := E) (fun i σ' H' => ∃ H0' ρ', SR g β A B H1 H0' ρ' σ' H' ∧ (forGo bd F (ds.drop i) ρ').wp (FlOut g β A B C E) noE) ⟨H1, ρ, r1.rebase fun _ _ z => z, q1⟩ ?_ ?_ ?_
    · rintro i σ' H' _ ⟨H0', ρ', r', _⟩
      exact hG _ (fun b o z => r'.rel.ext b o (r'.base b o z))
    · rintro i x σ' Hc H3 hi ⟨H0', ρ', r', hw⟩ hy
      have hd : ds[i]? = some ds[i] := List.getElem?_eq_getElem hi
      have ed : ds.drop i = ds[i] :: ds.drop (i + 1) := List.drop_eq_getElem_cons hi
      rw [ed] at hw
      have turn : ∀ H0n H2n, SR g β A B H1 H0n ρ' σ' H2n → Has H0n x ds[i] → tg x σ' H2n fun σ2 H2 => tS g F { E with
            nx := fun σ' H' => ∃ H0' ρ', SR g β A B H1 H0' ρ' σ' H' ∧ (forGo bd F (ds.drop (i + 1)) ρ').wp (FlOut g β A B C E) noE
            ct := fun σ' H' => ∃ H0' ρ', SR g β A B H1 H0' ρ' σ' H' ∧ (forGo bd F (ds.drop (i + 1)) ρ').wp (FlOut g β A B C E) noE
            bk := E.nx } σ2 H2 := by
        intro H0n H2n rn hx
        unfold forGo at hw
        split at hw
        · exact hw.elim
        · next ρ1 hb1 =>
          refine hb rn hx hb1 fun σ2 r2 => ⟨β, A, B, H1, H0n, ρ1, r2, T.wp_mono (fun fl z => ?_) (fun _ z => z) _ ((T.wp_bind _ _).mp hw)⟩
          cases fl with
          | nx ρ2 => exact fun σ' H0' H' r' => ⟨H0', ρ2, r', z⟩
          | cnt ρ2 => exact fun σ' H0' H' r' => ⟨H0', ρ2, r', z⟩
          | brk ρ2 => exact fun σ' H0' H' r' => z σ' H0' H' (r'.rebase (r1.base.trans r'.base))
          | ret d => exact z
          | exc e ρ2 => exact fun c dx σ' H0' H' r' he => z c dx σ' H0' H' (r'.rebase (r1.base.trans r'.base)) he
      rcases hY i Hc x H3 ds[i] H0' hd r'.base r'.rel.ext hy with ⟨e2, hx⟩ | ⟨tp, us, es, e1, hn2, e2, e3, hu⟩
      · subst e2
        exact turn H0' H3 r' hx
      · subst e1
        subst e2
        have htp : H0' tp = none := r'.rel.ext.free hn2
        refine turn (upd H0' tp (.tup us)) _ (r'.step (r'.rel.new hn2)) ?_
        rw [e3]
        exact .tup upd_same (upd_has htp hu)
    · rintro σ' H' ⟨H0', ρ', r', hw⟩
      rw [List.drop_length] at hw
      exact hw σ' H0' H' (r'.rebase (r1.base.trans r'.base))
def whGo (t : Env' → T D) (F : Env' → T Fl) : Nat → Env' → T Fl
  | 0, _ => .bad
  | n + 1, ρ => (t ρ).lift ρ (onB ((F ρ).bind fun fl => match fl with
      | .nx ρ' => whGo t F n ρ'
      | .cnt ρ' => whGo t F n ρ'
      | .brk ρ' => .ret (.nx ρ')
      | .ret d => .ret (.ret d)
      | .exc x ρ' => .ret (.exc x ρ')) (.ret (.nx ρ)))
def sWhile (n : Nat) (t : Env' → T D) (F : Env' → T Fl) : Env' → T Fl := fun ρ => whGo t F n ρ
theorem s_while {n : Nat} (hs : PS X st (tWhile (tT g t) (tS g F))) : PS X st (tS g (sWhile n t F)) := hs.imp fun E σ H ⟨β, A, B, C, H0, ρ, r, q⟩ => by
  refine ⟨fun m σ' H' => ∃ H0' ρ', SR g β A B C H0' ρ' σ' H' ∧ (whGo t F m ρ').wp (FlOut g β A B C E) noE, ⟨n, H0, ρ, r, q⟩, ?_⟩
  rintro m σ' H' ⟨H0', ρ', r', hw⟩
  cases m with
  | zero => exact hw.elim
  | succ m =>
    refine tT_lift r' hw (fun z H1 H2 s q1 => ?_) (fun d hn q1 => ?_)
    · cases z with
      | true =>
        refine iteT ⟨fun σ' H' => ∃ H0' ρ', SR g β A B C H0' ρ' σ' H' ∧ (whGo t F m ρ').wp (FlOut g β A B C E) noE, fun σ3 H3 w => ⟨m, Nat.lt_succ_self m, w⟩, ?_⟩
        refine ⟨β, A, B, C, H1, ρ', r'.step s, T.wp_mono (fun fl z => ?_) (fun _ z => z) _ ((T.wp_bind _ _).mp q1)⟩
        cases fl with
        | nx ρ2 => exact fun σ' H0' H' r' => ⟨H0', ρ2, r', z⟩
        | cnt ρ2 => exact fun σ' H0' H' r' => ⟨H0', ρ2, r', z⟩
        | brk ρ2 => exact z
        | ret d => exact z
        | exc e ρ2 => exact z
      | false => exact iteF (q1 σ' H1 H2 (r'.step s))
    · cases d with
      | bool z => exact hn z rfl
      | _ => exact q1
end

/-! ### defs -/
def arSl : Ar → Sl
  | .d x => .d x
  | .box k => .box k
def startE (N : Nat) (as : List Ar) : Env' := as.map arSl ++ List.replicate (N - as.length) .no
def endF : Fl → T D
  | .nx _ => .ret .none
  | .ret d => .ret d
  | .exc x _ => .exc x
  | _ => .bad
def T.run : T Fl → T D
  | .ret fl => endF fl
  | .draw m k => .draw m fun i => (k i).run
  | .exc _ => .bad
  | .bad => .bad
@[simp] theorem T.run_ret (fl : Fl) : (T.ret fl).run = endF fl := rfl
@[simp] theorem T.run_draw (m : Int) (k : Int → T Fl) : (T.draw m k).run = .draw m fun i => (k i).run := rfl
theorem T.wp_run {P : D → Prop} {E : Exn → Prop} : ∀ (t : T Fl), t.run.wp P E ↔ t.wp (fun fl => (endF fl).wp P E) noE
  | .ret _ => Iff.rfl
  | .draw _ k => ⟨fun h => ⟨h.1, h.2.1, fun i a b => (T.wp_run (k i)).mp (h.2.2 i a b)⟩, fun h => ⟨h.1, h.2.1, fun i a b => (T.wp_run (k i)).mpr (h.2.2 i a b)⟩⟩
  | .exc _ => Iff.rfl
  | .bad => Iff.rfl
def mkDef (N : Nat) (F : Env' → T Fl) : List Ar → T D := fun as => (F (startE N as)).run
theorem HasAs.get {β : Box} {H0 : Hp} : ∀ {vs : List V} {as : List Ar} {i : Nat} {a : Ar}, HasAs β H0 vs as → as[i]? = some a → ∃ v, vs[i]? = some v ∧ HasA β H0 v a
  | _, _, _, _, .nil, h => by simp at h
  | _, _, 0, _, .cons h _, e => by
    have e' := Option.some.inj e
    subst e'
    exact ⟨_, rfl, h⟩
  | _, _, i + 1, _, .cons _ r, e => by
    obtain ⟨d, h1, h2⟩ := HasAs.get (i := i) r (by simpa using e)
    exact ⟨d, by simpa using h1, h2⟩
theorem rel_start {cad : Cad} {β : Box} {ξ : Xi} {H0 H : Hp} {N : List Str} {vs : List V} {as : List Ar} (e : Same H0 H) (ok : β.ok H) (bf : ∀ a, β.S a → H0 a = none) (tb : TabsIn cad β) (h : HasAs β H0 vs as) :
    Rel cad β ξ H0 (startE N.length as) (L2.start N vs) H := by
  have hl := h.length
  have noOwn : ∀ (i : Nat) (xs : List D), (startE N.length as)[i]? ≠ some (.own xs) := fun i xs z => by
    unfold startE at z
    rw [List.getElem?_append] at z
    split at z
    · rw [List.getElem?_map] at z
      cases q : as[i]? with
      | none =>
        rw [q] at z
        cases z
      | some a =>
        rw [q] at z
        cases a <;> cases z
    · rw [List.getElem?_replicate] at z
      split at z <;> cases z
  refine ⟨e, ?_, fun i s o a b => ?_, fun i j xs ys p q a _ _ _ _ => (noOwn i xs a).elim, ok, bf, tb⟩
  · unfold startE L2.start
    simp [hl]
  · unfold startE at a
    unfold L2.start at b
    by_cases hi : i < as.length
    · rw [List.getElem?_append_left (by simpa using hi), List.getElem?_map] at a
      rw [List.getElem?_append_left (by simp; omega), List.getElem?_map] at b
      rw [List.getElem?_eq_getElem hi] at a
      obtain ⟨v, hv, hh⟩ := h.get (List.getElem?_eq_getElem hi)
      rw [hv] at b
      cases a
      cases b
      generalize as[i] = z at hh
      cases z with
      | d x => exact ⟨v, rfl, hh⟩
      | box k => exact ⟨v, rfl, hh⟩
    · rw [List.getElem?_append_right (by simpa using hi), List.getElem?_replicate] at a
      split at a
      · cases a
        trivial
      · cases a
theorem FnG.ofDE {P : Program} {w : World} {K : PySem.W.Frag} {mg : Str → Option Value} {base : Heap} {cad : Cad} {x qual : Str} {st : Stmt} {fa : Addr} {fd : FuncData} {N ps : List Str} {k : Nat} {F : Env' → T Fl} (Fu : Fun K x qual st fa fd) (S : FnScope N ps (defScope st))
    (hbody : ∀ (cdv : Value) (A : Around) (outer : List Env) (s : Shared) (H : Hp) (E : XK), fd.code = cdv → Room k (A.deeper (envOfC qual (defScope st) s.heap.objs.size fa cdv)) → (A.deeper (envOfC qual (defScope st) s.heap.objs.size fa cdv)).guards = some [] →
      PSs (bodyX P w K mg base N qual st fa cdv A outer s H E) (defBody st) (tS ⟨cad, none, fun c d _ H' => E c d H', fun _ _ _ => True⟩ F)) :
    FnG P w K mg base (k + 1) fa fd ps (spD cad ps.length (mkDef N.length F)) := by
  refine FnG.ofE Fu S (fun vs H Q E h => h.1) fun cdv A outer s H vs Q E hc hr hg h => ⟨_, hbody cdv A outer s H E hc hr hg, ?_⟩
  obtain ⟨_, β, H0, as, e, ok, bf, tb, ha, q⟩ := h
  refine ⟨β, H0, H, H0, H0, startE N.length as, ⟨rel_start e ok bf tb ha, Stp.refl e ok bf, fun _ _ z => z, trivial, fun i xs p a => ?_⟩, T.wp_mono (fun fl z => ?_) (fun x z => z) _ ((T.wp_run _).mp q)⟩
  · intro _
    exfalso
    unfold startE at a
    rw [List.getElem?_append] at a
    split at a
    · rw [List.getElem?_map] at a
      cases q : as[i]? with
      | none =>
        rw [q] at a
        cases a
      | some z =>
        rw [q] at a
        cases z <;> cases a
    · rw [List.getElem?_replicate] at a
      split at a <;> cases a
  · cases fl with
    | nx ρ' => exact fun σ' H0' H' r => z .non H0' H' r.st .non
    | ret d => exact z
    | exc y ρ' => exact fun c dx σ' H0' H' r he => z c dx H0' H' r.st he
    | brk _ => exact z.elim
    | cnt _ => exact z.elim
theorem FnG.ofD {P : Program} {w : World} {K : PySem.W.Frag} {mg : Str → Option Value} {base : Heap} {cad : Cad} {x qual : Str} {st : Stmt} {fa : Addr} {fd : FuncData} {N ps : List Str} {k : Nat} {F : Env' → T Fl} (Fu : Fun K x qual st fa fd) (S : FnScope N ps (defScope st))
    (hbody : ∀ (cdv : Value) (A : Around) (outer : List Env) (s : Shared) (H : Hp) (E : XK), Room k (A.deeper (envOfC qual (defScope st) s.heap.objs.size fa cdv)) → (A.deeper (envOfC qual (defScope st) s.heap.objs.size fa cdv)).guards = some [] →
      PSs (bodyX P w K mg base N qual st fa cdv A outer s H E) (defBody st) (tS ⟨cad, none, fun c d _ H' => E c d H', fun _ _ _ => True⟩ F)) :
    FnG P w K mg base (k + 1) fa fd ps (spD cad ps.length (mkDef N.length F)) :=
  FnG.ofDE Fu S fun cdv A outer s H E _ hr hg => hbody cdv A outer s H E hr hg
end Wb

set_option Elab.async false
set_option linter.all false
set_option maxRecDepth 100000
set_option maxHeartbeats 4000000
/-! Wb, part 6: errors, isinstance, repr. -/
namespace Wb
open PySem PySem.Spec PyProof.Rows L2

/-! ### an error class with one field, two fields -/
def spI1 (C : Addr) (f : Str) : Sp := fun vs H Q _ => ∃ a v, vs = [.ref a, v] ∧ H a = some (exo a C none) ∧
  ∀ dx, H dx = none → dx ≠ a → Q .non (upd (upd H dx (exd dx [(f, v)])) a (exo a C (some dx)))
def spI2 (C : Addr) (f1 f2 : Str) : Sp := fun vs H Q _ => ∃ a v w, vs = [.ref a, v, w] ∧ H a = some (exo a C none) ∧
  ∀ dx, H dx = none → dx ≠ a → Q .non (upd (upd (upd H dx (exd dx [(f1, v)])) a (exo a C (some dx))) dx (exd dx [(f2, w), (f1, v)]))
/-- what the written part says of the class at C and of its __init__ -/
structure ErrC (K : PySem.W.Frag) (mg : Str → Option Value) (x : Str) (C fI : Addr) : Prop where
  oex : OexC K C
  xf : XfC K C
  gC : mg x = some (.ref C)
  iC : PySem.W.findIn K (.ref C) "__init__" = some (some (.ref fI))
  tI : PySem.W.typeIn K (.ref fI) = some (.type "function")
theorem del_back {H : Hp} {a d : Addr} {o1 o2 o3 o4 : HO} (ha : H a = none) (hne : d ≠ a) : upd (del (upd (upd (upd H a o1) d o2) a o3) a) d o4 = upd H d o4 := by
  funext b
  by_cases h1 : b = d
  · subst h1
    rw [upd_same, upd_same]
  · rw [upd_ne h1, upd_ne h1]
    by_cases h2 : b = a
    · subst h2
      rw [del_same, ha]
    · rw [del_ne h2, upd_ne h2, upd_ne h1, upd_ne h2]
theorem del_back2 {H : Hp} {a d : Addr} {o1 o2 o3 o4 o5 : HO} (ha : H a = none) (hne : d ≠ a) : upd (del (upd (upd (upd (upd H a o1) d o2) a o3) d o5) a) d o4 = upd H d o4 := by
  funext b
  by_cases h1 : b = d
  · subst h1
    rw [upd_same, upd_same]
  · rw [upd_ne h1, upd_ne h1]
    by_cases h2 : b = a
    · subst h2
      rw [del_same, ha]
    · rw [del_ne h2, upd_ne h1, upd_ne h2, upd_ne h1, upd_ne h2]
def sRaise1 (c fl : Str) (f : Env' → T D) : Env' → T Fl := fun ρ => (f ρ).lift ρ fun d => .ret (.exc ⟨c, [(fl, d)]⟩ ρ)
section
variable {X : Cx} {g : Ct} {a : Expr} {f : Env' → T D} {x fl : Str} {p pos pos2 : Pos} {C fI : Addr} {j : Nat} {fd : FuncData} {ps : List Str}
theorem s_raise1 (hc : X.calm = true) (tk : Takes X g.W) (T : ErrC X.K X.mg x C fI) (hcad : g.cad x = some C) (F1 : FnOk X.prog X.w X.K X.mg X.base CX0 j fI fd ps (spI1 C fl)) (hr : Room (j + 1) X.A) (hb : Binds X.K fd ps []) (hg : Gl X x)
    (ha : PE X a (tE g f)) (hdb : (x == ("__debug__" : Str)) = false := by decide) (hs : starEach [a] X.env = (false, eval a X.env) :: starEach [] X.env := by rfl) (hpl : (backTo pos (starEach [] X.env)).any (·.1) = false := by rfl) :
    PS X (.Raise (some (.Call (.Name x p) [a] [] pos)) none pos2) (tS g (sRaise1 x fl f)) :=
  (ps_raise hc tk (pmk_oex T.oex T.iC T.tI F1 hr hb .nil pass0 hg T.gC (pa_cons ha pa_nil hs) hdb hs hpl)).imp fun E σ H ⟨β, A, B, C', H0, ρ, r, q⟩ => by
    refine tE_lift r q fun d v H1 H2 s hv q1 => ⟨by show 1 ≤ 1000; omega, fun e he => ?_⟩
    refine ⟨e, v, rfl, upd_same, fun dx hdx hne => ⟨rfl, dx, [(fl, v)], upd_same, ?_, ?_, ?_⟩⟩
    · rw [upd_ne hne, upd_same]
    · rw [upd_ne hne] at hdx
      exact hdx
    · rw [del_back he hne]
      rw [upd_ne hne] at hdx
      have st2 := Stp.new (o := .xd [(fl, v)]) s.ext s.ok s.boxf hdx
      exact q1 (.ref C) (some dx) σ _ _ ((r.step s).step st2) ⟨⟨C, hcad, rfl⟩, .inr ⟨dx, [v], rfl, upd_same, .cons (upd_has' (s.ext.free hdx) hv) .nil⟩⟩
/-- the body of such an __init__ -/
theorem init1_ok {P : Program} {w : World} {K : PySem.W.Frag} {mg : Str → Option Value} {base : Heap} {qual : Str} {st : Stmt} {p1 p2 p3 p4 : Pos} (F : Fun K "__init__" qual st fI fd) (S : FnScope [("self" : Str), fl] [("self" : Str), fl] (defScope st))
    (hbd : defBody st = [.Assign [.Attribute (.Name "self" p1) fl p2] (.Name fl p3) p4]) (T : OexC K C) (hno : PySem.W.findIn K (.ref C) fl = some none)
    (h0 : ∀ X : Cx, X.N = [("self" : Str), fl] → X.env.scope = defScope st → PE X (.Name "self" p1) (tVar 0)) (h1 : ∀ X : Cx, X.N = [("self" : Str), fl] → X.env.scope = defScope st → PE X (.Name fl p3) (tVar 1)) : FnOk P w K mg base CX0 1 fI fd [("self" : Str), fl] (spI1 C fl) := by
  refine F.ok S (fun vs H Q E h => ?_) (fun cdv A outer s H vs Q E hr h => ?_)
  · obtain ⟨a, v, rfl, _⟩ := h
    rfl
  · obtain ⟨a, v, rfl, ea, q⟩ := h
    rw [hbd]
    refine ⟨_, pss_one (ps_ost (h0 _ rfl rfl) (h1 _ rfl rfl)), ?_⟩
    exact ⟨v, rfl, .ref a, rfl, a, C, rfl, T, hno, .inl ⟨ea, fun dx nx ne => q dx nx ne⟩⟩
end

/-! ### try: .. except X as n: .. -/
def clrS : Sl → Sl
  | .ex _ => .no
  | s => s
def clrE (ρ : Env') : Env' := ρ.map clrS
def afterX (i : Nat) : Fl → T Fl
  | .nx ρ => .ret (.nx (clrE (ρ.set i .no)))
  | .ret d => .ret (.ret d)
  | .brk ρ => .ret (.brk (clrE (ρ.set i .no)))
  | .cnt ρ => .ret (.cnt (clrE (ρ.set i .no)))
  | .exc _ _ => .bad
/-- cm: which classes the clause takes -/
def sTry (i : Nat) (cm : Str → Option Bool) (F G : Env' → T Fl) : Env' → T Fl := fun ρ => (F ρ).bind fun fl => match fl with
  | .exc x ρ' => match cm x.cls with
    | some true => (G (ρ'.set i (.ex x))).bind (afterX i)
    | some false => .ret (.exc x ρ')
    | none => .bad
  | .nx ρ' => .ret (.nx ρ')
  | .ret d => .ret (.ret d)
  | .brk ρ' => .ret (.brk ρ')
  | .cnt ρ' => .ret (.cnt ρ')
section
variable {cad : Cad} {β : Box} {ξ ξ' : Xi} {H0 H : Hp} {ρ : Env'} {σ : L2.St}
theorem clr_get {j : Nat} {s : Sl} (h : (clrE ρ)[j]? = some s) : ∃ u, ρ[j]? = some u ∧ s = clrS u := by
  unfold clrE at h
  rw [List.getElem?_map] at h
  cases q : ρ[j]? with
  | none =>
    rw [q] at h
    cases h
  | some u =>
    rw [q] at h
    exact ⟨u, rfl, (Option.some.inj h).symm⟩
theorem SlOk.clr {sl : Sl} {o : Option V} (h : SlOk cad β ξ H0 H sl o) : SlOk cad β ξ' H0 H (clrS sl) o := by
  cases sl with
  | no => trivial
  | d x => exact h
  | own xs => exact h
  | box => exact h
  | fn => exact h
  | ex x => trivial
theorem clr_own {u : Sl} {xs : List D} (h : Sl.own xs = clrS u) : u = .own xs := by
  cases u with
  | own ys =>
    cases h
    rfl
  | _ => cases h
theorem Rel.clr (r : Rel cad β ξ H0 ρ σ H) : Rel cad β ξ' H0 (clrE ρ) σ H := by
  refine ⟨r.ext, by simp [clrE, r.len], fun j s o a b => ?_, fun j l xs ys p q a b c e ne => ?_, r.ok, r.boxf, r.tabs⟩
  · obtain ⟨u, hu, rfl⟩ := clr_get a
    exact (r.sl j u o hu b).clr
  · obtain ⟨u, hu, eu⟩ := clr_get a
    obtain ⟨w, hw, ew⟩ := clr_get b
    have eu' := clr_own eu
    have ew' := clr_own ew
    subst eu' ew'
    exact r.apart j l xs ys p q hu hw c e ne
/-- from outside of a handler to within: no slot holds an error -/
theorem SlOk.enter {sl : Sl} {o : Option V} (h : SlOk cad β none H0 H sl o) : SlOk cad β ξ' H0 H sl o := by
  cases sl with
  | no => trivial
  | d x => exact h
  | own xs => exact h
  | box => exact h
  | fn => exact h
  | ex x =>
    obtain ⟨_, _, _, e, _⟩ := h
    cases e
theorem Rel.enter (r : Rel cad β none H0 ρ σ H) : Rel cad β ξ' H0 ρ σ H := ⟨r.ext, r.len, fun j s o a b => (r.sl j s o a b).enter, r.apart, r.ok, r.boxf, r.tabs⟩
end
section
variable {g : Ct} {β : Box} {A B C H0 H : Hp} {ρ : Env'} {σ : L2.St}
theorem own_clr (h : ∀ (i : Nat) (xs : List D) (p : Addr), ρ[i]? = some (.own xs) → σ[i]? = some (some (.ref p)) → B p = none) (i : Nat) (xs : List D) (p : Addr) (a : (clrE ρ)[i]? = some (.own xs)) (b : σ[i]? = some (some (.ref p))) : B p = none := by
  obtain ⟨u, hu, eu⟩ := clr_get a
  have e := clr_own eu
  subst e
  exact h i xs p hu b
theorem SR.set {sl : Sl} {o : Option V} {i : Nat} (r : SR g β A B C H0 ρ σ H) (hs : SlOk g.cad β g.ξ H0 H sl o) (hn : ∀ xs, sl ≠ .own xs) : SR g β A B C H0 (ρ.set i sl) (σ.set i o) H := by
  refine ⟨r.rel.set hs hn, r.st, r.base, r.lk, fun j xs p a b => ?_⟩
  by_cases hj : j = i
  · subst hj
    by_cases hl : j < ρ.length
    · rw [List.getElem?_set_self hl] at a
      exact (hn xs (Option.some.inj a)).elim
    · rw [List.getElem?_eq_none (by simpa using hl)] at a
      cases a
  · rw [List.getElem?_set_ne (Ne.symm hj)] at a b
    exact r.own j xs p a b
/-- the context of a handler -/
def Ct.h (g : Ct) (a : Addr) (c : Value) (dx : Option Addr) : Ct := ⟨g.cad, some (a, c, dx), fun _ _ _ _ => False, g.lk⟩
theorem s_try {X : Cx} {st : Stmt} {i : Nat} {c : Value} {cm : Str → Option Bool} {F G : Env' → T Fl} (hx : g.ξ = none) (hcm : ∀ x C b, g.cad x = some C → cm x = some b → PySem.W.exmOne X.K (.ref C) c = some b)
    (hs : PS X st (fun D σ H => tS { g with W := wAs X.K c i (fun a cls d => tS (g.h a cls d) G) g.W D } F D σ H)) : PS X st (tS g (sTry i cm F G)) := hs.imp fun E σ H ⟨β, A, B, C, H0, ρ, r, q⟩ => by
  refine ⟨β, A, B, C, H0, ρ, ⟨r.rel, r.st, r.base, r.lk, r.own⟩, T.wp_mono (fun fl z => ?_) (fun _ z => z) _ ((T.wp_bind _ _).mp q)⟩
  cases fl with
  | nx ρ' => exact fun σ' H0' H' r' => z σ' H0' H' ⟨r'.rel, r'.st, r'.base, r'.lk, r'.own⟩
  | ret d => exact z
  | brk ρ' => exact fun σ' H0' H' r' => z σ' H0' H' ⟨r'.rel, r'.st, r'.base, r'.lk, r'.own⟩
  | cnt ρ' => exact fun σ' H0' H' r' => z σ' H0' H' ⟨r'.rel, r'.st, r'.base, r'.lk, r'.own⟩
  | exc x ρ' =>
    intro cv dx σ' H0' H' r' he
    have he' : ExcIs g.cad x cv dx H0' := he
    have r0 : SR g β A B C H0' ρ' σ' H' := ⟨r'.rel, r'.st, r'.base, r'.lk, r'.own⟩
    obtain ⟨⟨C', hC', ec⟩, hd⟩ := id he'
    subst ec
    simp only at z
    split at z
    · next hm =>
      refine ⟨true, hcm _ _ _ hC' hm, fun _ a ha => ?_, fun w => by cases w⟩
      have rr : SR (g.h a (.ref C') dx) β A B C H0' (ρ'.set i (.ex x)) (σ'.set i (some (.ref a))) H' := by
        have r1 : SR (g.h a (.ref C') dx) β A B C H0' ρ' σ' H' := ⟨by
          have rel := r0.rel
          rw [hx] at rel
          exact rel.enter, r0.st, r0.base, r0.lk, r0.own⟩
        exact r1.set ⟨a, .ref C', dx, rfl, rfl, he'⟩ (fun _ w => by cases w)
      refine ⟨β, A, B, C, H0', _, rr, T.wp_mono (fun fl2 z2 => ?_) (fun _ z => z) _ ((T.wp_bind _ _).mp z)⟩
      have back : ∀ {ρ2 : Env'} {σ2 : L2.St} {H2 H3 : Hp}, SR (g.h a (.ref C') dx) β A B C H2 ρ2 σ2 H3 → SR g β A B C H2 (clrE (ρ2.set i .no)) (σ2.set i none) H3 := fun {ρ2 σ2 H2 H3} r2 => by
        have r3 := r2.set (i := i) (sl := .no) (o := none) trivial (fun _ w => by cases w)
        exact ⟨r3.rel.clr, r3.st, r3.base, r3.lk, own_clr r3.own⟩
      cases fl2 with
      | nx ρ2 => exact fun σ2 H2 H3 r2 => z2 _ H2 H3 (back r2)
      | ret d => exact z2
      | brk ρ2 => exact fun σ2 H2 H3 r2 => z2 _ H2 H3 (back r2)
      | cnt ρ2 => exact fun σ2 H2 H3 r2 => z2 _ H2 H3 (back r2)
      | exc _ _ => exact z2.elim
    · next hm =>
      exact ⟨false, hcm _ _ _ hC' hm, (fun w => by cases w), fun _ => z _ dx σ' H0' H' r0 he'⟩
    · exact z.elim
end
/-! ### a field of the error that is handled -/
def eFld (i : Nat) (c fl : Str) : Env' → T D := fun ρ => match ρ[i]? with
  | some (.ex x) => if x.cls = c then match x.fs.lookup fl with
    | some d => .ret d
    | none => .bad
    else .bad
  | _ => .bad
theorem zip_lookup {H0 : Hp} {fl : Str} {d : D} : ∀ {fs : List (Str × D)} {vs : List V}, HasL H0 vs (fs.map (·.2)) → fs.lookup fl = some d → ∃ v, ((fs.map (·.1)).zip vs).lookup fl = some v ∧ Has H0 v d
  | [], _, _, e => by cases e
  | (n, x) :: fs, vs, h, e => by
    cases h with
    | @cons v vs _ _ h1 h2 =>
      show ∃ w, List.lookup fl ((n, v) :: (fs.map (·.1)).zip vs) = some w ∧ Has H0 w d
      rw [List.lookup_cons] at e ⊢
      cases q : fl == n with
      | true =>
        rw [q] at e
        cases e
        exact ⟨v, rfl, h1⟩
      | false =>
        rw [q] at e
        exact zip_lookup h2 e
theorem r_fld {X : Cx} {g : Ct} {i : Nat} {a C : Addr} {oe : Obj} {cls : Value} {dx : Option Addr} {pn : List (Addr × Obj)} {x c fl : Str} {p pos : Pos} (T : XfC X.K C) (hno : PySem.W.findIn X.K (.ref C) fl = some none) (hcad : g.cad c = some C) (hxi : g.ξ = some (a, cls, dx))
    (hz : Zc cls dx oe) (hf : ∃ vs, oe.data = .fields vs) (hp : PE (X.suite a ((a, oe) :: pn)) (.Name x p) (tVar i)) (hb : attributeBase (.Name x p) fl X.env (eval (.Name x p) X.env) = eval (.Name x p) X.env := by rfl) :
    PE (X.suite a ((a, oe) :: pn)) (.Attribute (.Name x p) fl pos) (tE g (eFld i c fl)) := (pe_xf T hno hz hf hp hb).imp fun σ H Q ⟨β, H0, ρ, r, q⟩ => by
  unfold eFld at q
  split at q
  · next y hy =>
    split at q
    · next ec =>
      split at q
      · next d hd =>
        have hl : i < σ.length := by
          rw [← r.len]
          exact (List.getElem?_eq_some_iff.mp hy).1
        obtain ⟨a', c', dx', e1, e2, he⟩ := r.sl i _ _ hy (List.getElem?_eq_getElem hl)
        rw [hxi] at e1
        cases e1
        obtain ⟨⟨C', hC', ec'⟩, hdd⟩ := he
        rw [ec, hcad] at hC'
        cases hC'
        rcases hdd with ⟨hn, _⟩ | ⟨dd, vs, ed, hx, hv⟩
        · rw [hn] at hd
          cases hd
        · obtain ⟨v, lv, hv'⟩ := zip_lookup hv hd
          exact ⟨.ref a, by rw [List.getElem?_eq_getElem hl, e2], rfl, ec', dd, _, v, ed, r.ext _ _ hx, lv, q v H0 H r.refl hv'⟩
      · exact q.elim
    · exact q.elim
  · exact q.elim

/-! ### isinstance(x, T), T a built-in class -/
def oIsa (n : String) : List Ar → T D
  | [.d x] => .ret (.bool (isaD n x))
  | _ => .bad
/-- the class is a name of its own in the argument list -/
def aTy (fs : Env' → T (List Ar)) : Env' → T (List Ar) := fs
theorem r_isa {X : Cx} {g : Ct} {a c : Expr} {f : Env' → T D} {p pos : Pos} {n : String} (hg : Gl X "isinstance") (hm : X.mg "isinstance" = none) (hc : PE X c (tC (.ty n))) (ha : PE X a (tE g f)) (hk : ∀ m ∈ ["NoneType", "bool", "int", "str", "list", "tuple", "dict"], PySem.W.kitOne X.K (.type m) (.type n) = some (m == n || (n == "int" && m == "bool")))
    (hs : starEach [a, c] X.env = (false, eval a X.env) :: starEach [c] X.env := by rfl) (hs2 : starEach [c] X.env = (false, eval c X.env) :: starEach [] X.env := by rfl) (hpl : (backTo pos (starEach [c] X.env)).any (·.1) = false := by rfl) :
    PE X (.Call (.Name "isinstance" p) [a, c] [] pos) (tE g (eUn (fun d => .ret (.bool (isaD n d))) f)) :=
  (pe_callB call_isi hg hm (by decide +kernel) (pa_cons ha (pa_cons hc pa_nil hs2) hs) (by decide) (by decide) hs hpl).imp fun σ H Q ⟨β, H0, ρ, r, q⟩ => tE_then r q fun d v H1 H2 st hv q1 => by
    refine ⟨v, .ty n, .type (tyD d), .type n, _, rfl, .ty n, hv.ty st.ext, hk (tyD d) ?_, q1 _ H1 H2 st (.bl _)⟩
    cases d <;> simp [tyD]
end Wb

set_option Elab.async false
set_option linter.all false
set_option maxRecDepth 100000
set_option maxHeartbeats 4000000
/-! Wb, part 7: repr of data. -/
namespace Wb
open PySem PySem.Spec PyProof.Rows L2

/-- what a value reads as, and what its repr is, at a heap -/
structure Rep (prog : Program) (w : World) (h : Heap) (u : Value) (d : D) : Prop where
  rd : ∃ as, Reads h u d as
  kr : ∃ bs, ReadAtMost h d.depth bs ∧ ReprK prog w bs h d.depth u d.shown
structure RepAll (prog : Program) (w : World) (h : Heap) (us : List Value) (ds : List D) : Prop where
  rd : ∃ as, ReadsAll h us ds as
  kr : ∃ bs, ReadAtMost h (PyData.depthAll ds) bs ∧ ReprAllK prog w bs h (PyData.depthAll ds) us (PyData.shownAll ds)
section
variable {prog : Program} {w : World} {h : Heap}
theorem RepAll.nil : RepAll prog w h [] [] := ⟨⟨[], .nil⟩, [], (fun _ z => nomatch z), by simp only [PyData.shownAll]; exact .nil⟩
theorem RepAll.cons {u : Value} {us : List Value} {d : D} {ds : List D} (a : Rep prog w h u d) (b : RepAll prog w h us ds) : RepAll prog w h (u :: us) (d :: ds) := by
  obtain ⟨⟨as, r1⟩, bs1, n1, k1⟩ := a
  obtain ⟨⟨as', r2⟩, bs2, n2, k2⟩ := b
  refine ⟨⟨_, .cons r1 r2⟩, bs1 ++ bs2, ?_, ?_⟩
  · intro c hc
    simp only [PyData.depthAll]
    rcases List.mem_append.mp hc with z | z
    · obtain ⟨d', as'', r', hd'⟩ := n1 c z
      exact ⟨d', as'', r', by omega⟩
    · obtain ⟨d', as'', r', hd'⟩ := n2 c z
      exact ⟨d', as'', r', by omega⟩
  · simp only [PyData.depthAll, PyData.shownAll]
    refine .cons ((k1.more fun c hc => ?_).level_le ?_) (k2.more_le (fun c hc => ?_) ?_)
    · exact List.mem_append_left _ hc
    · omega
    · exact List.mem_append_right _ hc
    · omega
theorem Rep.list {a : Addr} {o : Obj} {vs : List Value} {n : Nat} {ds : List D} (h1 : h.get? a = some o) (h2 : o.cls = .type "list") (h3 : o.data = .seq vs.toArray n) (r : RepAll prog w h vs ds) : Rep prog w h (.ref a) (.list ds) := by
  obtain ⟨⟨as, rd⟩, bs, nb, kr⟩ := r
  have r0 : Reads h (.ref a) (.list ds) (a :: as) := .list h1 h2 h3 rd
  have hna : a ∉ bs := by
    apply not_mem_of_deeper r0 _ nb
    simp only [PyData.depth]
    omega
  refine ⟨⟨_, r0⟩, a :: bs, ?_, ?_⟩
  · apply ReadAtMost.cons r0 _ nb
    simp only [PyData.depth]
    omega
  · simp only [PyData.depth, PyData.shown]
    cases vs with
    | nil =>
      cases rd
      simp only [PyData.shownAll, listText_nil]
      exact ReprK.listEmpty h1 h2 h3
    | cons x l =>
      refine ReprK.list h1 h2 h3 hna ?_ (fun i y e => ?_)
      · have := kr.length_eq
        simpa using this
      · exact kr.item i y (by simpa using e)
theorem Rep.tuple {a : Addr} {o : Obj} {vs : List Value} {n : Nat} {ds : List D} (h1 : h.get? a = some o) (h2 : o.cls = .type "tuple") (h3 : o.data = .seq vs.toArray n) (r : RepAll prog w h vs ds) : Rep prog w h (.ref a) (.tuple ds) := by
  obtain ⟨⟨as, rd⟩, bs, nb, kr⟩ := r
  have r0 : Reads h (.ref a) (.tuple ds) as := .tuple h1 h2 h3 rd
  have hna : a ∉ bs := by
    apply not_mem_of_deeper r0 _ nb
    simp only [PyData.depth]
    omega
  refine ⟨⟨_, r0⟩, a :: bs, ?_, ?_⟩
  · apply ReadAtMost.cons r0 _ nb
    simp only [PyData.depth]
    omega
  · simp only [PyData.depth, PyData.shown]
    exact ReprK.tuple h1 h2 h3 hna kr
theorem Rep.dict {a : Addr} {o : Obj} {es : Array DictEntry} {n : Nat} {kvs : List (D × D)} (h1 : h.get? a = some o) (h2 : o.cls = .type "dict") (h3 : o.data = .dict es n) (hs : (a == sysModules) = false)
    (r1 : RepAll prog w h (es.toList.map (·.key)) (kvs.map (·.1))) (r2 : RepAll prog w h (es.toList.map (·.val)) (kvs.map (·.2))) : Rep prog w h (.ref a) (.dict kvs) := by
  obtain ⟨⟨as1, rd1⟩, bs1, nb1, kr1⟩ := r1
  obtain ⟨⟨as2, rd2⟩, bs2, nb2, kr2⟩ := r2
  have r0 : Reads h (.ref a) (.dict kvs) (a :: as1 ++ as2) := .dict h1 h2 h3 rd1 rd2
  have nb : ReadAtMost h (PyData.depthKv kvs) (bs1 ++ bs2) := (nb1.mono (PyData.depthAll_keys_le kvs)).append (nb2.mono (PyData.depthAll_vals_le kvs))
  have hna : a ∉ bs1 ++ bs2 := by
    apply not_mem_of_deeper r0 _ nb
    simp only [PyData.depth]
    omega
  refine ⟨⟨_, r0⟩, a :: (bs1 ++ bs2), ?_, ?_⟩
  · apply ReadAtMost.cons r0 _ nb
    simp only [PyData.depth]
    omega
  · simp only [PyData.depth, PyData.shown, PyData.shownKv_eq]
    have e1 := kr1.more_le (as' := bs1 ++ bs2) (fun c hc => List.mem_append_left _ hc) (PyData.depthAll_keys_le kvs)
    have e2 := kr2.more_le (as' := bs1 ++ bs2) (fun c hc => List.mem_append_right _ hc) (PyData.depthAll_vals_le kvs)
    exact ReprK.dict h1 h2 h3 hs hna (ReprEntriesK.of_two es.toList _ _ e1 e2)
theorem Rep.int {i : Int} {t : Tok} (hs : i.natAbs.log2 < 1920) : Rep prog w h (.int i t) (.int i) :=
  ⟨⟨[], .int i t⟩, [], (fun _ z => nomatch z), by simp only [PyData.shown]; exact .of_is (ReprIs.int t hs) _ _ _⟩
theorem Rep.str {x : Str} {t : Tok} (hz : (reprText x).length ≤ sizeLine) : Rep prog w h (.str x t) (.str x) :=
  ⟨⟨[], .str x t⟩, [], (fun _ z => nomatch z), by simp only [PyData.shown]; exact .of_is (ReprIs.str x t hz) _ _ _⟩
theorem Rep.key {K : Key} {u : Value} (hk : keyIs K u = true) (hs : (keyD K).showable = true) (hz : (keyD K).shown.length ≤ sizeLine) : Rep prog w h u (keyD K) := by
  rcases keyIs_shape hk with ⟨i, t, rfl, rfl⟩ | ⟨x, t, rfl, rfl⟩
  · exact Rep.int (by simpa [keyD, PyData.showable] using hs)
  · exact Rep.str (by simpa only [keyD, PyData.shown] using hz)
end
section
variable {X : Cx} {pins : List (Addr × Obj)} {σ : L2.St} {H : Hp} {s : Shared}
mutual
theorem Has.repr (I : Inv X pins σ H s) : ∀ {d : D} {v : V} {u : Value}, Has H v d → RelV v u → d.showable = true → d.shown.length ≤ sizeLine → Rep X.prog X.w s.heap u d
  | .none, _, _, .non, r, _, _ => by
    cases r
    exact ⟨⟨[], .none⟩, [], (fun _ z => nomatch z), by simp only [PyData.shown]; exact .of_is ReprIs.none _ _ _⟩
  | .bool b, _, _, .bl _, r, _, _ => by
    cases r
    exact ⟨⟨[], .bool b⟩, [], (fun _ z => nomatch z), by simp only [PyData.shown]; exact .of_is (ReprIs.bool b) _ _ _⟩
  | .int i, _, _, .int _, r, hs, _ => by
    obtain ⟨t, rfl⟩ := r
    exact Rep.int (by simpa [PyData.showable] using hs)
  | .str x, _, _, .str _, r, _, hz => by
    obtain ⟨t, rfl⟩ := r
    exact Rep.str (by simpa only [PyData.shown] using hz)
  | .list ds, _, _, .lst h1 h2, r, hs, hz => by
    cases r
    obtain ⟨its, n, rv, ho, _⟩ := I.lst h1
    have hz' : (listText (PyData.shownAll ds)).length ≤ sizeLine := by simpa only [PyData.shown] using hz
    exact Rep.list ho rfl rfl (HasL.repr I h2 rv (by simpa [PyData.showable] using hs) fun t ht => Nat.le_trans (listText_mem_le ht) hz')
  | .tuple ds, _, _, .tup h1 h2, r, hs, hz => by
    cases r
    obtain ⟨its, rv, ⟨o, ho, hc, n, hd⟩, _⟩ := I.tuple (SqT.of h1)
    have hz' : (tupleText (PyData.shownAll ds)).length ≤ sizeLine := by simpa only [PyData.shown] using hz
    exact Rep.tuple ho hc hd (HasL.repr I h2 rv (by simpa [PyData.showable] using hs) fun t ht => Nat.le_trans (tupleText_mem_le ht) hz')
  | .dict kvs, _, _, .dct h1 h2, r, hs, hz => by
    cases r
    obtain ⟨_, hsys, vs, kv, o, es, ep, ho, hx, hd, _, pr, _⟩ := I.hok _ _ h1
    have hz' : (dictText (PyData.shownKv kvs)).length ≤ sizeLine := by simpa only [PyData.shown] using hz
    obtain ⟨p1, p2⟩ := HasK.repr I h2 kv pr (by simpa [PyData.showable] using hs) fun t ht => Nat.le_trans (dictText_mem_le ht) hz'
    exact Rep.dict ho hx.1 hd hsys p1 p2
theorem HasL.repr (I : Inv X pins σ H s) : ∀ {ds : List D} {vs : List V} {us : List Value}, HasL H vs ds → Vals vs us → PyData.showableAll ds = true → (∀ t ∈ PyData.shownAll ds, t.length ≤ sizeLine) → RepAll X.prog X.w s.heap us ds
  | [], _, _, .nil, r, _, _ => by
    cases r
    exact RepAll.nil
  | d :: ds, _, _, .cons h1 h2, r, hs, hz => by
    cases r with
    | cons r1 r2 =>
      have hs' : d.showable = true ∧ PyData.showableAll ds = true := by simpa [PyData.showableAll] using hs
      refine RepAll.cons (Has.repr I h1 r1 hs'.1 (hz _ ?_)) (HasL.repr I h2 r2 hs'.2 fun t ht => hz t ?_)
      · simp only [PyData.shownAll]
        exact List.mem_cons_self ..
      · simp only [PyData.shownAll]
        exact List.mem_cons_of_mem _ ht
theorem HasK.repr (I : Inv X pins σ H s) : ∀ {ds : List (D × D)} {kvs : List (Key × V)} {vs : List (Key × Value)} {es : List DictEntry}, HasK H kvs ds → KV kvs vs → Pairs (mixKind X.prog X.w) es vs → PyData.showableKv ds = true →
    (∀ t ∈ PyData.shownKv ds, t.length ≤ sizeLine) → RepAll X.prog X.w s.heap (es.map (·.key)) (ds.map (·.1)) ∧ RepAll X.prog X.w s.heap (es.map (·.val)) (ds.map (·.2))
  | [], _, _, _, .nil, r, p, _, _ => by
    cases r
    cases p
    exact ⟨RepAll.nil, RepAll.nil⟩
  | _ :: ds, _, _, _, .cons (k := k) (d := d) h1 h2, r, p, hs, hz => by
    cases r with
    | @cons _ q _ _ r1 r2 =>
      obtain ⟨k', u⟩ := q
      obtain ⟨ek, rv⟩ := r1
      have ek' : k = k' := ek
      subst ek'
      cases p with
      | cons p1 p2 p3 =>
        have hs' : ((keyD k).showable = true ∧ d.showable = true) ∧ PyData.showableKv ds = true := by simpa [PyData.showableKv] using hs
        have hz0 : (keyD k).shown.length + 2 + d.shown.length ≤ sizeLine := by
          have := hz ((keyD k).shown ++ ": " ++ d.shown) (by simp only [PyData.shownKv]; exact List.mem_cons_self ..)
          have e2 : ((keyD k).shown ++ (": " : Str) ++ d.shown).length = (keyD k).shown.length + 2 + d.shown.length := by
            rw [Str.length_append, Str.length_append]
            rfl
          omega
        obtain ⟨a1, a2⟩ := HasK.repr I h2 r2 p3 hs'.2 fun t ht => hz t (by simp only [PyData.shownKv]; exact List.mem_cons_of_mem _ ht)
        have rv' : RelV _ u := rv
        have p2' : _ = u := p2
        refine ⟨RepAll.cons (Rep.key p1 hs'.1.1 (by omega)) a1, RepAll.cons ?_ a2⟩
        simp only [p2']
        exact Has.repr I h1 rv' hs'.1.2 (by omega)
end
end
/-! ### repr(x) -/
/-- small enough to be shown -/
def okRep (d : D) : Bool := d.showable && decide (d.shown.length ≤ 10000000) && decide (d.depth ≤ 100)
def oRepr : D → T D := fun d => if okRep d = true then .ret (.str d.shown) else .bad
theorem call_repr {X : Cx} (hg : X.A.guards = some []) (hu : X.A.units + 200 < cLine) : CallR X (.builtin "repr") (fun xs H Q => ∃ v d, xs = [v] ∧ Has H v d ∧ okRep d = true ∧ Q (.str d.shown) H) := by
  intro pins s σ H xs us Q I r hh
  obtain ⟨v, d, rfl, hv, ok, q⟩ := hh
  obtain ⟨u, rfl, ru⟩ := vals1 r
  unfold okRep at ok
  simp only [Bool.and_eq_true, decide_eq_true_eq] at ok
  obtain ⟨⟨o1, o2⟩, o3⟩ := ok
  have hz : d.shown.length ≤ sizeLine := by
    rw [sizeLine_eq]
    omega
  have fin : ∀ (h' : Heap) (t : Tok) (tk : Nat), (∀ b o, s.heap.get? b = some o → h'.get? b = some o) → EP X pins σ Q (.str d.shown t) { s with heap := h', toks := tk } := fun h' t tk k =>
    ⟨.str d.shown, H, I.kept k, ⟨t, rfl⟩, q⟩
  have noC : ∀ (bs : List Addr), ∀ b ∈ bs, Clear [] b := fun _ b _ => Clear.nil b
  cases hv with
  | non =>
    cases ru
    simp only [PyData.shown] at fin
    exact PySem.P.repr_of_none (fin s.heap _ _ fun _ _ e => e)
  | bl b =>
    cases ru
    simp only [PyData.shown] at fin
    exact PySem.P.repr_of_bool (fin s.heap _ _ fun _ _ e => e)
  | int i =>
    obtain ⟨t, rfl⟩ := ru
    simp only [PyData.shown] at fin
    exact PySem.P.repr_of_int (by simpa [PyData.showable] using o1) (fin s.heap _ _ fun _ _ e => e)
  | str x =>
    obtain ⟨t, rfl⟩ := ru
    simp only [PyData.shown] at fin hz
    exact PySem.P.repr_of_str (fin s.heap _ _ fun _ _ e => e) hz
  | @lst a xs ds h1 h2 =>
    cases ru
    obtain ⟨its, n, rv, ho, _⟩ := I.lst h1
    simp only [PyData.shown] at fin hz
    have R := HasL.repr I h2 rv (by simpa [PyData.showable] using o1) fun t ht => Nat.le_trans (listText_mem_le ht) hz
    obtain ⟨⟨as, rd⟩, bs, nb, kr⟩ := R
    simp only [PyData.depth] at o3
    have r0 : Reads s.heap (.ref a) (.list ds) (a :: as) := .list ho rfl rfl rd
    have hna : a ∉ bs := by
      apply not_mem_of_deeper r0 _ nb
      simp only [PyData.depth]
      omega
    refine call_repr_slot (T := "list") (by omega) ⟨_, ho, rfl⟩ F.slot_list_repr.toG ?_
    cases its with
    | nil =>
      cases rd
      simp only [PyData.shownAll, listText_nil] at fin
      exact call_list_repr_empty ⟨_, ho, rfl⟩ ho rfl ⟨_, _, rfl, fin s.heap _ _ fun _ _ e => e⟩
    | cons y l =>
      refine call_list_reprK ho rfl rfl hna (by have := kr.length_eq; simpa using this) (fun i y e => kr.item i y (by simpa using e)) hg (noC _) (by show X.A.units + 1 + _ < cLine; omega) (fun _ _ e => e)
        (fun h' t tk k => ⟨_, _, rfl, fin h' t tk k⟩) hz
  | @tup a xs ds h1 h2 =>
    cases ru
    obtain ⟨its, rv, ⟨o, ho, hc, n, hd⟩, _⟩ := I.tuple (SqT.of h1)
    simp only [PyData.shown] at fin hz
    have R := HasL.repr I h2 rv (by simpa [PyData.showable] using o1) fun t ht => Nat.le_trans (tupleText_mem_le ht) hz
    obtain ⟨⟨as, rd⟩, bs, nb, kr⟩ := R
    simp only [PyData.depth] at o3
    have r0 : Reads s.heap (.ref a) (.tuple ds) as := .tuple ho hc hd rd
    have hna : a ∉ bs := by
      apply not_mem_of_deeper r0 _ nb
      simp only [PyData.depth]
      omega
    refine call_repr_slot (T := "tuple") (by omega) ⟨_, ho, hc⟩ F.slot_tuple_repr ?_
    exact call_tuple_reprK ho hc hd hna kr hg (noC _) (by show X.A.units + 1 + _ < cLine; omega) (fun _ _ e => e) (fun h' t tk k => ⟨_, _, rfl, fin h' t tk k⟩) hz
  | @dct a kvs ds h1 h2 =>
    cases ru
    obtain ⟨_, hsys, vs, kv, o, es, ep, ho, hx, hd, _, pr, _⟩ := I.hok _ _ h1
    simp only [PyData.shown, PyData.shownKv_eq] at fin hz
    obtain ⟨p1, p2⟩ := HasK.repr I h2 kv pr (by simpa [PyData.showable] using o1) fun t ht => Nat.le_trans (dictText_mem_le ht) (by rw [PyData.shownKv_eq]; exact hz)
    obtain ⟨⟨as1, rd1⟩, bs1, nb1, kr1⟩ := p1
    obtain ⟨⟨as2, rd2⟩, bs2, nb2, kr2⟩ := p2
    simp only [PyData.depth] at o3
    have r0 : Reads s.heap (.ref a) (.dict ds) (a :: as1 ++ as2) := .dict ho hx.1 hd rd1 rd2
    have nb : ReadAtMost s.heap (PyData.depthKv ds) (bs1 ++ bs2) := (nb1.mono (PyData.depthAll_keys_le ds)).append (nb2.mono (PyData.depthAll_vals_le ds))
    have hna : a ∉ bs1 ++ bs2 := by
      apply not_mem_of_deeper r0 _ nb
      simp only [PyData.depth]
      omega
    have e1 := kr1.more_le (as' := bs1 ++ bs2) (fun c hc => List.mem_append_left _ hc) (PyData.depthAll_keys_le ds)
    have e2 := kr2.more_le (as' := bs1 ++ bs2) (fun c hc => List.mem_append_right _ hc) (PyData.depthAll_vals_le ds)
    refine call_repr_slot (T := "dict") (by omega) ⟨_, ho, hx.1⟩ F.slot_dict_repr ?_
    exact call_dict_reprK ho hx.1 hd hsys hna (ReprEntriesK.of_two es.toList _ _ e1 e2) hg (noC _) (by show X.A.units + 1 + _ < cLine; omega) (fun _ _ e => e) (fun h' t tk k => ⟨_, _, rfl, fin h' t tk k⟩) hz
theorem d_repr : CaD (fun xs H Q => ∃ v d, xs = [v] ∧ Has H v d ∧ okRep d = true ∧ Q (.str d.shown) H) (o1 oRepr) := by
  apply d_1
  intro β H0 H v x Q E e ok bf hv q
  unfold oRepr at q
  split at q
  · next c => exact ⟨v, x, rfl, hv.mono e, c, out_ret e ok bf (.str _) q⟩
  · exact q.elim
end Wb

set_option Elab.async false
set_option linter.all false
set_option maxRecDepth 100000
set_option maxHeartbeats 4000000
/-! Wb, part 8: lists of one's own, defs that are called, the source of draws. -/
namespace Wb
open PySem PySem.Spec PyProof.Rows L2

/-! ### a list that only this def holds -/
def sOwn (i : Nat) (fs : Env' → T (List D)) : Env' → T Fl := fun ρ => (fs ρ).lift ρ fun ds => .ret (.nx (ρ.set i (.own ds)))
def lLst (fs : Env' → T (List Ar)) : Env' → T (List D) := fun ρ => (fs ρ).bind fun as => match dsOf as with
  | some ds => if ds.length ≤ 1000000 then .ret ds else .bad
  | none => .bad
section
variable {X : Cx} {g : Ct} {a b c : Expr} {f h : Env' → T D} {pos : Pos} {st : Stmt} {sts : List Stmt} {F : Env' → T Fl} {fs : Env' → T (List Ar)}
theorem SR.setOwn {β : Box} {A B C H0 H : Hp} {ρ : Env'} {σ : L2.St} (r : SR g β A B C H0 ρ σ H) {i : Nat} {p : Addr} {vs : List V} {xs : List D} (hB : B p = none) (h : H p = some (.lst vs)) (hl : HasL H0 vs xs) (n : H0 p = none) (ns : ¬ β.S p)
    (fr : ∀ (j : Nat) (ys : List D) (q : Addr), j ≠ i → ρ[j]? = some (.own ys) → σ[j]? = some (some (.ref q)) → q ≠ p) : SR g β A B C H0 (ρ.set i (.own xs)) (σ.set i (some (.ref p))) H := by
  refine ⟨r.rel.setOwn h hl n ns fr, r.st, r.base, r.lk, fun j ys q a b => ?_⟩
  by_cases hj : j = i
  · subst hj
    by_cases hl' : j < ρ.length
    · rw [List.getElem?_set_self (r.rel.len ▸ hl')] at b
      cases b
      exact hB
    · rw [List.getElem?_eq_none (by simpa using hl')] at a
      cases a
  · rw [List.getElem?_set_ne (Ne.symm hj)] at a b
    exact r.own j ys q a b
/-- an address that nobody holds yet -/
theorem SR.fresh {β : Box} {A B C H0 H : Hp} {ρ : Env'} {σ : L2.St} (r : SR g β A B C H0 ρ σ H) {p : Addr} (hp : H p = none) : B p = none ∧ H0 p = none ∧ ¬ β.S p ∧
    ∀ (j : Nat) (ys : List D) (q : Addr), ρ[j]? = some (.own ys) → σ[j]? = some (some (.ref q)) → q ≠ p := by
  have h0 : H0 p = none := r.rel.ext.free hp
  have nS : ¬ β.S p := fun z => by
    obtain ⟨u, w⟩ := β.here H p r.rel.ok z
    rw [hp] at w
    cases w
  refine ⟨?_, h0, nS, fun j ys q a b e => ?_⟩
  · cases q : B p with
    | none => rfl
    | some o =>
      exfalso
      cases qa : A p with
      | none =>
        have := (r.st.priv p o q qa).2 nS
        rw [hp] at this
        cases this
      | some u =>
        have := r.st.grow p u qa
        rw [h0] at this
        cases this
  · subst e
    obtain ⟨p', vs, e1, e2, _⟩ := r.rel.sl j _ _ a b
    cases e1
    rw [hp] at e2
    cases e2
theorem s_own {i : Nat} (hs : PS X st (tAsg (tLst (tA g fs)) (gName i))) : PS X st (tS g (sOwn i (lLst fs))) := hs.imp fun E σ H ⟨β, A, B, C, H0, ρ, r, q⟩ => by
  unfold sOwn lLst at q
  rw [T.lift_bind] at q
  refine tA_lift r q fun as vs H1 H2 s hv q1 => ?_
  split at q1
  · next ds e =>
    split at q1
    · next hz =>
      have hl := hv.ds (dsOf_some e)
      have r1 := r.step s
      refine ⟨lim_line (by rw [hl.length]; exact hz), fun p hp => ?_⟩
      obtain ⟨f1, f2, f3, f4⟩ := r1.fresh hp
      have r2 := r1.step (r1.rel.junk (o := .lst vs) hp)
      exact q1 _ H1 _ (r2.setOwn f1 upd_same hl f2 f3 fun j ys q _ a b => f4 j ys q a b)
    · exact q1.elim
  · exact q1.elim
theorem s_ownLc {i : Nat} {vs js : List Nat} {it : Env' → T (List D)} {bd : D → Env' → Option Env'} {t e : Env' → T D} (hs : PS X st (tAsg (tLc (tI g it) (tG g.q js bd) (tT g.q t) (tE g.q e) vs) (gName i))) (hj : ∀ j ∈ js, j ∈ vs) : PS X st (tS g (sOwn i (lLc vs it bd t e))) :=
  hs.imp fun E σ H ⟨β, A, B, C, H0, ρ, r, q⟩ => by
    refine tLc_core hj (Q := fun x H1 => gName i x σ H1 E.nx) ⟨β, H0, ρ, r.rel, T.wp_mono (fun out z p H1 H2 vs st hn h1 h2 h3 h4 => ?_) (fun _ z => excX r z) _ ((T.wp_lift _).mp q)⟩
    obtain ⟨f1, f2, f3, f4⟩ := r.fresh hn
    exact z _ H1 H2 ((r.step st).setOwn f1 h1 h4 h2 h3 fun j ys q _ a b => f4 j ys q a b)
/-- what a list of one's own holds is changed -/
theorem SR.chg {β : Box} {A B C H0 H : Hp} {ρ : Env'} {σ : L2.St} (r : SR g β A B C H0 ρ σ H) {i : Nat} {xs ys : List D} {p : Addr} {vs : List V} (hi : ρ[i]? = some (.own xs)) (hp : σ[i]? = some (some (.ref p))) (hv : HasL H0 vs ys) :
    SR g β A B C H0 (ρ.set i (.own ys)) σ (upd H p (.lst vs)) := by
  obtain ⟨p', ws, e1, e2, e3, e4, e5⟩ := r.rel.sl i _ _ hi hp
  cases e1
  have hB := r.own i xs p hi hp
  have st : Stp β H0 H H0 (upd H p (.lst vs)) → True := fun _ => trivial
  have same : Same H0 (upd H p (.lst vs)) := fun b u z => by
    rw [upd_ne (ne_of_none z e4)]
    exact r.rel.ext b u z
  have ok : β.ok (upd H p (.lst vs)) := β.stay H _ r.rel.ok fun a u hs z => by
    have na : a ≠ p := by
      intro w
      subst w
      rcases hs with hs | ⟨φ, rfl⟩
      · exact e5 hs
      · rw [e2] at z
        cases z
    rw [upd_ne na]
    exact z
  refine ⟨⟨same, by simp [r.rel.len], fun j s o a b => ?_, fun j l xs' ys' q q' a b c e ne => ?_, ok, r.rel.boxf, r.rel.tabs⟩, r.st.mine hB e4 e5 (fun φ z => by rw [e2] at z; cases z), r.base, r.lk, fun j xs' q a b => ?_⟩
  · by_cases hj : j = i
    · subst hj
      have hl : j < ρ.length := (List.getElem?_eq_some_iff.mp hi).1
      rw [List.getElem?_set_self hl] at a
      cases a
      rw [hp] at b
      cases b
      exact ⟨p, vs, rfl, upd_same, hv, e4, e5⟩
    · rw [List.getElem?_set_ne (Ne.symm hj)] at a
      have z := r.rel.sl j s o a b
      cases s with
      | own zs =>
        obtain ⟨q, us, f1, f2, f3⟩ := z
        subst f1
        refine ⟨q, us, rfl, ?_, f3⟩
        rw [upd_ne (r.rel.apart j i zs xs q p a hi b hp hj)]
        exact f2
      | _ => exact z
  · by_cases hj : j = i
    · subst hj
      rw [List.getElem?_set_ne ne] at b
      exact r.rel.apart j l xs ys' q q' hi b c e ne
    · rw [List.getElem?_set_ne (Ne.symm hj)] at a
      by_cases hl : l = i
      · subst hl
        exact r.rel.apart j l xs' xs q q' a hi c e ne
      · rw [List.getElem?_set_ne (Ne.symm hl)] at b
        exact r.rel.apart j l xs' ys' q q' a b c e ne
  · by_cases hj : j = i
    · subst hj
      rw [hp] at b
      cases b
      exact hB
    · rw [List.getElem?_set_ne (Ne.symm hj)] at a
      exact r.own j xs' q a b
/-- n.append(e), n.extend(e) -/
def sApp (i : Nat) (f : Env' → T D) : Env' → T Fl := fun ρ => match ρ[i]? with
  | some (.own xs) => (f ρ).lift ρ fun d => if xs.length < 1000000 then .ret (.nx (ρ.set i (.own (xs ++ [d])))) else .bad
  | _ => .bad
def sExt (i : Nat) (f : Env' → T D) : Env' → T Fl := fun ρ => match ρ[i]? with
  | some (.own xs) => (f ρ).lift ρ fun d => match d with
    | .list ys => if xs.length + ys.length ≤ 1000000 then .ret (.nx (ρ.set i (.own (xs ++ ys)))) else .bad
    | _ => .bad
  | _ => .bad
theorem own_at {β : Box} {A B C H0 H : Hp} {ρ : Env'} {σ : L2.St} (r : SR g β A B C H0 ρ σ H) {i : Nat} {xs : List D} (hi : ρ[i]? = some (.own xs)) :
    ∃ p vs, σ[i]? = some (some (.ref p)) ∧ H p = some (.lst vs) ∧ HasL H0 vs xs := by
  have hl : i < σ.length := by
    rw [← r.rel.len]
    exact (List.getElem?_eq_some_iff.mp hi).1
  obtain ⟨p, vs, e1, e2, e3, _⟩ := r.rel.sl i _ _ hi (List.getElem?_eq_getElem hl)
  exact ⟨p, vs, by rw [List.getElem?_eq_getElem hl, e1], e2, e3⟩
theorem s_app {i : Nat} (hs : PS X st (tDrop (tBM X.K "list" rAppend (tVar i) (tCons (tE g f) tNil)))) : PS X st (tS g (sApp i f)) := hs.imp fun E σ H ⟨β, A, B, C, H0, ρ, r, q⟩ => by
  unfold sApp at q
  split at q
  · next xs hx =>
    obtain ⟨p, vs, e1, e2, e3⟩ := own_at r hx
    refine ⟨.ref p, e1, .inl ⟨rfl, vs, SqL.of e2⟩, tE_lift r q fun d v H1 H2 s hv q1 => ?_⟩
    split at q1
    · next hz =>
      have r1 := r.step s
      obtain ⟨p', vs', e1', e2', e3'⟩ := own_at r1 hx
      rw [e1] at e1'
      cases e1'
      have hlen := e3'.length
      refine ⟨p, vs', v, rfl, rfl, e2', ?_, q1 _ H1 _ (r1.chg hx e1 (e3'.append (.cons hv .nil)))⟩
      rw [sizeLine_eq]
      omega
    · exact q1.elim
  · exact q.elim
theorem s_ext {i : Nat} (hs : PS X st (tDrop (tBM X.K "list" rExtend (tVar i) (tCons (tE g f) tNil)))) : PS X st (tS g (sExt i f)) := hs.imp fun E σ H ⟨β, A, B, C, H0, ρ, r, q⟩ => by
  unfold sExt at q
  split at q
  · next xs hx =>
    obtain ⟨p, vs, e1, e2, e3⟩ := own_at r hx
    refine ⟨.ref p, e1, .inl ⟨rfl, vs, SqL.of e2⟩, tE_lift r q fun d v H1 H2 s hv q1 => ?_⟩
    cases hv with
    | @lst b ws ys h1 h2 =>
      have q1 : (if xs.length + ys.length ≤ 1000000 then T.ret (Fl.nx (ρ.set i (.own (xs ++ ys)))) else .bad).wp (FlOut g β A B C E) noE := q1
      split at q1
      · next hz =>
        have r1 := r.step s
        obtain ⟨p', vs', e1', e2', e3'⟩ := own_at r1 hx
        rw [e1] at e1'
        cases e1'
        have l1 := e3'.length
        have l2 := h2.length
        exact ⟨p, b, vs', ws, rfl, rfl, e2', s.ext _ _ h1, lim_line (by omega), q1 _ H1 _ (r1.chg hx e1 (e3'.append h2))⟩
      · exact q1.elim
    | _ => exact q1.elim
  · exact q.elim
/-- from here on the list is data like other data -/
def sFrz (i : Nat) (F : Env' → T Fl) : Env' → T Fl := fun ρ => match ρ[i]? with
  | some (.own xs) => F (ρ.set i (.d (.list xs)))
  | _ => F ρ
theorem ss_frz {i : Nat} (hs : PSs X sts (tS g F)) : PSs X sts (tS g (sFrz i F)) := hs.imp fun E σ H ⟨β, A, B, C, H0, ρ, r, q⟩ => by
  unfold sFrz at q
  split at q
  · next xs hx =>
    have hl : i < σ.length := by
      rw [← r.rel.len]
      exact (List.getElem?_eq_some_iff.mp hx).1
    obtain ⟨p, vs, e1, e2, e3, e4, e5⟩ := r.rel.sl i _ _ hx (List.getElem?_eq_getElem hl)
    have es : σ[i]? = some (some (.ref p)) := by rw [List.getElem?_eq_getElem hl, e1]
    have hB := r.own i xs p hx es
    have stp := r.st.known hB e4 e5 e2
    have grow : Same H0 (upd H0 p (.lst vs)) := fun b u z => by
      rw [upd_ne (ne_of_none z e4)]
      exact z
    refine ⟨β, A, B, C, upd H0 p (.lst vs), _, ⟨⟨stp.ext, by simp [r.rel.len], fun j s o a b => ?_, fun j l xs' ys' q q' a b c e ne => ?_, r.rel.ok, stp.boxf, r.rel.tabs⟩, stp, r.base.trans grow, r.lk, fun j xs' q a b => ?_⟩, q⟩
    · by_cases hj : j = i
      · subst hj
        rw [List.getElem?_set_self (by rw [r.rel.len]; exact hl)] at a
        cases a
        rw [es] at b
        cases b
        exact ⟨.ref p, rfl, .lst upd_same (upd_has e4 e3)⟩
      · rw [List.getElem?_set_ne (Ne.symm hj)] at a
        have z := r.rel.sl j s o a b
        cases s with
        | no => trivial
        | fn => exact z
        | d x =>
          obtain ⟨v, f1, f2⟩ := z
          exact ⟨v, f1, f2.mono grow⟩
        | own zs =>
          obtain ⟨q, us, f1, f2, f3, f4, f5⟩ := z
          subst f1
          have nq := r.rel.apart j i zs xs q p a hx b es hj
          refine ⟨q, us, rfl, f2, f3.mono grow, ?_, f5⟩
          rw [upd_ne nq]
          exact f4
        | box k => exact z
        | ex x =>
          obtain ⟨a', c', dx, f1, f2, f3⟩ := z
          exact ⟨a', c', dx, f1, f2, f3.mono grow⟩
    · have nj : j ≠ i := fun z => by
        subst z
        rw [List.getElem?_set_self (by rw [r.rel.len]; exact hl)] at a
        cases a
      have nl : l ≠ i := fun z => by
        subst z
        rw [List.getElem?_set_self (by rw [r.rel.len]; exact hl)] at b
        cases b
      rw [List.getElem?_set_ne (Ne.symm nj)] at a
      rw [List.getElem?_set_ne (Ne.symm nl)] at b
      exact r.rel.apart j l xs' ys' q q' a b c e ne
    · have nj : j ≠ i := fun z => by
        subst z
        rw [List.getElem?_set_self (by rw [r.rel.len]; exact hl)] at a
        cases a
      rw [List.getElem?_set_ne (Ne.symm nj)] at a
      exact r.own j xs' q a b
  · exact ⟨β, A, B, C, H0, ρ, r, q⟩
end

/-! ### a def that is called -/
structure Cal (P : Program) (w : World) (K : PySem.W.Frag) (mg : Str → Option Value) (base : Heap) (cad : Cad) (x : Str) (k n : Nat) (m : List Ar → T D) : Prop where
  ex : ∃ (fa : Addr) (fd : FuncData) (ps : List Str), FnG P w K mg base k fa fd ps (spD cad n m) ∧ mg x = some (.ref fa) ∧ PySem.W.keepIn K (.ref fa) = true ∧ Binds K fd ps []
theorem r_cal {X : Cx} {g : Ct} {a : Expr} {es : List Expr} {fs : Env' → T (List Ar)} {x : Str} {p pos : Pos} {j k n : Nat} {m : List Ar → T D} (C : Cal X.prog X.w X.K X.mg X.base g.cad x j n m) (hr : Room k X.A) (hjk : j ≤ k) (hgu : X.A.guards = some []) (hg : Gl X x) (tk : Takes X g.W) (ha : PA X (a :: es) (tA g fs))
    (hdb : (x == ("__debug__" : Str)) = false := by decide) (he : starEach (a :: es) X.env = (false, eval a X.env) :: starEach es X.env := by rfl) (hpl : (backTo pos (starEach es X.env)).any (·.1) = false := by rfl) :
    PE X (.Call (.Name x p) (a :: es) [] pos) (tE g (eCall n m fs)) := by
  obtain ⟨fa, fd, ps, F, h1, h2, h3⟩ := C.ex
  exact r_call F (hr.mono hjk) hgu hg h1 h2 h3 tk ha hdb he hpl
/-- a class of errors with one field, that is raised -/
structure Err1 (P : Program) (w : World) (K : PySem.W.Frag) (mg : Str → Option Value) (base : Heap) (cad : Cad) (x fl : Str) : Prop where
  ex : ∃ (C fI : Addr) (fd : FuncData) (ps : List Str), ErrC K mg x C fI ∧ cad x = some C ∧ FnOk P w K mg base CX0 1 fI fd ps (spI1 C fl) ∧ Binds K fd ps [] ∧ PySem.W.findIn K (.ref C) fl = some none
theorem s_raiseE {X : Cx} {g : Ct} {a : Expr} {f : Env' → T D} {x fl : Str} {p pos pos2 : Pos} {k : Nat} (Er : Err1 X.prog X.w X.K X.mg X.base g.cad x fl) (hc : X.calm = true) (tk : Takes X g.W) (hr : Room k X.A) (hk : 2 ≤ k) (hg : Gl X x) (ha : PE X a (tE g f))
    (hdb : (x == ("__debug__" : Str)) = false := by decide) (hs : starEach [a] X.env = (false, eval a X.env) :: starEach [] X.env := by rfl) (hpl : (backTo pos (starEach [] X.env)).any (·.1) = false := by rfl) :
    PS X (.Raise (some (.Call (.Name x p) [a] [] pos)) none pos2) (tS g (sRaise1 x fl f)) := by
  obtain ⟨C, fI, fd, ps, T, hcad, F, hb, _⟩ := Er.ex
  exact s_raise1 hc tk T hcad F (hr.mono hk) hb hg ha hdb hs hpl
end Wb

set_option Elab.async false
set_option linter.all false
set_option maxRecDepth 100000
set_option maxHeartbeats 4000000
/-! Wb, part 9: comprehensions of two clauses, tuples in order. -/
namespace Wb
open PySem PySem.Spec PyProof.Rows L2

def lc2Go (bd : D → Env' → Option Env') (t : Env' → T D) (it1 : Env' → T (List D)) (bd1 : D → Env' → Option Env') (t1 : Env' → T D) (e : Env' → T D) (vs1 : List Nat) (ρ : Env') : Nat → List D → T (List D)
  | _, [] => .ret []
  | n, d :: r => match bd d ρ with
    | none => .bad
    | some ρ1 => (t ρ1).quiet.bind fun b => match b with
      | .bool true => (it1 ρ1).quiet.bind fun ds1 => if n + ds1.length ≤ 1000000 then
          (lcGo bd1 t1 e (wipeE ρ1 vs1) ds1).bind fun o1 => (lc2Go bd t it1 bd1 t1 e vs1 ρ (n + ds1.length) r).bind fun o2 => .ret (o1 ++ o2) else .bad
      | .bool false => lc2Go bd t it1 bd1 t1 e vs1 ρ n r
      | _ => .bad
def lLc2 (vs vs1 : List Nat) (it : Env' → T (List D)) (bd : D → Env' → Option Env') (t : Env' → T D) (it1 : Env' → T (List D)) (bd1 : D → Env' → Option Env') (t1 : Env' → T D) (e : Env' → T D) : Env' → T (List D) := fun ρ =>
  (it ρ).bind fun ds => lc2Go bd t it1 bd1 t1 e vs1 (wipeE ρ vs) 0 ds
def eLc2 (vs vs1 : List Nat) (it : Env' → T (List D)) (bd : D → Env' → Option Env') (t : Env' → T D) (it1 : Env' → T (List D)) (bd1 : D → Env' → Option Env') (t1 : Env' → T D) (e : Env' → T D) : Env' → T D := fun ρ =>
  (lLc2 vs vs1 it bd t it1 bd1 t1 e ρ).bind fun out => .ret (.list out)
/-- a step of an iterator, seen from what is known -/
theorem gives_step {β : Box} {H1 : Hp} {ds : List D} {Y : Nat → Hp → V → Hp → Prop} {Dl : Addr} {acc : List V} {outs : List D} {i : Nat} {Hc H2 H0' : Hp} {x : V}
    (hY : ∀ (i : Nat) (H1' : Hp) (x : V) (H2 : Hp) (d : D) (H0' : Hp), ds[i]? = some d → Same H1 H0' → Same H0' H1' → Y i H1' x H2 → (H2 = H1' ∧ Has H0' x d) ∨ ∃ tp vs es, x = .ref tp ∧ H1' tp = none ∧ H2 = upd H1' tp (.tup vs) ∧ d = .tuple es ∧ HasL H0' vs es)
    {A B : Hp} (s : Stp β A B H0' Hc) (base : Same H1 H0') (hc : Hc Dl = some (.lst acc)) (hn : H0' Dl = none) (hl : HasL H0' acc outs) {d : D} (hd : ds[i]? = some d) (hy : Y i Hc x H2) :
    ∃ H0n, Stp β H0' Hc H0n H2 ∧ H2 Dl = some (.lst acc) ∧ H0n Dl = none ∧ HasL H0n acc outs ∧ Has H0n x d := by
  rcases hY i Hc x H2 d H0' hd base s.ext hy with ⟨e2, hx⟩ | ⟨tp, us, es, e1, hn2, e2, e3, hu⟩
  · subst e2
    exact ⟨H0', Stp.refl s.ext s.ok s.boxf, hc, hn, hl, hx⟩
  · subst e1
    subst e2
    have nD : Dl ≠ tp := ne_of_none hc hn2
    have htp : H0' tp = none := s.ext.free hn2
    refine ⟨upd H0' tp (.tup us), Stp.new s.ext s.ok s.boxf hn2, ?_, ?_, upd_has htp hl, ?_⟩
    · rw [upd_ne nD]
      exact hc
    · rw [upd_ne nD]
      exact hn
    · rw [e3]
      exact .tup upd_same (upd_has htp hu)
section
variable {g : Ct} {vs js vs1 js1 : List Nat} {it it1 : Env' → T (List D)} {bd bd1 : D → Env' → Option Env'} {t e t1 : Env' → T D}
theorem tLc2_core (hj : ∀ j ∈ js, j ∈ vs) (hj1 : ∀ j ∈ js1, j ∈ vs1) {σ : L2.St} {H : Hp} {Q : VK} (h : tEL g (lLc2 vs vs1 it bd t it1 bd1 t1 e) σ H Q) :
    tLc2 (tI g it) (tG g.q js bd) (tT g.q t) (tI g.q it1) (tG g.q js1 bd1) (tT g.q t1) (tE g.q e) vs vs1 σ H Q := by
  obtain ⟨β, H0, ρ, rr, q⟩ := h
  refine ⟨β, H0, ρ, rr, T.wp_mono (fun ds q1 J H1 Hb st gv Dl hD => ?_) (fun _ z => z) _ ((T.wp_bind _ _).mp q)⟩
  have rr1 := rr.step st
  have nS : ¬ β.S Dl := fun z => by
    obtain ⟨u, w⟩ := β.here Hb Dl st.ok z
    rw [hD] at w
    cases w
  have hD1 : H1 Dl = none := st.ext.free hD
  obtain ⟨G, Y, walk, hG, hY⟩ := gv
  -- the state between two turns
  let Sm := fun (Hc : Hp) (outs : List D) (H0' : Hp) (acc : List V) => Stp β H1 Hb H0' Hc ∧ Hc Dl = some (.lst acc) ∧ H0' Dl = none ∧ HasL H0' acc outs
  have step : ∀ {Hc H' H0' H0'' : Hp} {outs : List D} {acc : List V}, Sm Hc outs H0' acc → Stp β H0' Hc H0'' H' → Sm H' outs H0'' acc := fun ⟨a1, a2, a3, a4⟩ st => by
    obtain ⟨n, k⟩ := st.priv Dl _ a2 a3
    exact ⟨a1.trans st, k nS, n, a4.mono st.grow⟩
  have item : ∀ {Hc H0' : Hp} {outs : List D} {acc : List V} {v : V} {d : D}, Sm Hc outs H0' acc → Has H0' v d → Sm (upd Hc Dl (.lst (acc ++ [v]))) (outs ++ [d]) H0' (acc ++ [v]) := fun ⟨a1, a2, a3, a4⟩ hv =>
    ⟨a1.mine hD a3 nS (fun φ z => by rw [a2] at z; cases z), upd_same, a3, a4.append (.cons hv .nil)⟩
  -- slots, from what is known
  have rel : ∀ {Hc H0' H2 H0n : Hp} {ρ1 : Env'} {σ2 : L2.St} {outs outs' : List D} {acc acc' : List V}, Sm H2 outs H0n acc → Rel g.cad β g.ξ H0n ρ1 σ2 H2 → OwnSub (wipeE ρ vs) (wipe σ vs) ρ1 σ2 → Sm Hc outs' H0' acc' → Same H0n H0' → Rel g.cad β g.ξ H0' ρ1 σ2 Hc := by
    intro Hc H0' H2 H0n ρ1 σ2 outs outs' acc acc' s2 r2 o2 sc gr
    refine ⟨sc.1.ext, r2.len, fun i s o a b => ?_, r2.apart, sc.1.ok, sc.1.boxf, r2.tabs⟩
    have z := r2.sl i s o a b
    cases s with
    | no => trivial
    | fn => exact z
    | d x =>
      obtain ⟨v, f1, f2⟩ := z
      exact ⟨v, f1, f2.mono gr⟩
    | own xs =>
      obtain ⟨p, us, f1, f2, f3, f4, f5⟩ := z
      subst f1
      obtain ⟨g1, g2⟩ := o2 i xs p a b
      obtain ⟨p', ws, h1, h2, h3, h4, h5⟩ := (rr1.wipe vs).sl i _ _ g1 g2
      cases h1
      have k1 := (s2.1.priv p _ h2 h4).2 h5
      have k2 := (sc.1.priv p _ h2 h4)
      rw [f2] at k1
      cases k1
      exact ⟨p, us, rfl, k2.2 h5, f3.mono gr, k2.1, h5⟩
    | box k => exact z
    | ex x =>
      obtain ⟨a', c', dx, f1, f2, f3⟩ := z
      exact ⟨a', c', dx, f1, f2, f3.mono gr⟩
  refine ⟨fun i m Hc => m = ds.length - i ∧ i ≤ ds.length ∧ ∃ outs n H0' acc, Sm Hc outs H0' acc ∧ outs.length ≤ n ∧
    (lc2Go bd t it1 bd1 t1 e vs1 (wipeE ρ vs) n (ds.drop i)).wp (fun rest => OutL β H1 Hb Q (outs ++ rest)) (g.X β H1 Hb σ), ⟨ds.length, rfl, Nat.zero_le _, [], 0, H1, [], ⟨Stp.junk rr1.ext rr1.ok rr1.boxf hD, upd_same, hD1, .nil⟩, Nat.le_refl _, ?_⟩, ?_⟩
  · exact T.wp_mono (fun rest z => OutL.step st z) (fun x z => z.step st) _ q1
  rintro i m Hc ⟨rfl, hi, outs, n, H0', acc, s, ho, hw⟩
  have gG : G Hc := hG _ (fun b o z => s.1.ext b o (s.1.grow b o z))
  by_cases hlt : i < ds.length
  · refine .inr ⟨walk.goes i Hc hlt gG, fun Hc => ∃ outs n H0' acc, Sm Hc outs H0' acc ∧ outs.length ≤ n ∧
      (lc2Go bd t it1 bd1 t1 e vs1 (wipeE ρ vs) n (ds.drop (i + 1))).wp (fun rest => OutL β H1 Hb Q (outs ++ rest)) (g.X β H1 Hb σ), fun H' w => ⟨ds.length - (i + 1), by omega, rfl, hlt, w⟩, fun x H2 y => ?_⟩
    have hd : ds[i]? = some ds[i] := List.getElem?_eq_getElem hlt
    have ed : ds.drop i = ds[i] :: ds.drop (i + 1) := List.drop_eq_getElem_cons hlt
    rw [ed] at hw
    obtain ⟨H0n, sn, c1, c2, c3, hx⟩ := gives_step hY s.1 s.1.grow s.2.1 s.2.2.1 s.2.2.2 hd (walk.yields i Hc x H2 hlt gG y)
    have s2 := step s sn
    have rw1 := (rr1.step s2.1).wipe vs
    unfold lc2Go at hw
    split at hw
    · exact hw.elim
    · next ρ1 hb =>
      refine ⟨β, H0n, wipeE ρ vs, ds[i], ρ1, rw1, hx, hb, fun σ2 r2 w2 o2 => ⟨(w2 vs hj).trans (wipe_wipe fun _ z => z), ?_⟩⟩
      refine ⟨β, H0n, ρ1, r2, T.wp_mono (fun b hb2 => ?_) (fun _ z => z) _ (T.wp_quiet ((T.wp_bind _ _).mp hw))⟩
      cases b with
      | bool z =>
        refine ⟨z, rfl, fun H0m H3 st3 => ?_⟩
        have s3 := step s2 st3
        cases z with
        | false => exact iteF ⟨outs, n, H0m, acc, s3, ho, hb2⟩
        | true =>
          refine iteT ⟨β, H0m, ρ1, r2.step st3, T.wp_mono (fun ds1 q3 J1 H5 H4 st4 gv1 => ?_) (fun _ z => z) _ (T.wp_quiet ((T.wp_bind _ _).mp hb2))⟩
          split at q3
          · next hz1 =>
            have s4 := step s3 st4
            obtain ⟨G1, Y1, walk1, hG1, hY1⟩ := gv1
            refine ⟨fun j k Hc => k = ds1.length - j ∧ j ≤ ds1.length ∧ ∃ outs2 H0' acc, Sm Hc (outs ++ outs2) H0' acc ∧ Same H5 H0' ∧ outs2.length ≤ j ∧
              (lcGo bd1 t1 e (wipeE ρ1 vs1) (ds1.drop j)).wp (fun r1 => (lc2Go bd t it1 bd1 t1 e vs1 (wipeE ρ vs) (n + ds1.length) (ds.drop (i + 1))).wp (fun r2 => OutL β H1 Hb Q (outs ++ outs2 ++ r1 ++ r2)) (g.X β H1 Hb σ)) (g.X β H1 Hb σ),
              ⟨ds1.length, rfl, Nat.zero_le _, [], H5, acc, by rw [List.append_nil]; exact s4, fun _ _ z => z, Nat.le_refl _, ?_⟩, ?_⟩
            · refine T.wp_mono (fun r1 z => ?_) (fun _ z => z) _ ((T.wp_bind _ _).mp q3)
              refine T.wp_mono (fun r2 z => ?_) (fun _ z => z) _ ((T.wp_bind _ _).mp z)
              rw [List.append_nil, List.append_assoc]
              exact z
            rintro j k Hc1 ⟨rfl, hjl, outs2, H0k, acc2, sk, bk, ho2, hw1⟩
            have gG1 : G1 Hc1 := hG1 _ (fun b o z => sk.1.ext b o (bk b o z))
            by_cases hlt1 : j < ds1.length
            · refine .inr ⟨walk1.goes j Hc1 hlt1 gG1, fun Hc => ∃ outs2 H0' acc, Sm Hc (outs ++ outs2) H0' acc ∧ Same H5 H0' ∧ outs2.length ≤ j + 1 ∧
                (lcGo bd1 t1 e (wipeE ρ1 vs1) (ds1.drop (j + 1))).wp (fun r1 => (lc2Go bd t it1 bd1 t1 e vs1 (wipeE ρ vs) (n + ds1.length) (ds.drop (i + 1))).wp (fun r2 => OutL β H1 Hb Q (outs ++ outs2 ++ r1 ++ r2)) (g.X β H1 Hb σ)) (g.X β H1 Hb σ),
                fun H' w => ⟨ds1.length - (j + 1), by omega, rfl, hlt1, w⟩, fun x1 H6 y1 => ?_⟩
              have hd1 : ds1[j]? = some ds1[j] := List.getElem?_eq_getElem hlt1
              have ed1 : ds1.drop j = ds1[j] :: ds1.drop (j + 1) := List.drop_eq_getElem_cons hlt1
              rw [ed1] at hw1
              obtain ⟨H0p, sp, e1, e2, e3, hx1⟩ := gives_step hY1 sk.1 bk sk.2.1 sk.2.2.1 sk.2.2.2 hd1 (walk1.yields j Hc1 x1 H6 hlt1 gG1 y1)
              have s6 := step sk sp
              have b6 : Same H5 H0p := bk.trans sp.grow
              have gr : Same H0n H0p := (st3.grow.trans st4.grow).trans b6
              have r6 := (rel s2 r2 o2 s6 gr).wipe vs1
              unfold lcGo at hw1
              split at hw1
              · exact hw1.elim
              · next ρ2 hb1 =>
                refine ⟨β, H0p, wipeE ρ1 vs1, ds1[j], ρ2, r6, hx1, hb1, fun σ3 r7 w7 o7 => ⟨(w7 vs1 hj1).trans (wipe_wipe fun _ z => z), ?_⟩⟩
                refine ⟨β, H0p, ρ2, r7, T.wp_mono (fun b hb3 => ?_) (fun _ z => z) _ (T.wp_quiet ((T.wp_bind _ _).mp hw1))⟩
                cases b with
                | bool z =>
                  refine ⟨z, rfl, fun H0q H7 st7 => ?_⟩
                  have s7 := step s6 st7
                  cases z with
                  | false => exact iteF ⟨outs2, H0q, acc2, s7, b6.trans st7.grow, by omega, hb3⟩
                  | true =>
                    refine iteT ⟨β, H0q, ρ2, r7.step st7, T.wp_mono (fun y hy2 v H0r H8 st8 hv => ?_) (fun _ z => z) _ (T.wp_quiet ((T.wp_bind _ _).mp hb3))⟩
                    have s8 := step s7 st8
                    refine ⟨acc2, s8.2.1, ?_, outs2 ++ [y], H0r, acc2 ++ [v], ?_, (b6.trans st7.grow).trans st8.grow, by simp; omega, ?_⟩
                    · have l1 := s8.2.2.2.length
                      rw [List.length_append] at l1
                      rw [sizeLine_eq]
                      omega
                    · rw [← List.append_assoc]
                      exact item s8 hv
                    · refine T.wp_mono (fun r1 z => ?_) (fun _ z => z) _ ((T.wp_bind _ _).mp hy2)
                      refine T.wp_mono (fun r2 z => ?_) (fun _ z => z) _ (show T.wp _ _ _ from z)
                      have ea : outs ++ (outs2 ++ [y]) ++ r1 ++ r2 = outs ++ outs2 ++ (y :: r1) ++ r2 := by simp
                      rw [ea]
                      exact z
                | _ => exact hb3.elim
            · have ej : j = ds1.length := by omega
              subst ej
              refine .inl ⟨walk1.stops Hc1 gG1, outs ++ outs2, n + ds1.length, H0k, acc2, sk, by rw [List.length_append]; omega, ?_⟩
              rw [List.drop_length] at hw1
              have hw2 : (lc2Go bd t it1 bd1 t1 e vs1 (wipeE ρ vs) (n + ds1.length) (ds.drop (i + 1))).wp (fun r2 => OutL β H1 Hb Q (outs ++ outs2 ++ [] ++ r2)) (g.X β H1 Hb σ) := hw1
              rw [List.append_nil] at hw2
              exact hw2
          · exact q3.elim
      | _ => exact hb2.elim
  · have ei : i = ds.length := by omega
    subst ei
    refine .inl ⟨walk.stops Hc gG, ?_⟩
    rw [List.drop_length] at hw
    have q3 : OutL β H1 Hb Q (outs ++ []) := hw
    rw [List.append_nil] at q3
    exact q3 Dl H0' Hc acc s.1 hD s.2.1 s.2.2.1 nS s.2.2.2
theorem tLc2_of (hj : ∀ j ∈ js, j ∈ vs) (hj1 : ∀ j ∈ js1, j ∈ vs1) {σ : L2.St} {H : Hp} {Q : VK} (h : tE g (eLc2 vs vs1 it bd t it1 bd1 t1 e) σ H Q) :
    tLc2 (tI g it) (tG g.q js bd) (tT g.q t) (tI g.q it1) (tG g.q js1 bd1) (tT g.q t1) (tE g.q e) vs vs1 σ H Q := tLc2_core hj hj1 (tEL_of h)
end
section
variable {X : Cx} {g : Ct} {tg iter tg1 iter1 elt : Expr} {ifs ifs1 : List Expr} {scope : Scope} {own : List (Str × Nat)} {vs1 : List Nat} {pos : Pos} {js js1 : List Nat} {it it1 : Env' → T (List D)} {bd bd1 : D → Env' → Option Env'} {t t1 e : Env' → T D}
theorem r_lc2 (hc : X.calm = true) (hN : X.N.Nodup) (hi : PI X tg iter (tI g it)) (ok : BlkOk X.N X.env.scope scope own) (hv : ∀ i ∈ vs1, i ∈ own.map (·.2))
    (hg : ∀ (s : Shared) (H : Hp) (C : Addr) (cl : List (Str × Addr)) (fp : List Addr), PG (X.blk s H scope (compEnvC scope cl C X.env) fp) tg (tG g.q js bd))
    (ht : ∀ (s : Shared) (H : Hp) (C : Addr) (cl : List (Str × Addr)) (fp : List Addr), PTs (X.blk s H scope (compEnvC scope cl C X.env) fp) ifs (tT g.q t))
    (hi1 : ∀ (s : Shared) (H : Hp) (C : Addr) (cl : List (Str × Addr)) (fp : List Addr), PI (X.blk s H scope (compEnvC scope cl C X.env) fp) tg1 iter1 (tI g.q it1))
    (hg1 : ∀ (s : Shared) (H : Hp) (C : Addr) (cl : List (Str × Addr)) (fp : List Addr), PG (X.blk s H scope (compEnvC scope cl C X.env) fp) tg1 (tG g.q js1 bd1))
    (ht1 : ∀ (s : Shared) (H : Hp) (C : Addr) (cl : List (Str × Addr)) (fp : List Addr), PTs (X.blk s H scope (compEnvC scope cl C X.env) fp) ifs1 (tT g.q t1))
    (he : ∀ (s : Shared) (H : Hp) (C : Addr) (cl : List (Str × Addr)) (fp : List Addr), PE (X.blk s H scope (compEnvC scope cl C X.env) fp) elt (tE g.q e))
    (hj : ∀ j ∈ js, j ∈ own.map (·.2)) (hj1 : ∀ j ∈ js1, j ∈ vs1) (hs : ∀ x, foldedSetIterable iter X.env x = pure x := by intro _; rfl) (hs1 : ∀ env x, foldedSetIterable iter1 env x = pure x := by intro _ _; rfl) :
    PE X (.ListComp elt [⟨tg, iter, ifs, 0⟩, ⟨tg1, iter1, ifs1, 0⟩] scope pos) (tE g (eLc2 (own.map (·.2)) vs1 it bd t it1 bd1 t1 e)) :=
  (pe_lc2 hc hN hi ok hv hg ht hi1 hg1 ht1 he hs hs1).imp fun _ _ _ q => tLc2_of hj hj1 q
theorem s_setLc2 {i : Nat} {st : Stmt} {vs : List Nat} (hs : PS X st (tAsg (tLc2 (tI g it) (tG g.q js bd) (tT g.q t) (tI g.q it1) (tG g.q js1 bd1) (tT g.q t1) (tE g.q e) vs vs1) (gName i))) (hj : ∀ j ∈ js, j ∈ vs) (hj1 : ∀ j ∈ js1, j ∈ vs1) :
    PS X st (tS g (sSet i (eLc2 vs vs1 it bd t it1 bd1 t1 e))) :=
  hs.imp fun E σ H q => tLc2_of hj hj1 (Q := fun x H1 => gName i x σ H1 E.nx) (tAsg_of q)
end
/-! ### t > u, tuples of ints -/
def lexGt (ns ms : List Int) : Bool := Ob.lexAt (fun j => decide (ns.getD j 0 = ms.getD j 0)) (fun j => decide (ms.getD j 0 < ns.getD j 0)) (decide (ns.length > ms.length)) 0 (min ns.length ms.length)
def rGtT (K : PySem.W.Frag) : R2 := fun x y H Q => ∃ (a b : Addr) (ns ms : List Int), x = .ref a ∧ y = .ref b ∧ SqT K H a (ns.map V.int) ∧ SqT K H b (ms.map V.int) ∧ Q (.bl (lexGt ns ms)) H
theorem op_gtT {X : Cx} (hu : X.A.units < cLine) : OpR X (compareOp .Gt) (rGtT X.K) := by
  intro pins s σ H x y v u Q I rx ry h
  obtain ⟨a, b, ns, ms, rfl, rfl, ha, hb, q⟩ := h
  cases rx
  cases ry
  obtain ⟨us, r1, p1, _⟩ := I.tuple ha
  obtain ⟨ws, r2, p2, _⟩ := I.tuple hb
  have i1 : IntsAre us ns := Vals.ints r1
  have i2 : IntsAre ws ms := Vals.ints r2
  have n1 : us.toArray.size = ns.length := (List.size_toArray).trans i1.length
  have n2 : ws.toArray.size = ms.length := (List.size_toArray).trans i2.length
  have g1 : ∀ j (z : j < us.toArray.size), ∃ t, us.toArray[j] = .int (ns.getD j 0) t := fun j z => PyProof.Rows.IntsAre.int_at i1 _ _ (by
    rw [List.size_toArray] at z
    simp [z])
  have g2 : ∀ j (z : j < ws.toArray.size), ∃ t, ws.toArray[j] = .int (ms.getD j 0) t := fun j z => PyProof.Rows.IntsAre.int_at i2 _ _ (by
    rw [List.size_toArray] at z
    simp [z])
  have R := Ob.RcOp.tuples_gt (A := X.A) (s := s) (e := fun j => decide (ns.getD j 0 = ms.getD j 0)) (r := fun j => decide (ms.getD j 0 < ns.getD j 0)) p1 p2 hu
    (fun j h1 h2 => by
      obtain ⟨t, k1⟩ := g1 j h1
      obtain ⟨t', k2⟩ := g2 j h2
      rw [k1, k2]
      have w : decide (ns.getD j 0 = ms.getD j 0) = (ns.getD j 0 == ms.getD j 0) := by
        rw [Bool.eq_iff_iff]
        simp
      rw [w]
      exact SeqAt.EqAt.int_int _ _ _ _)
    (fun j h1 h2 _ => by
      obtain ⟨t, k1⟩ := g1 j h1
      obtain ⟨t', k2⟩ := g2 j h2
      rw [k1, k2]
      exact Ob.RcOp.gt_int _ _ _ _)
  rw [n1, n2] at R
  exact R X.prog X.w X.xe (EP X pins σ Q) ⟨.bl _, H, I, rfl, q⟩
def dInts : List D → Option (List Int)
  | [] => some []
  | .int i :: r => match dInts r with
    | some ns => some (i :: ns)
    | none => none
  | _ :: _ => none
theorem dInts_has {H : Hp} : ∀ {vs : List V} {ds : List D} {ns : List Int}, HasL H vs ds → dInts ds = some ns → vs = ns.map V.int
  | _, _, _, .nil, e => by
    unfold dInts at e
    cases e
    rfl
  | _, _, ns, .cons (d := d) h r, e => by
    cases h with
    | int i =>
      unfold dInts at e
      split at e
      · next ms hm =>
        cases e
        rw [dInts_has r hm]
        rfl
      · cases e
    | _ => cases e
def oGtT : D → D → T D
  | .int i, .int j => .ret (.bool (decide (j < i)))
  | .tuple xs, .tuple ys => match dInts xs, dInts ys with
    | some ns, some ms => .ret (.bool (lexGt ns ms))
    | _, _ => .bad
  | _, _ => .bad
theorem op_gtD {X : Cx} (hu : X.A.units < cLine) : OpR X (compareOp .Gt) (fun x y H Q => rI0 (fun i j => .bl (decide (j < i))) x y H Q ∨ rGtT X.K x y H Q) := opOr op_gt (op_gtT hu)
theorem d_gtT {K : PySem.W.Frag} : OpD (fun x y H Q => rI0 (fun i j => .bl (decide (j < i))) x y H Q ∨ rGtT K x y H Q) oGtT := by
  intro β H0 H v w x y Q E e ok bf hv hw q
  cases hv with
  | int i =>
    cases hw with
    | int j => exact .inl ⟨i, j, rfl, rfl, out_ret e ok bf (.bl _) q⟩
    | _ => exact q.elim
  | @tup a xs ds h1 h2 =>
    cases hw with
    | @tup b ys es h3 h4 =>
      have q : (match dInts ds, dInts es with
        | some ns, some ms => T.ret (PyData.bool (lexGt ns ms))
        | _, _ => .bad).wp (Out β H0 H Q) E := q
      split at q
      · next ns ms e1 e2 =>
        have k1 := dInts_has h2 e1
        have k2 := dInts_has h4 e2
        subst k1
        subst k2
        exact .inr ⟨a, b, ns, ms, rfl, rfl, SqT.of (e _ _ h1), SqT.of (e _ _ h3), out_ret e ok bf (.bl _) q⟩
      · exact q.elim
    | _ => exact q.elim
  | _ => exact q.elim
end Wb

set_option Elab.async false
set_option linter.all false
set_option maxRecDepth 100000
set_option maxHeartbeats 4000000
/-! Wb, part 10: the source of draws that is a list of three numbers. -/
namespace Wb
open PySem PySem.Spec PyProof.Rows L2

/-- the draw -/
def mDip : List Ar → T D
  | [.box false, .d (.int m)] => .draw m fun i => .ret (.int i)
  | _ => .bad
abbrev rMod0 : R2 := rI (fun _ j => j ≠ 0) fun i j => .int (i.fmod j)
abbrev rInt1 : List V → Hp → VK → Prop := fun xs H Q => (∃ i, xs = [V.int i] ∧ Q (V.int i) H) ∨ ∃ k, xs = [V.bl k] ∧ Q (V.int (if k = true then 1 else 0)) H
/-- how the def that draws reads -/
def tDip (K : PySem.W.Frag) : TS := let at0 := fun i : Int => tOp (rIxL K) (tVar 0) (tC (.int i))
  tSeq (tIfS (tTest (tOp (rI0 fun i j => .bl (decide (j < i))) (at0 0) (tC (.int 0))))
      (tSeq (tAsg (tOp rMod0 (tCB rInt1 (tCons (at0 0) tNil)) (tVar 1)) (gName 2))
        (tSeq (tAsg (tOp (rI CDivN fun i j => .int (i.fdiv j)) (at0 0) (tVar 1)) (gSub (tVar 0) (tC (.int 0)) rSetL)) (tRet (tVar 2)))) tNext)
    (tSeq (tAsg (tOp (rI0 fun i j => .int (i + j)) (at0 2) (tC (.int 1))) (gSub (tVar 0) (tC (.int 2)) rSetL))
      (tSeq (tAsg (tOp rMod0 (tCB rInt1 (tCons (tOp (rI0 fun i j => .int (i + j)) (tOp (rI0 fun i j => .int (i + j)) (tOp (rI CMul fun i j => .int (i * j)) (at0 1) (tC (.int 1103515245))) (tOp (rI CMul fun i j => .int (i * j)) (tC (.int 12345)) (at0 2))) (tC (.int 7))) tNil)) (tC (.int 2305843009213693951))) (gSub (tVar 0) (tC (.int 1)) rSetL))
        (tRet (tOp rMod0 (tCB rInt1 (tCons (tOp (rI CDivN fun i j => .int (i.fdiv j)) (tOp rMod0 (tCB rInt1 (tCons (tOp (rI CMul fun i j => .int (i * j)) (at0 1) (at0 1)) tNil)) (tC (.int 2305843009213693951))) (tC (.int 131071))) tNil)) (tVar 1)))))
theorem fmod_in {i m : Int} (h : 0 < m) : 0 ≤ i.fmod m ∧ i.fmod m < m := ⟨Int.fmod_nonneg_of_pos i h, Int.fmod_lt_of_pos i h⟩
theorem HasAs.two' {β : Box} {H0 : Hp} {vs : List V} {a b : Ar} (h : HasAs β H0 vs [a, b]) : ∃ v w, vs = [v, w] ∧ HasA β H0 v a ∧ HasA β H0 w b := by
  cases h with
  | cons h r =>
    cases r with
    | cons h2 r2 =>
      cases r2
      exact ⟨_, _, rfl, h, h2⟩
/-- the source alone is changed -/
theorem Stp.spring {p : Addr} {T : List (Addr × Str)} {H0 H H' : Hp} (e : Same H0 H) (o0 : (tabBox (springBox p) T).ok H) (bf : ∀ a, (tabBox (springBox p) T).S a → H0 a = none) (k : ∀ b, b ≠ p → H' b = H b) (ok : (springBox p).ok H') : Stp (tabBox (springBox p) T) H0 H H0 H' := by
  obtain ⟨⟨x, y, z, hp, _⟩, tb⟩ := o0
  refine ⟨fun _ _ h => h, fun b o h => ?_, ⟨ok, fun q hq => ?_⟩, bf, fun q o h n => ⟨n, fun ns => ?_⟩⟩
  · have hb : b ≠ p := fun z => by
      subst z
      rw [bf b (.inl rfl)] at h
      cases h
    rw [k b hb]
    exact e b o h
  · obtain ⟨ps, e1, e2, e3⟩ := tb q hq
    refine ⟨ps, ?_, e2, fun pos cv hc => ?_⟩
    · rw [k _ (fun z => by rw [z, hp] at e1; cases e1)]
      exact e1
    · obtain ⟨c, z1, z2⟩ := e3 pos cv hc
      refine ⟨c, z1, ?_⟩
      rw [k _ (fun z => by rw [z, hp] at z2; unfold LamX.CodeO at z2; cases z2)]
      exact z2
  · rw [k q (fun z => ns (.inl z))]
    exact h
theorem dip_reads {K : PySem.W.Frag} {cad : Cad} {vs : List V} {H : Hp} {Q : VK} {E : XK} {N : List Str} (hN : N.length = 3) (h : spD cad 2 mDip vs H Q E) :
    tDip K { nx := fun _ H' => Q .non H', rt := Q } (L2.start N vs) H := by
  obtain ⟨_, β, H0, as, e, ok, bf, tbs, ha, q⟩ := h
  match as, ha, q with
  | [.box false, .d (.int m)], ha, q =>
    obtain ⟨v, w, rfl, ⟨p, T, eβ, hv⟩, hw⟩ := ha.two'
    subst eβ
    subst hv
    have ew := hw.int_eq
    subst ew
    obtain ⟨m0, m1, q⟩ := q
    have ok0 := ok
    obtain ⟨⟨x, y, z, hp, x0, y0, y1, z0⟩, _⟩ := ok
    have es : L2.start N [.ref p, .int m] = [some (.ref p), some (.int m), none] := by
      unfold L2.start
      simp [hN]
    rw [es]
    have fin : ∀ (H' : Hp) (i : Int), (∀ b, b ≠ p → H' b = H b) → springOk p H' → 0 ≤ i → i < m → Q (.int i) H' := fun H' i k ok' i0 i1 =>
      q i i0 i1 (.int i) H0 H' (Stp.spring e ok0 bf k ok') (.int i)
    have hS : SqL K H p [.int x, .int y, .int z] := SqL.of hp
    refine ⟨_, rfl, p, _, 0, .int x, rfl, rfl, hS, atI_nat (j := 0) rfl, x, 0, rfl, rfl, decide (0 < x), rfl, ite2 (fun c => ?_) (fun c => ?_)⟩
    · have c' : 0 < x := of_decide_eq_true c
      refine ⟨_, rfl, p, _, 0, .int x, rfl, rfl, hS, atI_nat (j := 0) rfl, .inl ⟨x, rfl, .int m, rfl, x, m, rfl, rfl, by omega, ?_⟩⟩
      refine ⟨_, rfl, p, _, 0, .int x, rfl, rfl, hS, atI_nat (j := 0) rfl, .int m, rfl, x, m, rfl, rfl, ⟨by omega, by omega⟩, ?_⟩
      refine ⟨_, rfl, p, _, 0, 0, rfl, rfl, hp, rfl, _, rfl, ?_⟩
      have r := fmod_in (i := x) m0
      refine fin _ _ (fun b nb => upd_ne nb) ⟨_, y, z, upd_same, ?_, y0, y1, z0⟩ r.1 r.2
      rw [Int.fdiv_eq_ediv_of_nonneg x (by omega)]
      exact Int.ediv_nonneg x0 (by omega)
    · refine ⟨_, rfl, p, _, 2, .int z, rfl, rfl, hS, atI_nat (j := 2) rfl, z, 1, rfl, rfl, ?_⟩
      refine ⟨_, rfl, p, _, 2, 2, rfl, rfl, hp, rfl, ?_⟩
      have hp1 : (upd H p (.lst ([V.int x, .int y, .int z].set 2 (.int (z + 1))))) p = some (.lst [.int x, .int y, .int (z + 1)]) := upd_same
      generalize hH1 : upd H p (.lst ([V.int x, .int y, .int z].set 2 (.int (z + 1)))) = H1 at hp1 ⊢
      have k1 : ∀ b, b ≠ p → H1 b = H b := fun b nb => by
        rw [← hH1]
        exact upd_ne nb
      have hS1 : SqL K H1 p [.int x, .int y, .int (z + 1)] := SqL.of hp1
      refine ⟨_, rfl, p, _, 1, .int y, rfl, rfl, hS1, atI_nat (j := 1) rfl, y, _, rfl, rfl, .inr ⟨by decide, by decide⟩, ?_⟩
      refine ⟨_, rfl, p, _, 2, .int (z + 1), rfl, rfl, hS1, atI_nat (j := 2) rfl, _, z + 1, rfl, rfl, .inl ⟨by decide, by decide⟩, ?_⟩
      refine ⟨_, _, rfl, rfl, _, _, rfl, rfl, .inl ⟨_, rfl, _, _, rfl, rfl, (show (2305843009213693951 : Int) ≠ 0 by decide), ?_⟩⟩
      dsimp only
      generalize hy : (y * 1103515245 + 12345 * (z + 1) + 7).fmod 2305843009213693951 = y'
      have ry := fmod_in (i := y * 1103515245 + 12345 * (z + 1) + 7) (m := 2305843009213693951) (by decide)
      rw [hy] at ry
      refine ⟨_, rfl, p, _, 1, 1, rfl, rfl, hp1, rfl, ?_⟩
      try rw [hy]
      have hp2 : (upd H1 p (.lst ([V.int x, .int y, .int (z + 1)].set 1 (.int y')))) p = some (.lst [.int x, .int y', .int (z + 1)]) := upd_same
      generalize hH2 : upd H1 p (.lst ([V.int x, .int y, .int (z + 1)].set 1 (.int y'))) = H2 at hp2 ⊢
      have k2 : ∀ b, b ≠ p → H2 b = H b := fun b nb => by
        rw [← hH2, upd_ne nb]
        exact k1 b nb
      have hS2 : SqL K H2 p [.int x, .int y', .int (z + 1)] := SqL.of hp2
      refine ⟨_, rfl, p, _, 1, .int y', rfl, rfl, hS2, atI_nat (j := 1) rfl, _, rfl, p, _, 1, .int y', rfl, rfl, hS2, atI_nat (j := 1) rfl, y', y', rfl, rfl, .inl ⟨by omega, by omega⟩, ?_⟩
      refine .inl ⟨_, rfl, _, _, rfl, rfl, (show (2305843009213693951 : Int) ≠ 0 by decide), _, _, rfl, rfl, ⟨by decide, by decide⟩, .inl ⟨_, rfl, .int m, rfl, _, m, rfl, rfl, by omega, ?_⟩⟩
      have r := fmod_in (i := ((y' * y').fmod 2305843009213693951).fdiv 131071) m0
      exact fin _ _ k2 ⟨x, y', z + 1, hp2, x0, ry.1, ry.2, by omega⟩ r.1 r.2
end Wb

set_option Elab.async false
set_option linter.all false
set_option maxRecDepth 100000
set_option maxHeartbeats 4000000
/-! Wb, part 11: the list of three numbers, made of the script; the law's own beginning. -/
namespace Wb
open PySem PySem.Spec PyProof.Rows L2

def rAbs1 : List V → Hp → VK → Prop := fun xs H Q => ∃ i, xs = [V.int i] ∧ Q (V.int (if i < 0 then -i else i)) H
def spSpring (K : PySem.W.Frag) : Sp := fun vs H Q _ => ∃ (a : Addr) (ns : List Int), vs = [.ref a] ∧ SqL K H a (ns.map V.int) ∧ ∀ H' p, springOk p H' → Same H H' → Q (.ref p) H'
def tSpring (K : PySem.W.Frag) : TS :=
  tSeq (tAsg (tTup (tCons (tC (V.int 0)) (tCons (tC (V.int 2908)) tNil))) (gTup K 2 (gCons (gName 1) (gCons (gName 2) gNil))))
    (tSeq (tFor (iList K (tSl (rSlL K) (tVar 0) tNoPart (tPart (tC (V.int 60))))) (gName 3)
        (tSeq (tAsg (tOp (rI0 fun i j => V.int (i + j)) (tOp (rI0 fun i j => V.int (i + j)) (tOp (rI0 fun i j => V.int (i + j))
              (tOp (rI CMul fun i j => V.int (i * j)) (tVar 2) (tC (V.int 6364136223846793005))) (tOp (rI CMul fun i j => V.int (i * j)) (tC (V.int 2)) (tCB rAbs1 (tCons (tVar 3) tNil))))
              (tCB rInt1 (tCons (tOp (rI0 fun i j => V.bl (decide (i < j))) (tVar 3) (tC (V.int 0))) tNil))) (tC (V.int 1))) (gName 2))
          (tSeq (tAsg (tOp rMod0 (tCB rInt1 (tCons (tVar 2) tNil)) (tC (V.int 2305843009213693951))) (gName 2))
            (tIfS (tTest (tOp (rI0 fun i j => V.bl (decide (j ≤ i))) (tCB rAbs1 (tCons (tVar 3) tNil)) (tOp (rI CPow fun i j => V.int (i ^ j.toNat)) (tC (V.int 10)) (tC (V.int 18)))))
              (tAsg (tOp (rI0 fun i j => V.int (i + j)) (tOp (rI CMul fun i j => V.int (i * j)) (tVar 1) (tC (V.int 23))) (tCB rAbs1 (tCons (tVar 3) tNil))) (gName 1)) tNext))))
      (tRet (tLst (tCons (tVar 1) (tCons (tVar 2) (tCons (tC (V.int 0)) tNil))))))
theorem abs_if (n : Int) : 0 ≤ (if n < 0 then -n else n) := by
  split <;> omega
theorem spring_reads {K : PySem.W.Frag} {vs : List V} {H : Hp} {Q : VK} {E : XK} {N : List Str} (hN : N.length = 4) (h : spSpring K vs H Q E) :
    tSpring K { nx := fun _ H' => Q .non H', rt := Q } (L2.start N vs) H := by
  obtain ⟨a, ns, rfl, hS, q⟩ := h
  have es : L2.start N [.ref a] = [some (.ref a), none, none, none] := by
    unfold L2.start
    simp [hN, List.replicate]
  rw [es]
  refine ⟨lim_line (by decide), fun p hp => ?_⟩
  have s1 : Same H (upd H p (.tup [.int 0, .int 2908])) := fun b u z => by
    rw [upd_ne (ne_of_none z hp)]
    exact z
  refine ⟨p, _, rfl, SqT.of upd_same, rfl, .int 0, _, rfl, .int 2908, [], rfl, rfl, ?_⟩
  refine ⟨_, rfl, _, rfl, a, ns.map V.int, rfl, s1.seq hS, fun c hc => ?_⟩
  generalize upd H p (.tup [.int 0, .int 2908]) = H1 at hc s1 ⊢
  have hl : (upd H1 c (.lst (cutV (ns.map V.int) none (some 60)))) c = some (.lst (cutV (ns.map V.int) none (some 60))) := upd_same
  have s2 : Same H (upd H1 c (.lst (cutV (ns.map V.int) none (some 60)))) := fun b u z => by
    rw [upd_ne (ne_of_none (s1 b u z) hc)]
    exact s1 b u z
  generalize upd H1 c (.lst (cutV (ns.map V.int) none (some 60))) = H2 at hl s2 ⊢
  obtain ⟨ms, em⟩ : ∃ ms : List Int, cutV (ns.map V.int) none (some 60) = ms.map V.int := by
    unfold cutV
    rw [← List.map_drop, ← List.map_take]
    exact ⟨_, rfl⟩
  rw [em] at hl
  have sq : SqL K H2 c (ms.map V.int) := SqL.of hl
  refine ⟨c, rfl, ⟨_, sq⟩, for_it (walk_list (K := K) (a := c) (xs := ms.map V.int)) (fun i σ H' => H' = H2 ∧ ∃ x y z, σ = [some (.ref a), some (.int x), some (.int y), z] ∧ 0 ≤ x ∧ 0 ≤ y ∧ y < 2305843009213693951) ⟨rfl, 0, 2908, none, rfl, by decide, by decide, by decide⟩ ?_ ?_ ?_⟩
  · rintro i σ H' _ ⟨rfl, _⟩
    exact sq
  · rintro i v σ H' H3 hi ⟨rfl, x, y, z, rfl, x0, y0, y1⟩ ⟨e3, hv⟩
    subst e3
    rw [List.getElem?_map] at hv
    obtain ⟨n, hn, rfl⟩ := Option.map_eq_some_iff.mp hv
    have an := abs_if n
    refine ⟨_, rfl, y, _, rfl, rfl, .inr ⟨by decide, by decide⟩, _, rfl, n, rfl, _, _, rfl, rfl, .inl ⟨by decide, by decide⟩, _, _, rfl, rfl, ?_⟩
    refine ⟨_, rfl, n, 0, rfl, rfl, .inr ⟨_, rfl, _, _, rfl, rfl, _, _, rfl, rfl, ?_⟩⟩
    refine ⟨_, rfl, .inl ⟨_, rfl, _, _, rfl, rfl, (show (2305843009213693951 : Int) ≠ 0 by decide), ?_⟩⟩
    refine ⟨_, rfl, n, rfl, 10, 18, rfl, rfl, ⟨by decide, by decide, by decide⟩, _, _, rfl, rfl, _, rfl, ite2 (fun c1 => ?_) (fun c1 => ?_)⟩
    · refine ⟨_, rfl, x, _, rfl, rfl, .inr ⟨by decide, by decide⟩, _, rfl, n, rfl, _, _, rfl, rfl, rfl, _, _, _, rfl, ?_, ?_⟩
      · omega
      · exact fmod_in (by decide)
    · refine ⟨rfl, x, _, _, rfl, x0, ?_⟩
      exact fmod_in (by decide)
  · rintro σ H' ⟨rfl, x, y, z, rfl, x0, y0, y1⟩
    refine ⟨_, rfl, _, rfl, lim_line (by simp), fun r hr => q _ r ⟨x, y, 0, upd_same, x0, y0, y1, by decide⟩ fun b u z => by
      rw [upd_ne (ne_of_none (s2 b u z) hr)]
      exact s2 b u z⟩
end Wb

set_option Elab.async false
set_option linter.all false
set_option maxRecDepth 100000
set_option maxHeartbeats 4000000
/-! Wb, part 12: what a law's text asks for besides. -/
namespace Wb
open PySem PySem.Spec PyProof.Rows L2

abbrev oIsI (n : String) : D → T D := fun d => .ret (.bool (isaD n d))
abbrev Kit (K : PySem.W.Frag) (n : String) : Prop := ∀ m ∈ ["NoneType", "bool", "int", "str", "list", "tuple", "dict"], PySem.W.kitOne K (.type m) (.type n) = some (m == n || (n == "int" && m == "bool"))
def kitAll (n : String) : Bool := ["NoneType", "bool", "int", "str", "list", "tuple", "dict"].all fun m => decide (kitB m n = some (m == n || (n == "int" && m == "bool")))
theorem kit_by {K : PySem.W.Frag} {n : String} (h : kitAll n = true) : Kit K n := fun m hm => kit_ty (of_decide_eq_true (List.all_eq_true.mp h m hm))
theorem kit_int {K : PySem.W.Frag} : Kit K "int" := kit_by (by decide +kernel)
theorem kit_bool {K : PySem.W.Frag} : Kit K "bool" := kit_by (by decide +kernel)
theorem kit_str {K : PySem.W.Frag} : Kit K "str" := kit_by (by decide +kernel)
theorem kit_tuple {K : PySem.W.Frag} : Kit K "tuple" := kit_by (by decide +kernel)
theorem kit_list {K : PySem.W.Frag} : Kit K "list" := kit_by (by decide +kernel)
theorem kit_dict {K : PySem.W.Frag} : Kit K "dict" := kit_by (by decide +kernel)
theorem un200 {A : Around} {k : Nat} (h : Room k A) : A.units + 200 < cLine := by
  have := h.un
  omega
/-- {} -/
theorem r_dct0 {X : Cx} {g : Ct} {pos : Pos} : PE X (.Dict [] [] pos) (tE g (eC (.dict []))) := pe_dnewK.imp fun σ H Q ⟨β, H0, ρ, r, q⟩ p hp =>
  q (.ref p) _ _ (r.new (o := .dK []) hp) (.dct upd_same .nil)
theorem look1 {α : Type} {x : Str} {v : α} {l : List (Str × α)} : ((x, v) :: l).lookup x = some v := by simp
theorem look2 {α : Type} {x y : Str} {v u : α} {l : List (Str × α)} (n : (x == y) = false) (k : l.lookup x = some u) : ((y, v) :: l).lookup x = some u := by
  rw [List.lookup_cons, n]
  exact k
/-- which classes an except clause takes, by their names -/
theorem cm_of {K : PySem.W.Frag} {A : Addr} {l : List (Str × Addr × Bool)} (h : ∀ p ∈ l, PySem.W.exmOne K (.ref p.2.1) (.ref A) = some p.2.2) (x : Str) (C : Addr) (b : Bool)
    (h1 : (l.map fun p => (p.1, p.2.1)).lookup x = some C) (h2 : (l.map fun p => (p.1, p.2.2)).lookup x = some b) : PySem.W.exmOne K (.ref C) (.ref A) = some b := by
  induction l with
  | nil => cases h1
  | cons p l ih =>
    rw [List.map_cons, List.lookup_cons] at h1 h2
    cases q : x == p.1 with
    | true =>
      rw [q] at h1 h2
      cases h1
      cases h2
      exact h p (List.mem_cons_self ..)
    | false =>
      rw [q] at h1 h2
      exact ih (fun p' hp => h p' (List.mem_cons_of_mem _ hp)) h1 h2
/-- a class of errors with one field, that is caught -/
structure Caught (K : PySem.W.Frag) (mg : Str → Option Value) (cad : Cad) (c fl : Str) (A : Addr) : Prop where
  gC : mg c = some (.ref A)
  xf : XfC K A
  no : PySem.W.findIn K (.ref A) fl = some none
  cad : cad c = some A
theorem exm_by {K : PySem.W.Frag} {C A : Addr} {b : Bool} (u1 : PySem.W.subIn K (.ref A) (.type "BaseException") = some true) (u2 : PySem.W.isClsIn K A = true) (u3 : PySem.W.typeIn K (.ref A) = some (.type "type")) (u4 : PySem.W.subIn K (.ref C) (.ref A) = some b) :
    PySem.W.exmOne K (.ref C) (.ref A) = some b := by
  unfold PySem.W.exmOne PySem.W.kitCls
  have v2 : (PySem.W.clsIn K A).isSome = true := u2
  simp [u1, u3, u4, v2]
/-- the law's def, from its first statement on -/
theorem FnG.lawT {TB : List (Addr × Str)} {P : Program} {w : World} {K : PySem.W.Frag} {mg : Str → Option Value} {base : Heap} {cad : Cad} {x qual : Str} {st : Stmt} {fa : Addr} {fd : FuncData} {N : List Str} {k : Nat} {F : Env' → T Fl} {rest : List Stmt} {ps : Str} {opn : Str} {p1 p2 p3 p4 p5 : Pos} {spO : Sp} {k0 : Bool}
    (Fu : Fun K x qual st fa fd) (S : FnScope N [ps] (defScope st)) (hb0 : defBody st = .Assign [.Name (N.getD 1 ps) p1] (.Call (.Name opn p2) [.Name ps p3] [] p4) p5 :: rest) (hN : 2 ≤ N.length)
    (hTab : ∀ (β : Box) (v : V), boxIs k0 β v → β.tabs = TB → cad.bx β)
    (hO : ∀ vs H Q E, (∃ (a : Addr) (ns : List Int), vs = [.ref a] ∧ SqL K H a (ns.map V.int) ∧ ns.length ≤ 63 ∧ LamX.Tabs TB H ∧ ∀ (β : Box) v H', boxIs k0 β v → β.tabs = TB → β.ok H' → Q v H') → spO vs H Q E)
    (hfirst : ∀ (cdv : Value) (A : Around) (outer : List Env) (s : Shared) (H : Hp) (E : XK), Room k (A.deeper (envOfC qual (defScope st) s.heap.objs.size fa cdv)) → (A.deeper (envOfC qual (defScope st) s.heap.objs.size fa cdv)).guards = some [] →
      PS (bodyX P w K mg base N qual st fa cdv A outer s H E) (.Assign [.Name (N.getD 1 ps) p1] (.Call (.Name opn p2) [.Name ps p3] [] p4) p5) (tAsg (tCallW spO [] (fun _ _ _ _ => False) (tCons (tVar 0) tNil)) (gName 1)))
    (hbody : ∀ (cdv : Value) (A : Around) (outer : List Env) (s : Shared) (H : Hp) (E : XK), Room k (A.deeper (envOfC qual (defScope st) s.heap.objs.size fa cdv)) → (A.deeper (envOfC qual (defScope st) s.heap.objs.size fa cdv)).guards = some [] →
      PSs (bodyX P w K mg base N qual st fa cdv A outer s H E) rest (tS ⟨cad, none, fun c d _ H' => E c d H', fun _ _ _ => True⟩ F))
    (hF : (F ([Sl.no, .box k0] ++ List.replicate (N.length - 2) .no)).run.wp (fun d => d = .bool true) (fun _ => False)) :
    FnG P w K mg base (k + 1) fa fd [ps] (fun vs H Q _ => ∃ (a : Addr) (ns : List Int), vs = [.ref a] ∧ SqL K H a (ns.map V.int) ∧ ns.length ≤ 63 ∧ LamX.Tabs TB H ∧ ∀ H', Q (.bl true) H') := by
  refine FnG.of Fu S (fun vs H Q E h => ?_) fun cdv A outer s H vs Q E hr hg h => ?_
  · obtain ⟨a, ns, rfl, _⟩ := h
    rfl
  · obtain ⟨a, ns, rfl, hS, hl, tb, q⟩ := h
    rw [hb0]
    refine ⟨_, pss_cons (hfirst cdv A outer s H E hr hg) (hbody cdv A outer s H E hr hg), ?_⟩
    have es : L2.start N [.ref a] = some (.ref a) :: none :: List.replicate (N.length - 2) none := by
      unfold L2.start
      obtain ⟨n, hn⟩ : ∃ n, N.length = n + 2 := ⟨N.length - 2, by omega⟩
      simp [hn, List.replicate_succ]
    rw [es]
    refine ⟨.ref a, rfl, hO _ _ _ _ ⟨a, ns, rfl, hS, hl, tb, fun β v H' hv ht ok => ?_⟩⟩
    refine ⟨β, fun _ => none, H', fun _ => none, fun _ => none, [Sl.no, .box k0] ++ List.replicate (N.length - 2) .no, ⟨⟨(fun _ _ z => nomatch z), ?_, fun i sl o ha hb => ?_, fun i _ xs _ p _ ha _ _ _ => ?_, ok, fun _ _ => rfl, hTab β v hv ht⟩, Stp.refl (fun _ _ z => nomatch z) ok (fun _ _ => rfl), fun _ _ z => z, trivial, fun i xs p ha _ => ?_⟩, ?_⟩
    · simp
    · match i, ha, hb with
      | 0, ha, hb =>
        cases ha
        trivial
      | 1, ha, hb =>
        cases ha
        cases hb
        exact ⟨v, rfl, hv⟩
      | i + 2, ha, hb =>
        have ha' : (List.replicate (N.length - 2) Sl.no)[i]? = some sl := ha
        rw [List.getElem?_replicate] at ha'
        split at ha'
        · cases ha'
          trivial
        · cases ha'
    · match i, ha with
      | 0, ha => cases ha
      | 1, ha => cases ha
      | i + 2, ha =>
        have ha' : (List.replicate (N.length - 2) Sl.no)[i]? = some (.own xs) := ha
        rw [List.getElem?_replicate] at ha'
        split at ha' <;> cases ha'
    · match i, ha with
      | 0, ha => cases ha
      | 1, ha => cases ha
      | i + 2, ha =>
        have ha' : (List.replicate (N.length - 2) Sl.no)[i]? = some (.own xs) := ha
        rw [List.getElem?_replicate] at ha'
        split at ha' <;> cases ha'
    · refine T.wp_mono (fun fl z => ?_) (fun x z => z) _ ((T.wp_run _).mp hF)
      cases fl with
      | nx ρ' =>
        have z' : PyData.none = .bool true := z
        cases z'
      | ret d =>
        have z' : d = .bool true := z
        subst z'
        intro v H0' H2 st hv2
        cases hv2
        exact q H2
      | exc y ρ' => exact z.elim
      | brk _ => exact z.elim
      | cnt _ => exact z.elim
theorem FnG.weak {P : Program} {w : World} {K : PySem.W.Frag} {mg : Str → Option Value} {base : Heap} {k : Nat} {fa : Addr} {fd : FuncData} {ps : List Str} {sp sp' : Sp} (h : FnG P w K mg base k fa fd ps sp) (i : ∀ vs H Q E, sp' vs H Q E → sp vs H Q E) : FnG P w K mg base k fa fd ps sp' :=
  ⟨fun vs H Q E z => h.len vs H Q E (i vs H Q E z), fun A outer s H args us vs Q E h1 h2 h3 h4 h5 z => h.go A outer s H args us vs Q E h1 h2 h3 h4 h5 (i vs H Q E z)⟩
/-- the same without tables -/
theorem FnG.law {P : Program} {w : World} {K : PySem.W.Frag} {mg : Str → Option Value} {base : Heap} {cad : Cad} {x qual : Str} {st : Stmt} {fa : Addr} {fd : FuncData} {N : List Str} {k : Nat} {F : Env' → T Fl} {rest : List Stmt} {ps : Str} {opn : Str} {p1 p2 p3 p4 p5 : Pos} {spO : Sp} {k0 : Bool}
    (Fu : Fun K x qual st fa fd) (S : FnScope N [ps] (defScope st)) (hb0 : defBody st = .Assign [.Name (N.getD 1 ps) p1] (.Call (.Name opn p2) [.Name ps p3] [] p4) p5 :: rest) (hN : 2 ≤ N.length)
    (hTab : ∀ (β : Box) (v : V), boxIs k0 β v → β.tabs = [] → cad.bx β)
    (hO : ∀ vs H Q E, (∃ (a : Addr) (ns : List Int), vs = [.ref a] ∧ SqL K H a (ns.map V.int) ∧ ns.length ≤ 63 ∧ LamX.Tabs [] H ∧ ∀ (β : Box) v H', boxIs k0 β v → β.tabs = [] → β.ok H' → Q v H') → spO vs H Q E)
    (hfirst : ∀ (cdv : Value) (A : Around) (outer : List Env) (s : Shared) (H : Hp) (E : XK), Room k (A.deeper (envOfC qual (defScope st) s.heap.objs.size fa cdv)) → (A.deeper (envOfC qual (defScope st) s.heap.objs.size fa cdv)).guards = some [] →
      PS (bodyX P w K mg base N qual st fa cdv A outer s H E) (.Assign [.Name (N.getD 1 ps) p1] (.Call (.Name opn p2) [.Name ps p3] [] p4) p5) (tAsg (tCallW spO [] (fun _ _ _ _ => False) (tCons (tVar 0) tNil)) (gName 1)))
    (hbody : ∀ (cdv : Value) (A : Around) (outer : List Env) (s : Shared) (H : Hp) (E : XK), Room k (A.deeper (envOfC qual (defScope st) s.heap.objs.size fa cdv)) → (A.deeper (envOfC qual (defScope st) s.heap.objs.size fa cdv)).guards = some [] →
      PSs (bodyX P w K mg base N qual st fa cdv A outer s H E) rest (tS ⟨cad, none, fun c d _ H' => E c d H', fun _ _ _ => True⟩ F))
    (hF : (F ([Sl.no, .box k0] ++ List.replicate (N.length - 2) .no)).run.wp (fun d => d = .bool true) (fun _ => False)) :
    FnG P w K mg base (k + 1) fa fd [ps] (fun vs H Q _ => ∃ (a : Addr) (ns : List Int), vs = [.ref a] ∧ SqL K H a (ns.map V.int) ∧ ns.length ≤ 63 ∧ ∀ H', Q (.bl true) H') :=
  (FnG.lawT (TB := []) Fu S hb0 hN hTab hO hfirst hbody hF).weak fun vs H Q E ⟨a, ns, h1, h2, h3, h4⟩ => ⟨a, ns, h1, h2, h3, (fun _ z => nomatch z), h4⟩
/-- the list of three numbers is made -/
theorem spring_opens {T : List (Addr × Str)} {K : PySem.W.Frag} (vs : List V) (H : Hp) (Q : VK) (E : XK) (h : ∃ (a : Addr) (ns : List Int), vs = [.ref a] ∧ SqL K H a (ns.map V.int) ∧ ns.length ≤ 63 ∧ LamX.Tabs T H ∧ ∀ (β : Box) v H', boxIs false β v → β.tabs = T → β.ok H' → Q v H') : spSpring K vs H Q E := by
  obtain ⟨a, ns, e, hS, _, tb, q⟩ := h
  exact ⟨a, ns, e, hS, fun H' p ok sm => q (tabBox (springBox p) T) _ H' ⟨p, T, rfl, rfl⟩ rfl ⟨ok, tb.ext sm⟩⟩
end Wb

set_option Elab.async false
set_option linter.all false
set_option maxRecDepth 100000
set_option maxHeartbeats 4000000
/-! Wb, part 13: reckoning with trees and data. -/
namespace Wb
open PySem PySem.Spec PyProof.Rows L2

section
variable {α β : Type} {P Q : α → Prop} {E E' : Exn → Prop}
theorem T.le {t : T α} (h : t.wp P noE) (k : ∀ a, P a → Q a) : t.wp Q E := T.wp_mono k (fun _ z => z.elim) t h
theorem T.thn {P : β → Prop} {t : T α} {f : α → T β} (h : t.wp (fun a => (f a).wp P E) E) : (t.bind f).wp P E := (T.wp_bind _ _).mpr h
theorem T.qt : ∀ {t : T α}, t.wp P noE → t.quiet.wp P E
  | .ret _, h => h
  | .draw _ _, h => ⟨h.1, h.2.1, fun i a b => T.qt (h.2.2 i a b)⟩
  | .exc _, h => h.elim
  | .bad, h => h.elim
theorem T.lf {P : Fl → Prop} {t : T α} {ρ : Env'} {k : α → T Fl} (h : t.wp (fun a => (k a).wp P E) (fun x => P (.exc x ρ))) : (t.lift ρ k).wp P E := (T.wp_lift _).mpr h
end
section
variable {P : Fl → Prop} {ρ : Env'} {F G : Env' → T Fl} {f t : Env' → T D} {it : Env' → T (List D)} {bd : D → Env' → Option Env'} {i : Nat}
theorem h_run {P : D → Prop} {E : Exn → Prop} {t : T Fl} (h : t.wp (fun fl => (endF fl).wp P E) noE) : t.run.wp P E := (T.wp_run _).mpr h
theorem h_seq (h : (F ρ).wp (fun fl => (thenS G fl).wp P noE) noE) : (sSeq F G ρ).wp P noE := T.thn h
theorem h_set (h : (f ρ).wp (fun d => P (.nx (ρ.set i (.d d)))) (fun x => P (.exc x ρ))) : (sSet i f ρ).wp P noE := T.lf h
theorem h_ret (h : (f ρ).wp (fun d => P (.ret d)) (fun x => P (.exc x ρ))) : (sRet f ρ).wp P noE := T.lf h
theorem h_if (h : (t ρ).wp (fun d => (onB (F ρ) (G ρ) d).wp P noE) (fun x => P (.exc x ρ))) : (sIf t F G ρ).wp P noE := T.lf h
theorem h_for (h : (it ρ).wp (fun ds => (forGo bd F ds ρ).wp P noE) (fun x => P (.exc x ρ))) : (sFor it bd F ρ).wp P noE := T.lf h
/-- what a turn of a loop must end in -/
def turnF (I : Env' → Prop) (P : Fl → Prop) : Fl → Prop
  | .nx ρ => I ρ
  | .cnt ρ => I ρ
  | .brk ρ => P (.nx ρ)
  | .ret d => P (.ret d)
  | .exc x ρ => P (.exc x ρ)
/-- a loop whose turns keep I -/
theorem h_go (I : Env' → Prop) : ∀ (ds : List D) (ρ : Env'), I ρ → (∀ d ∈ ds, ∀ ρ, I ρ → ∃ ρ1, bd d ρ = some ρ1 ∧ (F ρ1).wp (turnF I P) noE) → (∀ ρ, I ρ → P (.nx ρ)) → (forGo bd F ds ρ).wp P noE
  | [], ρ, h0, _, h2 => h2 ρ h0
  | d :: r, ρ, h0, h1, h2 => by
    obtain ⟨ρ1, e, hw⟩ := h1 d (List.mem_cons_self ..) ρ h0
    unfold forGo
    rw [e]
    refine T.thn (T.wp_mono (fun fl z => ?_) (fun _ z => z) _ hw)
    have rest : ∀ ρ', I ρ' → (forGo bd F r ρ').wp P noE := fun ρ' i' => h_go I r ρ' i' (fun d hd => h1 d (List.mem_cons_of_mem _ hd)) h2
    cases fl with
    | nx ρ' => exact rest ρ' z
    | cnt ρ' => exact rest ρ' z
    | brk ρ' => exact z
    | ret d => exact z
    | exc x ρ' => exact z
end
/-! ### comprehensions -/
section
variable {bd : D → Env' → Option Env'} {t e : Env' → T D} {ρ : Env'} {f : D → D} {p : D → Bool}
/-- each item gives something of its own kind -/
inductive Each (R : D → D → Prop) : List D → List D → Prop
  | nil : Each R [] []
  | cons {d y : D} {ds ys : List D} : R d y → Each R ds ys → Each R (d :: ds) (y :: ys)
theorem Each.length {R : D → D → Prop} : ∀ {ds ys : List D}, Each R ds ys → ys.length = ds.length
  | _, _, .nil => rfl
  | _, _, .cons _ r => by simp [Each.length r]
theorem lc_wp {R : D → D → Prop} {P : List D → Prop} {E : Exn → Prop} : ∀ (ds : List D), (∀ d ∈ ds, ∃ ρ1, bd d ρ = some ρ1 ∧ t ρ1 = .ret (.bool true) ∧ (e ρ1).wp (R d) noE) → (∀ ys, Each R ds ys → P ys) → (lcGo bd t e ρ ds).wp P E
  | [], _, h => h [] .nil
  | d :: r, h1, h => by
    obtain ⟨ρ1, e1, e2, hw⟩ := h1 d (List.mem_cons_self ..)
    unfold lcGo
    rw [e1]
    simp only [e2, T.quiet, T.ret_bind]
    refine T.thn (T.qt (T.le (E := noE) hw fun y hy => ?_))
    refine T.thn (lc_wp (P := fun ys => P (y :: ys)) r (fun d hd => h1 d (List.mem_cons_of_mem _ hd)) fun ys k => h _ (.cons hy k))
theorem lc_map : ∀ (ds : List D), (∀ d ∈ ds, ∃ ρ1, bd d ρ = some ρ1 ∧ t ρ1 = .ret (.bool true) ∧ e ρ1 = .ret (f d)) → lcGo bd t e ρ ds = .ret (ds.map f)
  | [], _ => rfl
  | d :: r, h => by
    obtain ⟨ρ1, e1, e2, e3⟩ := h d (List.mem_cons_self ..)
    unfold lcGo
    rw [e1]
    simp only [e2, e3, T.quiet, T.ret_bind]
    rw [lc_map r fun d hd => h d (List.mem_cons_of_mem _ hd)]
    rfl
theorem lc_filter : ∀ (ds : List D), (∀ d ∈ ds, ∃ ρ1, bd d ρ = some ρ1 ∧ t ρ1 = .ret (.bool (p d)) ∧ e ρ1 = .ret d) → lcGo bd t e ρ ds = .ret (ds.filter p)
  | [], _ => rfl
  | d :: r, h => by
    obtain ⟨ρ1, e1, e2, e3⟩ := h d (List.mem_cons_self ..)
    have ih := lc_filter r fun d hd => h d (List.mem_cons_of_mem _ hd)
    unfold lcGo
    rw [e1]
    simp only [e2, e3, T.quiet, T.ret_bind]
    cases hp : p d with
    | true =>
      simp only [T.ret_bind, ih, List.filter_cons, hp, if_true]
    | false =>
      simp only [ih, List.filter_cons, hp]
      rfl
theorem eLc_ret {vs : List Nat} {it : Env' → T (List D)} {ds ys : List D} (h1 : it ρ = .ret ds) (h2 : ds.length ≤ 1000000) (h3 : lcGo bd t e (wipeE ρ vs) ds = .ret ys) : eLc vs it bd t e ρ = .ret (.list ys) := by
  unfold eLc
  rw [h1]
  simp only [T.ret_bind, h2, if_true, h3]
theorem eLc_wp {vs : List Nat} {it : Env' → T (List D)} {ds : List D} {P : D → Prop} {E : Exn → Prop} (h1 : it ρ = .ret ds) (h2 : ds.length ≤ 1000000) (h3 : (lcGo bd t e (wipeE ρ vs) ds).wp (fun ys => P (.list ys)) E) : (eLc vs it bd t e ρ).wp P E := by
  unfold eLc
  rw [h1]
  simp only [T.ret_bind, h2, if_true]
  exact T.thn h3
end
/-! ### repr -/
def tid (d : D) : Bool := d.leavesShort 60 && d.showable
theorem okRep_of {d : D} (h : tid d = true) (hb : d.bulk ≤ 100000) (hd : d.depth ≤ 60) : okRep d = true := by
  unfold tid at h
  rw [Bool.and_eq_true] at h
  have e := PyData.shown_le_bulk 60 (by decide) d h.1
  unfold okRep
  rw [Bool.and_eq_true, Bool.and_eq_true]
  refine ⟨⟨h.2, decide_eq_true (by omega)⟩, decide_eq_true (by omega)⟩
theorem tid_int {i : Int} (h : i.natAbs < 10 ^ 50) : tid (.int i) = true := by
  unfold tid
  rw [Bool.and_eq_true]
  constructor
  · have e := int_text_length_le10 (a := i) (k := 50) (by decide) h
    unfold PyData.leavesShort
    refine decide_eq_true ?_
    show (Str.ofString (toString i)).length ≤ 60
    rw [PySem.ofString_length]
    omega
  · unfold PyData.showable
    refine decide_eq_true ?_
    by_cases h0 : i.natAbs = 0
    · rw [h0]
      decide
    · refine (Nat.log2_lt h0).mpr (Nat.lt_of_lt_of_le h ?_)
      decide +kernel
theorem tid_list {xs : List D} : tid (.list xs) = xs.all tid := by
  induction xs with
  | nil => rfl
  | cons x r ih =>
    unfold tid at ih ⊢
    simp only [PyData.leavesShort, PyData.leavesShortAll, PyData.showable, PyData.showableAll, List.all_cons] at ih ⊢
    rw [← ih]
    cases x.leavesShort 60 <;> cases x.showable <;> simp
theorem tid_tuple {xs : List D} : tid (.tuple xs) = xs.all tid := by
  rw [← tid_list]
  rfl
end Wb

set_option Elab.async false
set_option linter.all false
set_option maxRecDepth 100000
set_option maxHeartbeats 4000000
/-! Wb, part 14: reckoned out by simp. -/
namespace Wb
open PySem PySem.Spec PyProof.Rows L2

section
variable {α β : Type} {ρ : Env'} {f h k : Env' → T D} {fs : Env' → T (List Ar)} {F G : Env' → T Fl} {x y : D} {i n : Nat} {P : α → Prop} {E : Exn → Prop}
@[simp] theorem T.wp_ret' (a : α) : (T.ret a).wp P E ↔ P a := Iff.rfl
@[simp] theorem T.wp_bad' : (T.bad : T α).wp P E ↔ False := Iff.rfl
@[simp] theorem T.wp_bind'' {P : β → Prop} (t : T α) (g : α → T β) : (t.bind g).wp P E ↔ t.wp (fun a => (g a).wp P E) E := T.wp_bind t g
@[simp] theorem T.wp_lift'' {P : Fl → Prop} (t : T α) (g : α → T Fl) : (t.lift ρ g).wp P E ↔ t.wp (fun a => (g a).wp P E) (fun x => P (.exc x ρ)) := T.wp_lift t
@[simp] theorem T.wp_run'' {P : D → Prop} (t : T Fl) : t.run.wp P E ↔ t.wp (fun fl => (endF fl).wp P E) noE := T.wp_run t
@[simp] theorem ev_C : eC x ρ = .ret x := rfl
@[simp] theorem ev_V0 {r : Env'} : eV 0 (.d x :: r) = .ret x := rfl
@[simp] theorem ev_VS {s : Sl} {r : Env'} : eV (i + 1) (s :: r) = eV i r := rfl
@[simp] theorem ev_un {o : D → T D} : eUn o f ρ = (f ρ).bind o := rfl
@[simp] theorem ev_bin {o : D → D → T D} : eBin o f h ρ = (f ρ).bind fun x => (h ρ).bind fun y => o x y := rfl
def chB (t : T D) : D → T D
  | .bool true => t
  | .bool false => .ret (.bool false)
  | _ => .bad
def orB (t : T D) : D → T D
  | .bool false => t
  | .bool true => .ret (.bool true)
  | _ => .bad
def ifB (t u : T D) : D → T D
  | .bool true => t
  | .bool false => u
  | _ => .bad
@[simp] theorem chB_t {t : T D} : chB t (.bool true) = t := rfl
@[simp] theorem chB_f {t : T D} : chB t (.bool false) = .ret (.bool false) := rfl
@[simp] theorem chB_b {b c : Bool} : chB (.ret (.bool c)) (.bool b) = .ret (.bool (b && c)) := by cases b <;> rfl
@[simp] theorem orB_f {t : T D} : orB t (.bool false) = t := rfl
@[simp] theorem orB_t {t : T D} : orB t (.bool true) = .ret (.bool true) := rfl
@[simp] theorem orB_b {b c : Bool} : orB (.ret (.bool c)) (.bool b) = .ret (.bool (b || c)) := by cases b <;> rfl
@[simp] theorem ifB_t {t u : T D} : ifB t u (.bool true) = t := rfl
@[simp] theorem ifB_f {t u : T D} : ifB t u (.bool false) = u := rfl
@[simp] theorem ev_ch {o o' : D → D → T D} : eCh o o' f h k ρ = (f ρ).bind fun x => (h ρ).bind fun y => (o x y).bind (chB ((k ρ).bind fun w => o' y w)) := rfl
@[simp] theorem ev_and : eAnd f h ρ = (f ρ).bind (chB (h ρ)) := rfl
@[simp] theorem ev_or : eOr f h ρ = (f ρ).bind (orB (h ρ)) := rfl
@[simp] theorem ev_if : eIf k f h ρ = (k ρ).bind (ifB (f ρ) (h ρ)) := rfl
@[simp] theorem ev_nil : aNil ρ = .ret [] := rfl
@[simp] theorem ev_cons : aCons f fs ρ = (f ρ).bind fun d => (fs ρ).bind fun r => .ret (.d d :: r) := rfl
@[simp] theorem ev_box0 {kk : Bool} {r : Env'} : aBox 0 fs (.box kk :: r) = (fs (.box kk :: r)).bind fun s => .ret (.box kk :: s) := rfl
@[simp] theorem ev_box1 {kk : Bool} {s : Sl} {r : Env'} : aBox 1 fs (s :: .box kk :: r) = (fs (s :: .box kk :: r)).bind fun q => .ret (.box kk :: q) := rfl
@[simp] theorem ev_cb {o : List Ar → T D} : eCb o fs ρ = (fs ρ).bind o := rfl
@[simp] theorem ev_call {m : List Ar → T D} : eCall n m fs ρ = (fs ρ).bind fun as => if as.length = n then m as else .bad := rfl
def mkTup : Option (List D) → T D
  | some ds => if ds.length ≤ 1000000 then .ret (.tuple ds) else .bad
  | none => .bad
def mkLst : Option (List D) → T D
  | some ds => if ds.length ≤ 1000000 then .ret (.list ds) else .bad
  | none => .bad
@[simp] theorem mkTup_s {ds : List D} : mkTup (some ds) = if ds.length ≤ 1000000 then .ret (.tuple ds) else .bad := rfl
@[simp] theorem mkLst_s {ds : List D} : mkLst (some ds) = if ds.length ≤ 1000000 then .ret (.list ds) else .bad := rfl
@[simp] theorem ev_tup : eTup fs ρ = (fs ρ).bind fun as => mkTup (dsOf as) := rfl
@[simp] theorem ev_lst : eLst fs ρ = (fs ρ).bind fun as => mkLst (dsOf as) := rfl
@[simp] theorem dsOf_n : dsOf [] = some [] := rfl
@[simp] theorem dsOf_c {r : List Ar} : dsOf (.d x :: r) = (dsOf r).map (x :: ·) := rfl
@[simp] theorem ev_o1 {o : D → T D} : o1 o [.d x] = o x := rfl
@[simp] theorem ev_o2 {o : D → D → T D} : o2 o [.d x, .d y] = o x y := rfl
@[simp] theorem ev_pn : pNone ρ = .ret none := rfl
def toI : D → T (Option Int)
  | .int i => .ret (some i)
  | _ => .bad
@[simp] theorem toI_i {z : Int} : toI (.int z) = .ret (some z) := rfl
@[simp] theorem ev_ps : pSome f ρ = (f ρ).bind toI := rfl
@[simp] theorem ev_sl {l u : Env' → T (Option Int)} : eSl f l u ρ = (f ρ).bind fun x => (l ρ).bind fun lo => (u ρ).bind fun hi => oSl x lo hi := rfl
def itemsD : D → T (List D)
  | .list ds => .ret ds
  | .tuple ds => .ret ds
  | _ => .bad
@[simp] theorem itemsD_l {ds : List D} : itemsD (.list ds) = .ret ds := rfl
@[simp] theorem itemsD_t {ds : List D} : itemsD (.tuple ds) = .ret ds := rfl
@[simp] theorem ev_seq : iSeq f ρ = (f ρ).bind itemsD := rfl
@[simp] theorem ev_arg {o : List Ar → T (List D)} : iArg o fs ρ = (fs ρ).bind o := rfl
@[simp] theorem ev_lenL {xs : List D} : oLen [.d (.list xs)] = .ret (.int xs.length) := rfl
@[simp] theorem ev_lenT {xs : List D} : oLen [.d (.tuple xs)] = .ret (.int xs.length) := rfl
@[simp] theorem ev_start {as : List Ar} : startE n as = as.map arSl ++ List.replicate (n - as.length) .no := rfl
@[simp] theorem ev_arD : arSl (.d x) = .d x := rfl
@[simp] theorem ev_arB {b : Bool} : arSl (.box b) = .box b := rfl
@[simp] theorem ev_mk {as : List Ar} : mkDef n F as = (F (startE n as)).run := rfl
@[simp] theorem ev_Seq : sSeq F G ρ = (F ρ).bind (thenS G) := rfl
@[simp] theorem ev_Set : sSet i f ρ = (f ρ).lift ρ fun d => .ret (.nx (ρ.set i (.d d))) := rfl
@[simp] theorem ev_Ret : sRet f ρ = (f ρ).lift ρ fun d => .ret (.ret d) := rfl
@[simp] theorem ev_Nil : sNil ρ = .ret (.nx ρ) := rfl
@[simp] theorem ev_Brk : sBrk ρ = .ret (.brk ρ) := rfl
@[simp] theorem ev_Cnt : sCnt ρ = .ret (.cnt ρ) := rfl
@[simp] theorem ev_If : sIf k F G ρ = (k ρ).lift ρ (onB (F ρ) (G ρ)) := rfl
@[simp] theorem onB_t {t u : T Fl} : onB t u (.bool true) = t := rfl
@[simp] theorem onB_f {t u : T Fl} : onB t u (.bool false) = u := rfl
@[simp] theorem th_nx : thenS G (.nx ρ) = G ρ := rfl
@[simp] theorem th_ret : thenS G (.ret x) = .ret (.ret x) := rfl
@[simp] theorem th_brk : thenS G (.brk ρ) = .ret (.brk ρ) := rfl
@[simp] theorem th_cnt : thenS G (.cnt ρ) = .ret (.cnt ρ) := rfl
@[simp] theorem th_exc {e : Exn} : thenS G (.exc e ρ) = .ret (.exc e ρ) := rfl
@[simp] theorem en_nx : endF (.nx ρ) = .ret .none := rfl
@[simp] theorem en_ret : endF (.ret x) = .ret x := rfl
@[simp] theorem en_exc {e : Exn} : endF (.exc e ρ) = .exc e := rfl
@[simp] theorem ev_For {it : Env' → T (List D)} {bd : D → Env' → Option Env'} : sFor it bd F ρ = (it ρ).lift ρ fun ds => forGo bd F ds ρ := rfl
def twoN (i j : Nat) (ρ : Env') : List Ar → T Fl
  | [.d x, .d y] => .ret (.nx ((ρ.set i (.d x)).set j (.d y)))
  | _ => .bad
@[simp] theorem twoN_2 {j : Nat} : twoN i j ρ [.d x, .d y] = .ret (.nx ((ρ.set i (.d x)).set j (.d y))) := rfl
@[simp] theorem ev_Par {j : Nat} : sPar i j fs ρ = (fs ρ).lift ρ (twoN i j ρ) := rfl
@[simp] theorem ev_Raise {c fl : Str} : sRaise1 c fl f ρ = (f ρ).lift ρ fun d => .ret (.exc ⟨c, [(fl, d)]⟩ ρ) := rfl
@[simp] theorem ev_bName : bName i x ρ = some (ρ.set i (.d x)) := rfl
@[simp] theorem ev_wn : wipeE ρ [] = ρ := rfl
@[simp] theorem ev_wc {v : Nat} {vs : List Nat} : wipeE ρ (v :: vs) = (wipeE ρ vs).set v .no := rfl
@[simp] theorem ev_bT {is : List Nat} {ds : List D} : bTup is (.tuple ds) ρ = bNames is ds ρ := rfl
@[simp] theorem ev_bn0 : bNames [] [] ρ = some ρ := rfl
@[simp] theorem ev_bnS {is : List Nat} {ds : List D} : bNames (i :: is) (x :: ds) ρ = bNames is ds (ρ.set i (.d x)) := rfl
@[simp] theorem ev_zipT {xs ys : List D} : oZip [.d (.tuple xs), .d (.tuple ys)] = .ret ((xs.zip ys).map fun p => .tuple [p.1, p.2]) := rfl
@[simp] theorem ev_zipL {xs ys : List D} : oZip [.d (.list xs), .d (.list ys)] = .ret ((xs.zip ys).map fun p => .tuple [p.1, p.2]) := rfl
theorem sum_ints (ns : List Int) : oSum (.list (ns.map PyData.int)) = .ret (.int ns.sum) := by
  show (match intsOf (ns.map PyData.int) with
    | some ns => T.ret (PyData.int ns.sum)
    | none => .bad) = _
  rw [intsOf_map]
theorem mul_ints {a b : Int} (h : a.natAbs < 18446744073709551616) : oMul (.int a) (.int b) = .ret (.int (a * b)) := by
  show (if cMul a b = true then T.ret (PyData.int (a * b)) else .bad) = _
  unfold cMul
  simp [h]
theorem mul_ints' {a b : Int} (h : b.natAbs < 18446744073709551616) : oMul (.int a) (.int b) = .ret (.int (a * b)) := by
  show (if cMul a b = true then T.ret (PyData.int (a * b)) else .bad) = _
  unfold cMul
  simp [h]
@[simp] theorem wp_draw' {m : Int} {g : Int → T α} : (T.draw m g).wp P E ↔ 0 < m ∧ m < 1073741824 ∧ ∀ i, 0 ≤ i → i < m → (g i).wp P E := Iff.rfl
@[simp] theorem ev_dip {m : Int} : mDip [.box false, .d (.int m)] = .draw m fun i => .ret (.int i) := rfl
theorem ix_at {xs : List D} {j : Nat} {d : D} (h : xs[j]? = some d) : oIx (.list xs) (.int (j : Nat)) = .ret d := by
  show (match atI xs (j : Nat) with
    | some d => T.ret d
    | none => .bad) = _
  rw [atI_nat h]
theorem ixT_at {xs : List D} {j : Nat} {d : D} (h : xs[j]? = some d) : oIx (.tuple xs) (.int (j : Nat)) = .ret d := by
  show (match atI xs (j : Nat) with
    | some d => T.ret d
    | none => .bad) = _
  rw [atI_nat h]
/-- an item that is drawn -/
theorem drawn_item {xs : List D} {P : D → Prop} {i : Int} (h : ∀ x ∈ xs, P x) (h0 : 0 ≤ i) (h1 : i < xs.length) : (oIx (.list xs) (.int i)).wp P E := by
  obtain ⟨j, rfl⟩ : ∃ j : Nat, i = j := ⟨i.toNat, by omega⟩
  have hj : j < xs.length := by omega
  rw [ix_at (List.getElem?_eq_getElem hj)]
  exact h _ (List.getElem_mem hj)
@[simp] theorem ev_slT {xs : List D} {lo hi : Option Int} : oSl (.tuple xs) lo hi = .ret (.tuple (cutD xs lo hi)) := rfl
@[simp] theorem ev_slL {xs : List D} {lo hi : Option Int} : oSl (.list xs) lo hi = .ret (.list (cutD xs lo hi)) := rfl
theorem cutD_len (xs : List D) (lo hi : Option Int) : (cutD xs lo hi).length ≤ xs.length := by
  unfold cutD
  rw [List.length_take, List.length_drop]
  omega
theorem cutD_mem {xs : List D} {lo hi : Option Int} {x : D} (h : x ∈ cutD xs lo hi) : x ∈ xs := by
  unfold cutD at h
  exact List.mem_of_mem_drop (List.mem_of_mem_take h)
@[simp] theorem ev_true : tTrue ρ = .ret (.bool true) := rfl
def tryB (i : Nat) (cm : Str → Option Bool) (G : Env' → T Fl) : Fl → T Fl
  | .exc x ρ' => match cm x.cls with
    | some true => (G (ρ'.set i (.ex x))).bind (afterX i)
    | some false => .ret (.exc x ρ')
    | none => .bad
  | .nx ρ' => .ret (.nx ρ')
  | .ret d => .ret (.ret d)
  | .brk ρ' => .ret (.brk ρ')
  | .cnt ρ' => .ret (.cnt ρ')
@[simp] theorem ev_Try {cm : Str → Option Bool} : sTry i cm F G ρ = (F ρ).bind (tryB i cm G) := rfl
@[simp] theorem ty_nx {cm : Str → Option Bool} : tryB i cm G (.nx ρ) = .ret (.nx ρ) := rfl
@[simp] theorem ty_ret {cm : Str → Option Bool} : tryB i cm G (.ret x) = .ret (.ret x) := rfl
theorem ty_exc {cm : Str → Option Bool} {e : Exn} (h : cm e.cls = some true) : tryB i cm G (.exc e ρ) = (G (ρ.set i (.ex e))).bind (afterX i) := by
  show (match cm e.cls with
    | some true => (G (ρ.set i (.ex e))).bind (afterX i)
    | some false => .ret (.exc e ρ)
    | none => .bad) = _
  rw [h]
theorem ty_thru {cm : Str → Option Bool} {e : Exn} (h : cm e.cls = some false) : tryB i cm G (.exc e ρ) = .ret (.exc e ρ) := by
  show (match cm e.cls with
    | some true => (G (ρ.set i (.ex e))).bind (afterX i)
    | some false => .ret (.exc e ρ)
    | none => .bad) = _
  rw [h]
@[simp] theorem ax_nx : afterX i (.nx ρ) = .ret (.nx (clrE (ρ.set i .no))) := rfl
@[simp] theorem ax_ret : afterX i (.ret x) = .ret (.ret x) := rfl
@[simp] theorem cl_n : clrE [] = [] := rfl
@[simp] theorem cl_c {s : Sl} {r : Env'} : clrE (s :: r) = clrS s :: clrE r := rfl
@[simp] theorem cs_d : clrS (.d x) = .d x := rfl
@[simp] theorem cs_n : clrS .no = .no := rfl
@[simp] theorem cs_b {b : Bool} : clrS (.box b) = .box b := rfl
@[simp] theorem cs_o {xs : List D} : clrS (.own xs) = .own xs := rfl
@[simp] theorem fl_S {c fl : Str} {s : Sl} {r : Env'} : eFld (i + 1) c fl (s :: r) = eFld i c fl r := rfl
@[simp] theorem fl_0 {c fl : Str} {r : Env'} : eFld 0 c fl (.ex ⟨c, [(fl, x)]⟩ :: r) = .ret x := by
  unfold eFld
  simp
def againW (t : Env' → T D) (F : Env' → T Fl) (n : Nat) : Fl → T Fl
  | .nx ρ' => whGo t F n ρ'
  | .cnt ρ' => whGo t F n ρ'
  | .brk ρ' => .ret (.nx ρ')
  | .ret d => .ret (.ret d)
  | .exc x ρ' => .ret (.exc x ρ')
@[simp] theorem ag_nx : againW k F n (.nx ρ) = whGo k F n ρ := rfl
@[simp] theorem ag_cnt : againW k F n (.cnt ρ) = whGo k F n ρ := rfl
@[simp] theorem ag_brk : againW k F n (.brk ρ) = .ret (.nx ρ) := rfl
@[simp] theorem ag_ret : againW k F n (.ret x) = .ret (.ret x) := rfl
@[simp] theorem ag_exc {e : Exn} : againW k F n (.exc e ρ) = .ret (.exc e ρ) := rfl
@[simp] theorem ev_While : sWhile n k F ρ = whGo k F n ρ := rfl
theorem wh_S : whGo k F (n + 1) ρ = (k ρ).lift ρ (onB ((F ρ).bind (againW k F n)) (.ret (.nx ρ))) := rfl
theorem eq_ints (a b : Int) : oEq (.int a) (.int b) = .ret (.bool (decide (a = b))) := by
  have e : oEq (.int a) (.int b) = .ret (.bool (a == b)) := rfl
  rw [e]
  congr 2
theorem ne_ints (a b : Int) : oNe (.int a) (.int b) = .ret (.bool (!decide (a = b))) := by
  have e : oNe (.int a) (.int b) = .ret (.bool (!(a == b))) := rfl
  rw [e]
  congr 3
@[simp] theorem ev_not {b : Bool} : oNot (.bool b) = .ret (.bool (!b)) := rfl
@[simp] theorem ev_neg {z : Int} : oNeg (.int z) = .ret (.int (-z)) := rfl
@[simp] theorem ev_abs {z : Int} : oAbs (.int z) = .ret (.int (if z < 0 then -z else z)) := rfl
@[simp] theorem ev_int {z : Int} : oInt (.int z) = .ret (.int z) := rfl
@[simp] theorem ev_intb {b : Bool} : oInt (.bool b) = .ret (.int (if b = true then 1 else 0)) := rfl
@[simp] theorem ev_toL {xs : List D} : oTupleOf (.list xs) = .ret (.tuple xs) := rfl
@[simp] theorem ev_toT {xs : List D} : oTupleOf (.tuple xs) = .ret (.tuple xs) := rfl
@[simp] theorem ev_loL {xs : List D} : oListOf (.list xs) = .ret (.list xs) := rfl
@[simp] theorem ev_loT {xs : List D} : oListOf (.tuple xs) = .ret (.list xs) := rfl
@[simp] theorem ev_i2 {C : Int → Int → Bool} {hh : Int → Int → D} {a b : Int} : oInt2 C hh (.int a) (.int b) = if C a b = true then .ret (hh a b) else .bad := rfl
@[simp] theorem ev_add {a b : Int} : oAdd (.int a) (.int b) = .ret (.int (a + b)) := rfl
@[simp] theorem ev_addT {xs ys : List D} : oAdd (.tuple xs) (.tuple ys) = if xs.length + ys.length ≤ 1000000 then .ret (.tuple (xs ++ ys)) else .bad := rfl
@[simp] theorem ev_addL {xs ys : List D} : oAdd (.list xs) (.list ys) = if xs.length + ys.length ≤ 1000000 then .ret (.list (xs ++ ys)) else .bad := rfl
@[simp] theorem isa_int_int {z : Int} : isaD "int" (.int z) = true := rfl
@[simp] theorem isa_bool_int {z : Int} : isaD "bool" (.int z) = false := rfl
@[simp] theorem isa_tup_tup {xs : List D} : isaD "tuple" (.tuple xs) = true := rfl
end
end Wb

set_option Elab.async false
set_option linter.all false
set_option maxRecDepth 100000
set_option maxHeartbeats 4000000
/-! Wb, part 15: data of a bounded depth and bulk. -/
namespace Wb
open PySem PySem.Spec PyProof.Rows L2

/-- data without dicts, to be shown and compared, of depth k and bulk b at most -/
structure Fine (k b : Nat) (d : D) : Prop where
  tid : tid d = true
  nod : d.hasDict = false
  lay : d.canLay0 = true
  dep : d.depth ≤ k
  blk : d.bulk ≤ b
theorem Fine.mono {k b k' b' : Nat} {d : D} (h : Fine k b d) (hk : k ≤ k') (hb : b ≤ b') : Fine k' b' d := ⟨h.tid, h.nod, h.lay, Nat.le_trans h.dep hk, Nat.le_trans h.blk hb⟩
def fineB (k b : Nat) (d : D) : Bool := tid d && !d.hasDict && d.canLay0 && decide (d.depth ≤ k) && decide (d.bulk ≤ b)
theorem fine_by {k b : Nat} {d : D} (h : fineB k b d = true) : Fine k b d := by
  unfold fineB at h
  simp only [Bool.and_eq_true, decide_eq_true_eq, Bool.not_eq_true'] at h
  exact ⟨h.1.1.1.1, h.1.1.1.2, h.1.1.2, h.1.2, h.2⟩
theorem fine_int {i : Int} (h : i.natAbs < 10 ^ 50) : Fine 0 0 (.int i) := ⟨tid_int h, rfl, rfl, Nat.le_refl _, Nat.le_refl _⟩
theorem fine_bool {b : Bool} : Fine 0 0 (.bool b) := ⟨rfl, rfl, rfl, Nat.le_refl _, Nat.le_refl _⟩
theorem fine_none : Fine 0 0 .none := ⟨rfl, rfl, rfl, Nat.le_refl _, Nat.le_refl _⟩
theorem fine_all {k b : Nat} : ∀ {xs : List D}, (∀ x ∈ xs, Fine k b x) → xs.all tid = true ∧ PyData.hasDictAll xs = false ∧ PyData.canLayAll0 xs = true ∧ PyData.depthAll xs ≤ k ∧ PyData.bulkAll xs ≤ (b + 1) * xs.length
  | [], _ => by simp [PyData.hasDictAll, PyData.canLayAll0, PyData.depthAll, PyData.bulkAll]
  | x :: r, h => by
    have hx := h x (List.mem_cons_self ..)
    obtain ⟨r1, r2, r3, r4, r5⟩ := fine_all fun y hy => h y (List.mem_cons_of_mem _ hy)
    have e : (b + 1) * (r.length + 1) = (b + 1) * r.length + (b + 1) := by rw [Nat.mul_add, Nat.mul_one]
    have h5 := hx.blk
    have h4 := hx.dep
    simp only [List.all_cons, PyData.hasDictAll, PyData.canLayAll0, PyData.depthAll, PyData.bulkAll, hx.tid, hx.nod, hx.lay, r1, r2, r3, List.length_cons]
    refine ⟨rfl, rfl, rfl, ?_, ?_⟩ <;> omega
theorem fine_tuple {k b n : Nat} {xs : List D} (h : ∀ x ∈ xs, Fine k b x) (hn : xs.length ≤ n) : Fine (k + 1) ((b + 1) * n) (.tuple xs) := by
  obtain ⟨r1, r2, r3, r4, r5⟩ := fine_all h
  have := Nat.mul_le_mul_left (b + 1) hn
  refine ⟨by rw [tid_tuple]; exact r1, by simp only [PyData.hasDict]; exact r2, by simp only [PyData.canLay0]; exact r3, by simp only [PyData.depth]; omega, by simp only [PyData.bulk]; omega⟩
theorem fine_list {k b n : Nat} {xs : List D} (h : ∀ x ∈ xs, Fine k b x) (hn : xs.length ≤ n) : Fine (k + 1) ((b + 1) * n) (.list xs) := by
  obtain ⟨r1, r2, r3, r4, r5⟩ := fine_all h
  have := Nat.mul_le_mul_left (b + 1) hn
  refine ⟨by rw [tid_list]; exact r1, by simp only [PyData.hasDict]; exact r2, by simp only [PyData.canLay0]; exact r3, by simp only [PyData.depth]; omega, by simp only [PyData.bulk]; omega⟩
theorem Fine.eq {k b : Nat} {d : D} (h : Fine k b d) (hk : k ≤ 64) : cEq d = true := by
  unfold cEq SeqAt.shaped
  rw [h.nod, h.lay]
  simp only [Bool.not_false, Bool.true_and]
  exact decide_eq_true (Nat.le_trans h.dep hk)
theorem Fine.rep {k b : Nat} {d : D} (h : Fine k b d) (hk : k ≤ 60) (hb : b ≤ 100000) : okRep d = true := okRep_of h.tid (Nat.le_trans h.blk hb) (Nat.le_trans h.dep hk)
theorem repr_eq {d : D} (h : okRep d = true) : oRepr d = .ret (.str d.shown) := if_pos h
theorem ne_str {x y : Str} : oNe (.str x) (.str y) = .ret (.bool (!(x == y))) := rfl
theorem eq_str {x y : Str} : oEq (.str x) (.str y) = .ret (.bool (x == y)) := rfl
theorem eq_fine {x y : D} (h : cEq x = true) (h' : cEq y = true) : oEq x y = .ret (.bool (PyData.eqv x y)) := by
  unfold oEq
  rw [h, h', Bool.and_self, Bool.or_true]
  rfl
theorem ne_fine {x y : D} (h : cEq x = true) (h' : cEq y = true) : oNe x y = .ret (.bool (!PyData.eqv x y)) := by
  unfold oNe
  rw [h, h', Bool.and_self, Bool.or_true]
  rfl
end Wb

set_option Elab.async false
set_option linter.all false
set_option maxRecDepth 100000
set_option maxHeartbeats 4000000
/-! Wb, part 16: x in a list. -/
namespace Wb
open PySem PySem.Spec PyProof.Rows L2

theorem un65 {A : Around} {k : Nat} (h : Room k A) : A.units + 65 < cLine := by
  have := h.un
  omega
def oIn (x y : D) : T D := match y with
  | .list ds => if (cEq x && cEq (.list ds)) = true then .ret (.bool (ds.any fun z => PyData.eqv z x)) else .bad
  | _ => .bad
def oNotIn (x y : D) : T D := match y with
  | .list ds => if (cEq x && cEq (.list ds)) = true then .ret (.bool (!ds.any fun z => PyData.eqv z x)) else .bad
  | _ => .bad
theorem d_in {K : PySem.W.Frag} : OpD (rInD K) oIn := by
  intro β H0 H v w x y Q E e ok bf hv hw q
  cases y with
  | list ds =>
    have q : (if (cEq x && cEq (.list ds)) = true then T.ret (PyData.bool (ds.any fun z => PyData.eqv z x)) else .bad).wp (Out β H0 H Q) E := q
    split at q
    · next c =>
      rw [Bool.and_eq_true] at c
      obtain ⟨a1, a2⟩ := cEq_of c.1
      obtain ⟨b1, b2⟩ := cEq_of c.2
      exact ⟨x, ds, hv.dp e a1, hw.dp e b1, a2, b2, out_ret e ok bf (.bl _) q⟩
    · exact q.elim
  | _ => exact q.elim
theorem d_notIn {K : PySem.W.Frag} : OpD (rNotInD K) oNotIn := by
  intro β H0 H v w x y Q E e ok bf hv hw q
  cases y with
  | list ds =>
    have q : (if (cEq x && cEq (.list ds)) = true then T.ret (PyData.bool (!ds.any fun z => PyData.eqv z x)) else .bad).wp (Out β H0 H Q) E := q
    split at q
    · next c =>
      rw [Bool.and_eq_true] at c
      obtain ⟨a1, a2⟩ := cEq_of c.1
      obtain ⟨b1, b2⟩ := cEq_of c.2
      exact ⟨x, ds, hv.dp e a1, hw.dp e b1, a2, b2, out_ret e ok bf (.bl _) q⟩
    · exact q.elim
  | _ => exact q.elim
end Wb

set_option Elab.async false
set_option linter.all false
set_option maxRecDepth 100000
set_option maxHeartbeats 4000000
/-! Wb, part 17: the source of draws that is a dict of two lists and a number. -/
namespace Wb
open PySem PySem.Spec PyProof.Rows L2

/-- the draw -/
def mDraw : List Ar → T D
  | [.box true, .d (.int m)] => .draw m fun i => .ret (.int i)
  | _ => .bad
@[simp] theorem ev_draw {m : Int} : mDraw [.box true, .d (.int m)] = .draw m fun i => .ret (.int i) := rfl
abbrev rAdd0 : R2 := rI0 fun i j => .int (i + j)
abbrev rMulC : R2 := rI CMul fun i j => .int (i * j)
abbrev rFdv : R2 := rI CDivN fun i j => .int (i.fdiv j)
abbrev dGt (n : Str) : TE := tDGet (tVar 0) (tC (.str n))
abbrev tI1 (b : Bool) (t : TE) : TE := if b then tCB rInt1 (tCons t tNil) else t
abbrev lastG (K : PySem.W.Frag) : TE := tOp (rIxL K) (tVar 2) (tUn (rU fun i => .int (-i)) (tC (.int 1)))
abbrev kGreat : Key := .inr "great"
abbrev kSmall : Key := .inr "small"
abbrev kTurn : Key := .inr "turn"
/-- the state of the source -/
structure DictAt (b gr sm : Addr) (gs ss : List Int) (t : Int) (H : Hp) : Prop where
  hb : H b = some (.dK [(kGreat, .ref gr), (kSmall, .ref sm), (kTurn, .int t)])
  hg : H gr = some (.lst (gs.map V.int))
  hs : H sm = some (.lst (ss.map V.int))
  g0 : ∀ x ∈ gs, 0 ≤ x
  s0 : ∀ x ∈ ss, 0 ≤ x ∧ x < 1000000000000000000
  ne : ss ≠ []
  t0 : 0 ≤ t
  gl : gs.length ≤ 64
  sl : ss.length ≤ 64
  apart : gr ≠ sm
theorem DictAt.ok {b gr sm : Addr} {gs ss : List Int} {t : Int} {H : Hp} (h : DictAt b gr sm gs ss t H) : dictOk b gr sm H := ⟨gs, ss, t, h.hb, h.hg, h.hs, h.g0, h.s0, h.ne, h.t0, h.gl, h.sl, h.apart⟩
theorem DictAt.of {b gr sm : Addr} {H : Hp} (h : dictOk b gr sm H) : ∃ gs ss t, DictAt b gr sm gs ss t H := by
  obtain ⟨gs, ss, t, h1, h2, h3, h4, h5, h6, h7, h8, h9, h10⟩ := h
  exact ⟨gs, ss, t, h1, h2, h3, h4, h5, h6, h7, h8, h9, h10⟩
section
variable {b gr sm : Addr} {gs ss : List Int} {t : Int} {H : Hp}
theorem DictAt.bg (h : DictAt b gr sm gs ss t H) : b ≠ gr := fun e => by
  have := h.hb
  rw [e, h.hg] at this
  cases this
theorem DictAt.bs (h : DictAt b gr sm gs ss t H) : b ≠ sm := fun e => by
  have := h.hb
  rw [e, h.hs] at this
  cases this
theorem DictAt.great (h : DictAt b gr sm gs ss t H) : DGet H b (.str "great") (some (.ref gr)) := DGet.k (k := kGreat) h.hb
theorem DictAt.small (h : DictAt b gr sm gs ss t H) : DGet H b (.str "small") (some (.ref sm)) := DGet.k (k := kSmall) h.hb
theorem DictAt.turn (h : DictAt b gr sm gs ss t H) : DGet H b (.str "turn") (some (.int t)) := DGet.k (k := kTurn) h.hb
/-- the list of the great ones is changed -/
theorem DictAt.setG {gs' : List Int} (h : DictAt b gr sm gs ss t H) (h0 : ∀ x ∈ gs', 0 ≤ x) (hl : gs'.length ≤ 64) : DictAt b gr sm gs' ss t (upd H gr (.lst (gs'.map V.int))) := by
  refine ⟨?_, upd_same, ?_, h0, h.s0, h.ne, h.t0, hl, h.sl, h.apart⟩
  · rw [upd_ne h.bg]
    exact h.hb
  · rw [upd_ne (Ne.symm h.apart)]
    exact h.hs
/-- the number of turns is changed -/
theorem DictAt.setT {t' : Int} (h : DictAt b gr sm gs ss t H) (h0 : 0 ≤ t') : DictAt b gr sm gs ss t' (upd H b (.dK [(kGreat, .ref gr), (kSmall, .ref sm), (kTurn, .int t')])) := by
  refine ⟨upd_same, ?_, ?_, h.g0, h.s0, h.ne, h0, h.gl, h.sl, h.apart⟩
  · rw [upd_ne (Ne.symm h.bg)]
    exact h.hg
  · rw [upd_ne (Ne.symm h.bs)]
    exact h.hs
theorem DictAt.put {t' : Int} (h : DictAt b gr sm gs ss t H) : DPut H b (.str "turn") (.int t') (upd H b (.dK [(kGreat, .ref gr), (kSmall, .ref sm), (kTurn, .int t')])) := DPut.k (k := kTurn) h.hb (lim_line (n := 4) (by decide))
/-- new objects elsewhere -/
theorem DictAt.away {H' : Hp} (h : DictAt b gr sm gs ss t H) (k : ∀ a, H a ≠ none → H' a = H a) : DictAt b gr sm gs ss t H' := by
  refine ⟨?_, ?_, ?_, h.g0, h.s0, h.ne, h.t0, h.gl, h.sl, h.apart⟩
  · rw [k b (by rw [h.hb]; exact fun z => nomatch z)]
    exact h.hb
  · rw [k gr (by rw [h.hg]; exact fun z => nomatch z)]
    exact h.hg
  · rw [k sm (by rw [h.hs]; exact fun z => nomatch z)]
    exact h.hs
end
/-- the source alone is changed -/
theorem Stp.dict {b gr sm : Addr} {T : List (Addr × Str)} {H0 H H' : Hp} (e : Same H0 H) (o0 : (tabBox (dictBox b gr sm) T).ok H) (bf : ∀ a, (tabBox (dictBox b gr sm) T).S a → H0 a = none) (k : ∀ a, a ≠ b → a ≠ gr → a ≠ sm → H a ≠ none → H' a = H a) (ok : dictOk b gr sm H') : Stp (tabBox (dictBox b gr sm) T) H0 H H0 H' := by
  obtain ⟨⟨gs, ss, t, h1, h2, h3, _⟩, tb⟩ := o0
  have kt : ∀ a o, H a = some o → (∀ xs, o ≠ .lst xs) → (∀ xs, o ≠ .dK xs) → H' a = some o := fun a o h n1 n2 => by
    rw [k a (fun z => by rw [z, h1] at h; exact n2 _ (Option.some.inj h).symm) (fun z => by rw [z, h2] at h; exact n1 _ (Option.some.inj h).symm) (fun z => by rw [z, h3] at h; exact n1 _ (Option.some.inj h).symm) (by rw [h]; exact fun z => nomatch z)]
    exact h
  refine ⟨fun _ _ h => h, fun a o h => ?_, ⟨ok, fun q hq => ?_⟩, bf, fun q o h n => ⟨n, fun ns => ?_⟩⟩
  · have n1 : a ≠ b := fun z => by
      rw [bf a (.inl (.inl z))] at h
      cases h
    have n2 : a ≠ gr := fun z => by
      rw [bf a (.inl (.inr (.inl z)))] at h
      cases h
    have n3 : a ≠ sm := fun z => by
      rw [bf a (.inl (.inr (.inr z)))] at h
      cases h
    have h' := e a o h
    rw [k a n1 n2 n3 (by rw [h']; exact fun z => nomatch z)]
    exact h'
  · obtain ⟨ps, e1, e2, e3⟩ := tb q hq
    refine ⟨ps, kt _ _ e1 (fun _ z => nomatch z) (fun _ z => nomatch z), e2, fun pos cv hc => ?_⟩
    obtain ⟨c, z1, z2⟩ := e3 pos cv hc
    exact ⟨c, z1, kt _ _ z2 (fun _ z => by unfold LamX.CodeO at z; cases z) (fun _ z => by unfold LamX.CodeO at z; cases z)⟩
  · rw [k q (fun z => ns (.inl (.inl z))) (fun z => ns (.inl (.inr (.inl z)))) (fun z => ns (.inl (.inr (.inr z)))) (by rw [h]; exact fun z => nomatch z)]
    exact h
theorem ints_shaped (gs : List Int) : SeqAt.shaped (.list (gs.map PyData.int)) = true := by
  have h : ∀ l : List Int, PyData.canLayAll0 (l.map PyData.int) = true ∧ PyData.depthAll (l.map PyData.int) = 0 := fun l => by
    induction l with
    | nil => exact ⟨by simp [PyData.canLayAll0], by simp [PyData.depthAll]⟩
    | cons x r ih =>
      refine ⟨?_, ?_⟩
      · simp only [List.map_cons, PyData.canLayAll0, PyData.canLay0, ih.1, Bool.and_self]
      · simp only [List.map_cons, PyData.depthAll, PyData.depth, ih.2, Nat.max_self]
  unfold SeqAt.shaped
  simp only [PyData.canLay0, PyData.depth, (h gs).1, (h gs).2, Bool.true_and]
  decide
theorem ints_dp {K : PySem.W.Frag} {H : Hp} : ∀ gs : List Int, DpAll K H (gs.map V.int) (gs.map PyData.int)
  | [] => .nil
  | g :: r => .cons (.int g) (ints_dp r)
theorem eqvAll_nil' : ∀ xs : List D, PyData.eqvAll xs [] = xs.isEmpty
  | [] => by simp [PyData.eqvAll]
  | _ :: _ => by simp [PyData.eqvAll]
theorem last_ix {gs : List Int} {x : Int} (h : gs.getLast? = some x) : atI (gs.map V.int) (-1) = some (.int x) ∧ ixN (gs.map V.int).length (-1) = some (gs.length - 1) ∧ (gs.map V.int)[(gs.map V.int).length - 1]? = some (.int x) := by
  have hl : 0 < gs.length := by
    cases gs with
    | nil => cases h
    | cons a r => simp
  have e0 : ixN (gs.map V.int).length (-1) = some (gs.length - 1) := by
    unfold ixN
    rw [if_neg (by decide), if_pos (by rw [List.length_map]; omega), List.length_map]
    congr 1
    omega
  have e1 : (gs.map V.int)[gs.length - 1]? = some (.int x) := by
    rw [List.getElem?_map]
    rw [List.getLast?_eq_getElem?] at h
    rw [h]
    rfl
  refine ⟨?_, e0, ?_⟩
  · unfold atI
    rw [e0]
    exact e1
  · rw [List.length_map]
    exact e1

abbrev rLenS (K : PySem.W.Frag) : List V → Hp → VK → Prop := fun xs H Q => ∃ p ys, xs = [.ref p] ∧ (SqL K H p ys ∨ SqT K H p ys) ∧ Q (.int ys.length) H
def tDraw (K : PySem.W.Frag) (w : Bool) (rest : TS) : TS :=
  tSeq (tAsg (dGt "great") (gName 2))
  (tSeq (tWhile (tTest (tOp (rNeD K) (tVar 2) (tLst tNil)))
      (tSeq (tIfS (tTest (tOp (rI0 fun i j => .bl (decide (j < i))) (lastG K) (tC (.int 0))))
          (tSeq (tAsg (tOp rMod0 (tI1 w (lastG K)) (tVar 1)) (gName 3))
            (tSeq (tAsg (tOp rFdivD (tI1 w (lastG K)) (tVar 1)) (gSub (tVar 2) (tUn (rU fun i => .int (-i)) (tC (.int 1))) rSetL))
              (tRet (tVar 3)))) tNext)
        (tDrop (tBM0 K "list" rPop (tVar 2)))))
  (tSeq (sDPut (tVar 0) (tC (.str "turn")) (tOp rAdd0 (dGt "turn") (tC (.int 1))))
  (tSeq (tAsg (tOp (rIxL K) (dGt "small") (tOp rMod0 (tI1 w (dGt "turn")) (tCB (rLenS K) (tCons (dGt "small") tNil)))) (gName 4))
  rest)))
theorem lastG_reads {K : PySem.W.Frag} {σ : L2.St} {H : Hp} {Q : VK} {gr : Addr} {xs : List V} {x : Int} (w : Bool) (h : σ[2]? = some (some (.ref gr))) (hs : SqL K H gr xs) (hi : atI xs (-1) = some (.int x)) (q : Q (.int x) H) : tI1 w (lastG K) σ H Q := by
  cases w with
  | false => exact ⟨_, h, 1, rfl, gr, _, -1, .int x, rfl, rfl, hs, hi, q⟩
  | true => exact ⟨_, h, 1, rfl, gr, _, -1, .int x, rfl, rfl, hs, hi, .inl ⟨x, rfl, q⟩⟩
theorem dGt_reads {σ : L2.St} {H : Hp} {Q : VK} {b : Addr} {n : Str} {t : Int} (w : Bool) (h : σ[0]? = some (some (.ref b))) (hs : DGet H b (.str n) (some (.int t))) (q : Q (.int t) H) : tI1 w (dGt n) σ H Q := by
  cases w with
  | false => exact ⟨_, h, b, _, rfl, hs, q⟩
  | true => exact ⟨_, h, b, _, rfl, hs, .inl ⟨t, rfl, q⟩⟩
theorem drawn_reads {K : PySem.W.Frag} (w : Bool) (rest : TS) {cad : Cad} {vs : List V} {H : Hp} {Q : VK} {E : XK} {N : List Str} (hN : N.length = 6) (h : spD cad 2 mDraw vs H Q E)
    (hrest : ∀ (b gr : Addr) (m cell t : Int) (H' : Hp), DGet H' b (.str "turn") (some (.int t)) → 0 < m → m < 1073741824 → (∀ i, 0 ≤ i → i < m → Q (.int i) H') →
      rest { nx := fun _ H' => Q .non H', rt := Q } [some (.ref b), some (.int m), some (.ref gr), none, some (.int cell), none] H') :
    tDraw K w rest { nx := fun _ H' => Q .non H', rt := Q } (L2.start N vs) H := by
  obtain ⟨_, β, H0, as, e, ok, bf, tbs, ha, q⟩ := h
  match as, ha, q with
  | [.box true, .d (.int m)], ha, q =>
    obtain ⟨v, w', rfl, ⟨b, gr, sm, T, eβ, hv⟩, hw⟩ := ha.two'
    subst eβ
    subst hv
    have ew := hw.int_eq
    subst ew
    obtain ⟨m0, m1, q⟩ := q
    have ok0 := ok
    obtain ⟨gs, ss, t, D⟩ := DictAt.of ok.1
    have es : L2.start N [.ref b, .int m] = [some (.ref b), some (.int m), none, none, none, none] := by
      unfold L2.start
      simp [hN, List.replicate]
    rw [es]
    have fin : ∀ (H' : Hp) (i : Int), (∀ a, a ≠ b → a ≠ gr → a ≠ sm → H a ≠ none → H' a = H a) → dictOk b gr sm H' → 0 ≤ i → i < m → Q (.int i) H' := fun H' i k ok' i0 i1 =>
      q i i0 i1 (.int i) H0 H' (Stp.dict e ok0 bf k ok') (.int i)
    refine ⟨_, rfl, b, .ref gr, rfl, D.great, ?_⟩
    refine ⟨fun k σ H' => ∃ gs', k = gs'.length ∧ σ = [some (.ref b), some (.int m), some (.ref gr), none, none, none] ∧ DictAt b gr sm gs' ss t H' ∧ (∀ a, a ≠ b → a ≠ gr → a ≠ sm → H a ≠ none → H' a = H a), ⟨gs.length, gs, rfl, rfl, D, fun _ _ _ _ _ => rfl⟩, ?_⟩
    rintro k σ H1 ⟨gs', rfl, rfl, D1, k1⟩
    refine ⟨_, rfl, lim_line (by simp), fun p hp => ?_⟩
    have D2 : DictAt b gr sm gs' ss t (upd H1 p (.lst [])) := D1.away fun a ha => upd_ne fun z => ha (z ▸ hp)
    have k2 : ∀ a, a ≠ b → a ≠ gr → a ≠ sm → H a ≠ none → upd H1 p (.lst []) a = H a := fun a a1 a2 a3 ha => by
      have := k1 a a1 a2 a3 ha
      rw [upd_ne (fun z => by
        subst z
        rw [hp] at this
        exact ha this.symm)]
      exact this
    have e2 : (upd H1 p (.lst [])) p = some (.lst []) := upd_same
    generalize upd H1 p (.lst []) = H2 at D2 k2 e2 ⊢
    refine ⟨.list (gs'.map PyData.int), .list [], .lst (SqL.of D2.hg) (ints_dp gs'), .lst (SqL.of e2) .nil, ints_shaped gs', by decide +kernel, ?_⟩
    have ee : (!PyData.eqv (.list (gs'.map PyData.int)) (.list [])) = !gs'.isEmpty := by
      simp only [PyData.eqv, eqvAll_nil', List.isEmpty_map]
    refine ⟨_, rfl, ?_⟩
    rw [ee]
    refine ite2 (fun c => ?_) (fun c => ?_)
    · have hne : gs' ≠ [] := fun z => by
        subst z
        cases c
      obtain ⟨x, hx⟩ : ∃ x, gs'.getLast? = some x := ⟨_, List.getLast?_eq_some_getLast hne⟩
      obtain ⟨i1, i2, i3⟩ := last_ix hx
      have hxm : x ∈ gs' := List.mem_of_getLast? hx
      have x0 := D2.g0 x hxm
      have hlen : 0 < gs'.length := List.length_pos_iff.mpr hne
      refine ⟨fun σ' H' => ∃ gs'', gs''.length < gs'.length ∧ σ' = [some (.ref b), some (.int m), some (.ref gr), none, none, none] ∧ DictAt b gr sm gs'' ss t H' ∧ (∀ a, a ≠ b → a ≠ gr → a ≠ sm → H a ≠ none → H' a = H a),
        fun σ' H' ⟨gs'', hl, es, d, k⟩ => ⟨gs''.length, hl, gs'', rfl, es, d, k⟩, ?_⟩
      have k3 : ∀ o, ∀ a, a ≠ b → a ≠ gr → a ≠ sm → H a ≠ none → upd H2 gr o a = H a := fun o a a1 a2 a3 ha => by
        rw [upd_ne a2]
        exact k2 a a1 a2 a3 ha
      refine ⟨_, rfl, 1, rfl, gr, _, -1, .int x, rfl, rfl, SqL.of D2.hg, i1, x, 0, rfl, rfl, _, rfl, ite2 (fun c1 => ?_) (fun c1 => ?_)⟩
      · refine lastG_reads w rfl (SqL.of D2.hg) i1 ?_
        refine ⟨_, rfl, x, m, rfl, rfl, by omega, ?_⟩
        refine lastG_reads w rfl (SqL.of D2.hg) i1 ?_
        refine ⟨_, rfl, .inl ⟨x, m, rfl, rfl, ⟨by omega, by omega⟩, ?_⟩⟩
        refine ⟨_, rfl, 1, rfl, gr, _, -1, gs'.length - 1, rfl, rfl, D2.hg, i2, ?_⟩
        refine ⟨_, rfl, ?_⟩
        have es2 : (gs'.map V.int).set (gs'.length - 1) (.int (x.fdiv m)) = (gs'.set (gs'.length - 1) (x.fdiv m)).map V.int := by rw [List.map_set]
        have r := fmod_in (i := x) m0
        have d3 := D2.setG (gs' := gs'.set (gs'.length - 1) (x.fdiv m)) (fun y hy => by
          rcases List.mem_or_eq_of_mem_set hy with z | z
          · exact D2.g0 y z
          · rw [z, Int.fdiv_eq_ediv_of_nonneg x (by omega)]
            exact Int.ediv_nonneg x0 (by omega)) (by
          rw [List.length_set]
          exact D2.gl)
        rw [← es2] at d3
        exact fin _ _ (k3 _) d3.ok r.1 r.2
      · refine ⟨_, rfl, .inl ⟨rfl, _, SqL.of D2.hg⟩, gr, _, .int x, rfl, rfl, D2.hg, i3, ?_⟩
        have d3 := D2.setG (gs' := gs'.dropLast) (fun y hy => D2.g0 y ((List.dropLast_sublist _).subset hy)) (by
          rw [List.length_dropLast]
          have := D2.gl
          omega)
        rw [List.map_dropLast] at d3
        exact ⟨gs'.dropLast, by rw [List.length_dropLast]; omega, rfl, d3, k3 _⟩
    · refine ⟨_, rfl, b, .int t, rfl, D2.turn, t, 1, rfl, rfl, _, rfl, b, _, rfl, D2.put, ?_⟩
      have t0 := D2.t0
      have D3 := D2.setT (t' := t + 1) (by omega)
      have k3 : ∀ o, ∀ a, a ≠ b → a ≠ gr → a ≠ sm → H a ≠ none → upd H2 b o a = H a := fun o a a1 a2 a3 ha => by
        rw [upd_ne a1]
        exact k2 a a1 a2 a3 ha
      have k4 := k3 (.dK [(kGreat, .ref gr), (kSmall, .ref sm), (kTurn, .int (t + 1))])
      generalize upd H2 b (.dK [(kGreat, .ref gr), (kSmall, .ref sm), (kTurn, .int (t + 1))]) = H3 at D3 k4 ⊢
      have hsl : 0 < ss.length := List.length_pos_iff.mpr D3.ne
      refine ⟨_, rfl, b, .ref sm, rfl, D3.small, ?_⟩
      refine dGt_reads w rfl D3.turn ?_
      refine ⟨_, rfl, b, .ref sm, rfl, D3.small, sm, _, rfl, .inl (SqL.of D3.hs), ?_⟩
      rw [List.length_map]
      have r := fmod_in (i := t + 1) (m := (ss.length : Int)) (by omega)
      obtain ⟨j, hj⟩ : ∃ j : Nat, (t + 1).fmod (ss.length : Int) = (j : Int) := ⟨((t + 1).fmod (ss.length : Int)).toNat, by omega⟩
      have hjl : j < ss.length := by omega
      refine ⟨t + 1, (ss.length : Int), rfl, rfl, by omega, ?_⟩
      dsimp only
      rw [hj]
      refine ⟨sm, _, (j : Int), .int ss[j], rfl, rfl, SqL.of D3.hs, atI_nat (by rw [List.getElem?_map, List.getElem?_eq_getElem hjl]; rfl), ?_⟩
      exact hrest b gr m ss[j] (t + 1) H3 D3.turn m0 m1 fun i i0 i1 => fin H3 i k4 D3.ok i0 i1
def restA : TS := tSeq (tAsg (tOp rAdd0 (tOp rMulC (tVar 4) (tC (.int 6364136223846793005))) (tOp rMulC (dGt "turn") (tC (.int 1442695040888963407)))) (gName 5))
  (tSeq (tAsg (tOp rMod0 (tI1 true (tVar 5)) (tC (.int 18446744073709551557))) (gName 5))
    (tSeq (tAsg (tOp rMod0 (tI1 true (tOp rMulC (tVar 5) (tOp rAdd0 (tOp rFdivD (tVar 5) (tC (.int 4294967296))) (tC (.int 17))))) (tC (.int 18446744073709551557))) (gName 5))
      (tRet (tOp rMod0 (tI1 true (tOp rFdivD (tVar 5) (tC (.int 65536)))) (tVar 1)))))
def restB : TS := tSeq (tAsg (tOp rMod0 (tOp rAdd0 (tOp rMulC (tVar 4) (tC (.int 6364136223846793005))) (tOp rMulC (dGt "turn") (tC (.int 1442695040888963407)))) (tC (.int 18446744073709551557))) (gName 5))
    (tSeq (tAsg (tOp rMod0 (tOp rMulC (tVar 5) (tOp rAdd0 (tOp rFdivD (tVar 5) (tC (.int 4294967296))) (tC (.int 17)))) (tC (.int 18446744073709551557))) (gName 5))
      (tRet (tOp rMod0 (tOp rFdivD (tVar 5) (tC (.int 65536))) (tVar 1))))
theorem restA_reads (D : Ends) (b gr : Addr) (m cell t : Int) (H' : Hp) (h : DGet H' b (.str "turn") (some (.int t))) (m0 : 0 < m) (q : ∀ i, 0 ≤ i → i < m → D.rt (.int i) H') :
    restA D [some (.ref b), some (.int m), some (.ref gr), none, some (.int cell), none] H' := by
  refine ⟨_, rfl, cell, _, rfl, rfl, .inr ⟨by decide, by decide⟩, _, rfl, b, _, rfl, h, t, _, rfl, rfl, .inr ⟨by decide, by decide⟩, _, _, rfl, rfl, ?_⟩
  refine ⟨_, rfl, .inl ⟨_, rfl, _, _, rfl, rfl, (show (18446744073709551557 : Int) ≠ 0 by decide), ?_⟩⟩
  dsimp only
  generalize hy : (cell * 6364136223846793005 + t * 1442695040888963407).fmod 18446744073709551557 = y
  have ry := fmod_in (i := cell * 6364136223846793005 + t * 1442695040888963407) (m := 18446744073709551557) (by decide)
  rw [hy] at ry
  refine ⟨_, rfl, _, rfl, .inr ⟨y, _, rfl, rfl, ⟨by decide, by decide⟩, _, _, rfl, rfl, y, _, rfl, rfl, .inl ⟨by omega, by omega⟩, .inl ⟨_, rfl, _, _, rfl, rfl, (show (18446744073709551557 : Int) ≠ 0 by decide), ?_⟩⟩⟩
  dsimp only
  generalize (y * (y / 4294967296 + 17)).fmod 18446744073709551557 = z
  refine ⟨_, rfl, .inl ⟨z, _, rfl, rfl, ⟨by decide, by decide⟩, .inl ⟨_, rfl, _, rfl, _, m, rfl, rfl, by omega, ?_⟩⟩⟩
  have r := fmod_in (i := z.fdiv 65536) m0
  exact q _ r.1 r.2
theorem restB_reads (D : Ends) (b gr : Addr) (m cell t : Int) (H' : Hp) (h : DGet H' b (.str "turn") (some (.int t))) (m0 : 0 < m) (q : ∀ i, 0 ≤ i → i < m → D.rt (.int i) H') :
    restB D [some (.ref b), some (.int m), some (.ref gr), none, some (.int cell), none] H' := by
  refine ⟨_, rfl, cell, _, rfl, rfl, .inr ⟨by decide, by decide⟩, _, rfl, b, _, rfl, h, t, _, rfl, rfl, .inr ⟨by decide, by decide⟩, _, _, rfl, rfl, _, _, rfl, rfl, (show (18446744073709551557 : Int) ≠ 0 by decide), ?_⟩
  dsimp only
  generalize hy : (cell * 6364136223846793005 + t * 1442695040888963407).fmod 18446744073709551557 = y
  have ry := fmod_in (i := cell * 6364136223846793005 + t * 1442695040888963407) (m := 18446744073709551557) (by decide)
  rw [hy] at ry
  refine ⟨_, rfl, _, rfl, .inr ⟨y, _, rfl, rfl, ⟨by decide, by decide⟩, _, _, rfl, rfl, y, _, rfl, rfl, .inl ⟨by omega, by omega⟩, _, _, rfl, rfl, (show (18446744073709551557 : Int) ≠ 0 by decide), ?_⟩⟩
  dsimp only
  generalize (y * (y / 4294967296 + 17)).fmod 18446744073709551557 = z
  refine ⟨_, rfl, .inl ⟨z, _, rfl, rfl, ⟨by decide, by decide⟩, _, rfl, _, m, rfl, rfl, by omega, ?_⟩⟩
  have r := fmod_in (i := z.fdiv 65536) m0
  exact q _ r.1 r.2
end Wb

set_option Elab.async false
set_option linter.all false
set_option maxRecDepth 100000
set_option maxHeartbeats 4000000
/-! Wb, part 18: the dict of two lists and a number, made of the script; the law's own beginning. -/
namespace Wb
open PySem PySem.Spec PyProof.Rows L2

theorem lc_ints {K : PySem.W.Frag} {a : Addr} {ns : List Int} {k : Nat} {tt : TT} {te : TE} {σ : L2.St} {H1 : Hp} {D : Addr} {Qd : Hp → Prop} (p : Int → Bool) (f : Int → Int) (hS : SqL K H1 a (ns.map V.int)) (hl : ns.length ≤ 1000) (hD : H1 D = none)
    (ht : ∀ x H (Q : Bool → Hp → Prop), Q (p x) H → tt ((wipe σ [k]).set k (some (.int x))) H Q) (he : ∀ x H (Q : VK), Q (.int (f x)) H → te ((wipe σ [k]).set k (some (.int x))) H Q)
    (hd : Qd (upd H1 D (.lst (((ns.filter p).map f).map V.int)))) :
    ∃ W : Nat → Nat → Hp → Prop, (∃ m, W 0 m (upd H1 D (.lst []))) ∧ ∀ i m H, W i m H →
      ((Itl K a).stop i H ∧ Qd H) ∨ ((Itl K a).go i H ∧ ∃ Nx : Hp → Prop, (∀ H', Nx H' → ∃ m', m' < m ∧ W (i + 1) m' H') ∧ ∀ x H', (Itl K a).yld i H x H' → gName k x (wipe σ [k]) H' fun σ2 H2 => wipe σ2 [k] = wipe σ [k] ∧ tt σ2 H2 fun b H3 =>
        if b = true then te σ2 H3 fun y H4 => ∃ acc, H4 D = some (.lst acc) ∧ acc.length < sizeLine ∧ Nx (upd H4 D (.lst (acc ++ [y]))) else Nx H3) := by
  have same : ∀ o, Same H1 (upd H1 D o) := fun o b u z => by
    rw [upd_ne (ne_of_none z hD)]
    exact z
  refine lc_list (K := K) (a := a) (xs := ns.map V.int) (fun i H => H = upd H1 D (.lst ((((ns.take i).filter p).map f).map V.int))) (by simp) ?_ ?_ ?_
  · rintro i H _ rfl
    exact (same _).seq hS
  · rintro i x H hx rfl
    rw [List.getElem?_map] at hx
    obtain ⟨n, hn, rfl⟩ := Option.map_eq_some_iff.mp hx
    have et : ns.take (i + 1) = ns.take i ++ [n] := by
      obtain ⟨hi, e⟩ := List.getElem?_eq_some_iff.mp hn
      rw [List.take_succ, hn]
      rfl
    refine ⟨by simp [wipe], ht n _ _ ?_⟩
    cases hp : p n with
    | true =>
      refine iteT (he n _ _ ⟨_, upd_same, ?_, ?_⟩)
      · rw [List.length_map, List.length_map, sizeLine_eq]
        have h1 := List.length_filter_le p (ns.take i)
        rw [List.length_take] at h1
        omega
      · rw [upd_upd, et, List.filter_append, List.map_append, List.map_append]
        simp [hp]
    | false =>
      refine iteF ?_
      rw [et, List.filter_append]
      simp [hp]
  · rintro H rfl
    rw [List.length_map, List.take_length]
    exact hd

theorem absI_eq (n : Int) : (if n < 0 then -n else n) = (n.natAbs : Int) := by
  split <;> omega
abbrev big18 : Int := 1000000000000000000
def spOpened (K : PySem.W.Frag) : Sp := fun vs H Q _ => ∃ (a : Addr) (ns : List Int), vs = [.ref a] ∧ SqL K H a (ns.map V.int) ∧ ns.length ≤ 63 ∧ ∀ H' b gr sm, dictOk b gr sm H' → Q (.ref b) H'
abbrev t1018 : TE := tOp (rI CPow fun i j => V.int (i ^ j.toNat)) (tC (V.int 10)) (tC (V.int 18))
def tOpened (K : PySem.W.Frag) (c : Int) : TS :=
  tSeq (tAsg (tLc (iList K (tSl (rSlL K) (tVar 0) tNoPart (tPart (tC (.int 61))))) (gName 4) tYes (tCB rAbs1 (tCons (tVar 4) tNil)) [4]) (gName 1))
  (tSeq (tAsg (tLc (iList K (tVar 1)) (gName 4) (tTest (tOp (rI0 fun i j => V.bl (decide (i < j))) (tVar 4) t1018)) (tVar 4) [4]) (gName 2))
  (tSeq (tAsg (tLc (iList K (tVar 1)) (gName 4) (tTest (tOp (rI0 fun i j => V.bl (decide (j ≤ i))) (tVar 4) t1018)) (tVar 4) [4]) (gName 3))
  (tRet (tDisp [(tC (.str "great"), tVar 3), (tC (.str "small"), tOp rCat (tVar 2) (tOp rRep (tLst (tCons (tC (.int c)) tNil)) (tCB rInt1 (tCons (tOp (rEqD K) (tVar 2) (tLst tNil)) tNil)))), (tC (.str "turn"), tC (.int 0))]))))
theorem p1018 : (10 : Int) ^ (18 : Int).toNat = big18 := by decide
theorem opened_reads {K : PySem.W.Frag} {c : Int} (c0 : 0 ≤ c) (c1 : c < big18) {vs : List V} {H : Hp} {Q : VK} {E : XK} {N : List Str} (hN : N.length = 5) (h : spOpened K vs H Q E) :
    tOpened K c { nx := fun _ H' => Q .non H', rt := Q } (L2.start N vs) H := by
  obtain ⟨a, ns, rfl, hS, hl, q⟩ := h
  have es : L2.start N [.ref a] = [some (.ref a), none, none, none, none] := by
    unfold L2.start
    simp [hN, List.replicate]
  rw [es]
  -- the cells
  refine ⟨_, rfl, _, rfl, a, ns.map V.int, rfl, hS, fun p hp => ?_⟩
  obtain ⟨ms, em, lm⟩ : ∃ ms : List Int, cutV (ns.map V.int) none (some 61) = ms.map V.int ∧ ms.length ≤ 63 := by
    unfold cutV
    rw [← List.map_drop, ← List.map_take]
    refine ⟨_, rfl, ?_⟩
    rw [List.length_take, List.length_drop]
    omega
  rw [em]
  have hl1 : (upd H p (.lst (ms.map V.int))) p = some (.lst (ms.map V.int)) := upd_same
  generalize upd H p (.lst (ms.map V.int)) = H1 at hl1 ⊢
  refine ⟨p, rfl, ⟨_, SqL.of hl1⟩, fun D1 hD1 => ?_⟩
  refine lc_ints (fun _ => true) (fun x => if x < 0 then -x else x) (SqL.of hl1) (by omega) hD1 (fun x H' Q' z => z) (fun x H' Q' z => ⟨_, rfl, x, rfl, z⟩) ?_
  have e1 : ((ms.filter fun _ => true).map fun x => if x < 0 then -x else x) = ms.map fun x => (x.natAbs : Int) := by
    rw [List.filter_eq_self.mpr (fun _ _ => rfl)]
    exact List.map_congr_left fun x _ => absI_eq x
  rw [e1]
  obtain ⟨cs, ec⟩ : ∃ cs, cs = ms.map fun x => (x.natAbs : Int) := ⟨_, rfl⟩
  have cs0 : ∀ x ∈ cs, 0 ≤ x := fun x hx => by
    rw [ec] at hx
    obtain ⟨y, _, rfl⟩ := List.mem_map.mp hx
    omega
  have csl : cs.length ≤ 63 := by
    rw [ec, List.length_map]
    exact lm
  rw [← ec]
  have h1 : (upd H1 D1 (.lst (cs.map V.int))) D1 = some (.lst (cs.map V.int)) := upd_same
  generalize upd H1 D1 (.lst (cs.map V.int)) = H2 at h1 ⊢
  -- the small ones
  refine ⟨_, rfl, _, rfl, ⟨_, SqL.of h1⟩, fun D2 hD2 => ?_⟩
  refine lc_ints (fun x => decide (x < big18)) (fun x => x) (SqL.of h1) (by omega) hD2 (fun x H' Q' z => ⟨_, rfl, 10, 18, rfl, rfl, ⟨by decide, by decide, by decide⟩, x, _, rfl, rfl, _, rfl, z⟩) (fun x H' Q' z => ⟨_, rfl, z⟩) ?_
  obtain ⟨ss, ess⟩ : ∃ ss, ss = cs.filter fun x => decide (x < big18) := ⟨_, rfl⟩
  rw [List.map_id', ← ess]
  have ss0 : ∀ x ∈ ss, 0 ≤ x ∧ x < big18 := fun x hx => by
    rw [ess] at hx
    obtain ⟨h1, h2⟩ := List.mem_filter.mp hx
    exact ⟨cs0 x h1, of_decide_eq_true h2⟩
  have ssl : ss.length ≤ 63 := by
    have := List.length_filter_le (fun x => decide (x < big18)) cs
    rw [ess]
    omega
  have n12 : D1 ≠ D2 := fun z => by
    rw [z, hD2] at h1
    cases h1
  have h1' : (upd H2 D2 (.lst (ss.map V.int))) D1 = some (.lst (cs.map V.int)) := by
    rw [upd_ne n12]
    exact h1
  have h2 : (upd H2 D2 (.lst (ss.map V.int))) D2 = some (.lst (ss.map V.int)) := upd_same
  generalize upd H2 D2 (.lst (ss.map V.int)) = H3 at h1' h2 ⊢
  -- the great ones
  refine ⟨_, rfl, _, rfl, ⟨_, SqL.of h1'⟩, fun D3 hD3 => ?_⟩
  refine lc_ints (fun x => decide (big18 ≤ x)) (fun x => x) (SqL.of h1') (by omega) hD3 (fun x H' Q' z => ⟨_, rfl, 10, 18, rfl, rfl, ⟨by decide, by decide, by decide⟩, x, _, rfl, rfl, _, rfl, z⟩) (fun x H' Q' z => ⟨_, rfl, z⟩) ?_
  obtain ⟨gs, egs⟩ : ∃ gs, gs = cs.filter fun x => decide (big18 ≤ x) := ⟨_, rfl⟩
  rw [List.map_id', ← egs]
  have gs0 : ∀ x ∈ gs, 0 ≤ x := fun x hx => by
    rw [egs] at hx
    exact cs0 x (List.mem_filter.mp hx).1
  have gsl : gs.length ≤ 63 := by
    have := List.length_filter_le (fun x => decide (big18 ≤ x)) cs
    rw [egs]
    omega
  have n23 : D2 ≠ D3 := fun z => by
    rw [z, hD3] at h2
    cases h2
  have h2' : (upd H3 D3 (.lst (gs.map V.int))) D2 = some (.lst (ss.map V.int)) := by
    rw [upd_ne n23]
    exact h2
  have h3 : (upd H3 D3 (.lst (gs.map V.int))) D3 = some (.lst (gs.map V.int)) := upd_same
  generalize upd H3 D3 (.lst (gs.map V.int)) = H4 at h2' h3 ⊢
  -- the dict
  intro d hd
  have f : ∀ {x : Addr} {o : HO}, H4 x = some o → (upd H4 d (.dK [])) x = some o := fun z => by
    rw [upd_ne (ne_of_none z hd)]
    exact z
  have g2 := f h2'
  have g3 := f h3
  have gd : (upd H4 d (.dK [])) d = some (.dK []) := upd_same
  generalize upd H4 d (.dK []) = H5 at g2 g3 gd ⊢
  refine ⟨_, rfl, _, rfl, lim_line (by simp), fun r hr => ?_⟩
  have f2 : ∀ {x : Addr} {o : HO}, H5 x = some o → (upd H5 r (.lst [.int c])) x = some o := fun z => by
    rw [upd_ne (ne_of_none z hr)]
    exact z
  have i2 := f2 g2
  have i3 := f2 g3
  have id' := f2 gd
  have ir : (upd H5 r (.lst [.int c])) r = some (.lst [.int c]) := upd_same
  generalize upd H5 r (.lst [.int c]) = H6 at i2 i3 id' ir ⊢
  refine ⟨_, rfl, lim_line (by simp), fun u hu => ?_⟩
  have f3 : ∀ {x : Addr} {o : HO}, H6 x = some o → (upd H6 u (.lst [])) x = some o := fun z => by
    rw [upd_ne (ne_of_none z hu)]
    exact z
  have j2 := f3 i2
  have j3 := f3 i3
  have jd := f3 id'
  have jr := f3 ir
  have ju : (upd H6 u (.lst [])) u = some (.lst []) := upd_same
  generalize upd H6 u (.lst []) = H7 at j2 j3 jd jr ju ⊢
  refine ⟨.list (ss.map PyData.int), .list [], .lst (SqL.of j2) (ints_dp ss), .lst (SqL.of ju) .nil, ints_shaped ss, by decide +kernel, .inr ⟨_, rfl, ?_⟩⟩
  obtain ⟨k, hk, hk1, hk2⟩ : ∃ k : Nat, (if PyData.eqv (.list (ss.map PyData.int)) (.list []) = true then (1 : Int) else 0) = (k : Int) ∧ k ≤ 1 ∧ (ss = [] → k = 1) := by
    have ee : PyData.eqv (.list (ss.map PyData.int)) (.list []) = ss.isEmpty := by
      simp only [PyData.eqv, eqvAll_nil', List.isEmpty_map]
    rw [ee]
    cases ss with
    | nil => exact ⟨1, rfl, by omega, fun _ => rfl⟩
    | cons x r => exact ⟨0, rfl, by omega, fun z => nomatch z⟩
  rw [hk]
  refine ⟨r, (k : Int), _, rfl, rfl, jr, by omega, by omega, lim_line (by simp; omega), fun v hv => ?_⟩
  have er : (List.replicate (k : Int).toNat [V.int c]).flatten = (List.replicate k c).map V.int := by
    rw [Int.toNat_natCast]
    clear hk hk1 hk2
    induction k with
    | zero => rfl
    | succ k ih =>
      rw [List.replicate_succ, List.flatten_cons, ih]
      rfl
  rw [er]
  have f4 : ∀ {x : Addr} {o : HO}, H7 x = some o → (upd H7 v (.lst ((List.replicate k c).map V.int))) x = some o := fun z => by
    rw [upd_ne (ne_of_none z hv)]
    exact z
  have l2 := f4 j2
  have l3 := f4 j3
  have ld := f4 jd
  have lv : (upd H7 v (.lst ((List.replicate k c).map V.int))) v = some (.lst ((List.replicate k c).map V.int)) := upd_same
  generalize upd H7 v (.lst ((List.replicate k c).map V.int)) = H8 at l2 l3 ld lv ⊢
  refine ⟨D2, v, _, _, rfl, rfl, l2, lv, lim_line (by simp; omega), fun w hw => ?_⟩
  rw [← List.map_append]
  have f5 : ∀ {x : Addr} {o : HO}, H8 x = some o → (upd H8 w (.lst ((ss ++ List.replicate k c).map V.int))) x = some o := fun z => by
    rw [upd_ne (ne_of_none z hw)]
    exact z
  have m3 := f5 l3
  have md := f5 ld
  have mw : (upd H8 w (.lst ((ss ++ List.replicate k c).map V.int))) w = some (.lst ((ss ++ List.replicate k c).map V.int)) := upd_same
  have n3w : D3 ≠ w := ne_of_none l3 hw
  generalize upd H8 w (.lst ((ss ++ List.replicate k c).map V.int)) = H9 at m3 md mw ⊢
  refine ⟨md, [(kGreat, .ref D3), (kSmall, .ref w), (kTurn, .int 0)], rfl, by simp, ?_⟩
  have em2 : mergeK [] [(kGreat, V.ref D3), (kSmall, .ref w), (kTurn, .int 0)] = [(kGreat, .ref D3), (kSmall, .ref w), (kTurn, .int 0)] := rfl
  rw [em2]
  refine q _ d D3 w (DictAt.ok (gs := gs) (ss := ss ++ List.replicate k c) (t := 0) ⟨upd_same, ?_, ?_, gs0, ?_, ?_, by decide, by omega, ?_, n3w⟩)
  · rw [upd_ne (fun z => by
      subst z
      rw [m3] at md
      cases md)]
    exact m3
  · rw [upd_ne (fun z => by
      subst z
      rw [mw] at md
      cases md)]
    exact mw
  · intro x hx
    rcases List.mem_append.mp hx with z | z
    · exact ss0 x z
    · have := List.eq_of_mem_replicate z
      subst this
      exact ⟨c0, c1⟩
  · intro z
    have := List.append_eq_nil_iff.mp z
    have k1 := hk2 this.1
    rw [k1] at this
    cases this.2
  · simp
    omega
theorem dict_opens {K : PySem.W.Frag} (vs : List V) (H : Hp) (Q : VK) (E : XK) (h : ∃ (a : Addr) (ns : List Int), vs = [.ref a] ∧ SqL K H a (ns.map V.int) ∧ ns.length ≤ 63 ∧ LamX.Tabs [] H ∧ ∀ (β : Box) v H', boxIs true β v → β.tabs = [] → β.ok H' → Q v H') : spOpened K vs H Q E := by
  obtain ⟨a, ns, e, hS, hl, _, q⟩ := h
  exact ⟨a, ns, e, hS, hl, fun H' b gr sm ok => q (tabBox (dictBox b gr sm) []) _ H' ⟨b, gr, sm, [], rfl, rfl⟩ rfl ⟨ok, fun _ z => nomatch z⟩⟩
end Wb

set_option Elab.async false
set_option linter.all false
set_option maxRecDepth 100000
set_option maxHeartbeats 4000000
/-! Wb, part 19: zip over two things, each a list or a tuple. -/
namespace Wb
open PySem PySem.Spec PyProof.Rows L2 RZ

/-- the walker over a tuple (true) or a list (false) -/
def ItOf : Bool → Heap → Addr → Addr → Nat → Prop
  | true, h, j, l, k => h.IsTupleIter j l k
  | false, h, j, l, k => h.IsListIter j l k
def SqOf : Bool → Heap → Addr → Array Value → Prop
  | true, h, l, xs => h.IsTuple l xs
  | false, h, l, xs => h.IsList l xs
section
variable {h h' : Heap} {j l c : Addr} {k : Nat} {xs : Array Value}
theorem ItOf.ext {t : Bool} (x : ItOf t h j l k) (e : Heap.ExtBut c h h') (n : j ≠ c) : ItOf t h' j l k := by
  cases t
  · exact Heap.IsListIter.extBut x e n
  · exact Heap.IsTupleIter.extBut x e n
theorem ItOf.same {t : Bool} (x : ItOf t h j l k) (e : ∀ o, h.get? j = some o → h'.get? j = some o) : ItOf t h' j l k := by
  cases t
  · exact Heap.IsListIter.at x e
  · exact Heap.IsTupleIter.at x e
theorem SqOf.ext {t : Bool} (x : SqOf t h l xs) (e : Heap.ExtBut c h h') (n : l ≠ c) : SqOf t h' l xs := by
  cases t
  · exact Heap.IsList.extBut x e n
  · exact Heap.IsTuple.extBut x e n
theorem ItOf.obj {t : Bool} (x : ItOf t h j l k) : ∃ o vs, h.get? j = some o ∧ o.data = .fields vs := by
  cases t
  · obtain ⟨o, e, _, d⟩ := x
    exact ⟨o, _, e, d⟩
  · obtain ⟨o, e, _, d⟩ := x
    exact ⟨o, _, e, d⟩
theorem SqOf.obj {t : Bool} (x : SqOf t h l xs) : ∃ o, h.get? l = some o := by
  cases t
  · obtain ⟨o, e, _⟩ := x
    exact ⟨o, e⟩
  · obtain ⟨o, e, _⟩ := x
    exact ⟨o, e⟩
end
section
variable {prog : Program} {w : World} {A : Around} {E : Value → Shared → Prop} {s : Shared}
theorem step_of {t : Bool} {j l : Addr} {i : Nat} {xs : Array Value} {x : Value} {Q : Value → Shared → Prop} (hj : ItOf t s.heap j l i) (hl : SqOf t s.heap l xs) (hx : xs[i]? = some x)
    (q : ∀ h', ItOf t h' j l (i + 1) → Heap.SameBut j s.heap h' → Q x { s with heap := h' }) : wpAny (model prog w) A (Builtin.SmallTypes.nextOf (.ref j)) Q E s := by
  cases t
  · exact wpAny_nextOf_list_item hj hl hx q
  · exact nextOf_tuple_item hj hl hx q
theorem last_of {t : Bool} {j l : Addr} {i : Nat} {xs : Array Value} {Q : Value → Shared → Prop} (hh : A.handled = none) (hj : ItOf t s.heap j l i) (hl : SqOf t s.heap l xs) (hx : xs[i]? = none)
    (q : ∀ h' e, Heap.ExtBut j s.heap h' → (∃ o, h'.get? e = some o ∧ o.cls = .type "StopIteration") → E (.ref e) { s with heap := h' }) : wpAny (model prog w) A (Builtin.SmallTypes.nextOf (.ref j)) Q E s := by
  cases t
  · exact wpAny_nextOf_list_end hh hj hl hx q
  · exact nextOf_tuple_end hh hj hl hx q

/-- the five objects of a zip, at its turn -/
structure ZAt (t1 t2 : Bool) (h : Heap) (z a b j1 j2 l1 l2 : Addr) (k : Nat) : Prop where
  zz : IsZip h z a b .none
  pa : IsPair h a (.ref j1) (.ref j2)
  pb : ∃ u v, IsPair h b u v
  i1 : ItOf t1 h j1 l1 k
  i2 : ItOf t2 h j2 l2 k
theorem zat_next {t1 t2 : Bool} {z a b j1 j2 l1 l2 : Addr} {k : Nat} {xs ys : Array Value} {x y : Value} {Q : Value → Shared → Prop} (D : ZipApart z a b j1 j2 l1 l2) (Z : ZAt t1 t2 s.heap z a b j1 j2 l1 l2 k)
    (q1 : SqOf t1 s.heap l1 xs) (q2 : SqOf t2 s.heap l2 ys) (ex : xs[k]? = some x) (ey : ys[k]? = some y)
    (q : ∀ h', IsZip h' z a b (rawInt s.heap.objs.size) → IsPair h' b x y → ItOf t1 h' j1 l1 (k + 1) → ItOf t2 h' j2 l2 (k + 1) → IsPair h' s.heap.objs.size x y → h'.objs.size = s.heap.objs.size + 1 →
      (∀ c o, c ≠ z → c ≠ b → c ≠ j1 → c ≠ j2 → s.heap.get? c = some o → h'.get? c = some o) → Q (.ref s.heap.objs.size) { s with heap := h' }) :
    wpAny (model prog w) A (Builtin.«zip.__next__» ⟨[.ref z], []⟩) (fun r s' => ∃ v, r = .done (.ret v) ∧ Q v s') E s := by
  obtain ⟨zz, pa, ⟨u, v, pb⟩, i1, i2⟩ := Z
  show wpAny _ _ (field (.ref z) 2 >>= _) _ _ _; refine wpAny_bind (wpAny_field zz rfl (x := .bool false) rfl ?_)
  show wpAny _ _ (field (.ref z) 3 >>= _) _ _ _; refine wpAny_bind (wpAny_field zz rfl (x := .ref a) rfl ?_)
  refine wpAny_bind (wpAny_seqItems pa rfl ?_)
  show wpAny _ _ (Builtin.SmallTypes.ownedTupleIsFree (.ref z) >>= _) _ _ _; refine wpAny_bind ?_
  unfold Builtin.SmallTypes.ownedTupleIsFree; refine wpAny_bind (wpAny_field zz rfl (x := .none) rfl (wpAny_pure ?_))
  simp only [if_true]; refine wpAny_bind (wpAny_rule ?_)
  refine wpAny_bind (wpAny_field zz rfl (x := .ref b) rfl ?_); refine wpAny_bind (wpAny_setField_rec zz (by simp) fun g1 zz1 s1 => ?_)
  replace zz1 : IsZip g1 z a b .ellipsis := zz1
  refine wpAny_bind ?_; simp only [List.zipIdx_cons, List.zipIdx_nil, List.forIn_cons, List.forIn_nil]
  -- the first one
  refine wpAny_bind (wpAny_bind (wpAny_onRaise ?_)); show wpAny _ _ (Builtin.SmallTypes.nextOf (.ref j1) >>= _) _ _ _
  refine wpAny_bind (step_of (i1.ext s1.extBut D.i1z) (q1.ext s1.extBut D.l1z) ex fun g2 i12 s2 => wpAny_pure ?_)
  have pb2 : IsPair g2 b u v := s2.extBut _ _ D.TOi1 (s1.extBut _ _ D.TOz pb)
  refine wpAny_bind (wpAny_seqItems pb2 rfl ?_); refine wpAny_bind (wpAny_updateSeq_pair pb2 fun g3 pb3 s3 => ?_)
  replace pb3 : IsPair g3 b x v := pb3
  refine wpAny_bind (wpAny_letGo (wpAny_pure ?_)); refine wpAny_bind (wpAny_bind (wpAny_onRaise ?_))
  -- the second one
  show wpAny _ _ (Builtin.SmallTypes.nextOf (.ref j2) >>= _) _ _ _
  refine wpAny_bind (step_of (((i2.ext s1.extBut D.i2z).ext s2.extBut D.i12.symm).ext s3.extBut D.TOi2.symm) (((q2.ext s1.extBut D.l2z).ext s2.extBut D.l2i1).ext s3.extBut D.l2TO) ey fun g4 i24 s4 => wpAny_pure ?_)
  have pb4 : IsPair g4 b x v := s4.extBut _ _ D.TOi2 pb3
  refine wpAny_bind (wpAny_seqItems pb4 rfl ?_); refine wpAny_bind (wpAny_updateSeq_pair pb4 fun g5 pb5 s5 => ?_)
  replace pb5 : IsPair g5 b x y := pb5
  refine wpAny_bind (wpAny_letGo (wpAny_pure (wpAny_pure ?_))); refine wpAny_bind (wpAny_seqItems pb5 rfl ?_)
  refine wpAny_bind (wpAny_newTuple ?_)
  have sz5 : g5.objs.size = s.heap.objs.size := by rw [s5.1, s4.1, s3.1, s2.1, s1.1]
  have zz5 : IsZip g5 z a b .ellipsis := s5.extBut _ _ D.TOz.symm (s4.extBut _ _ D.i2z.symm (s3.extBut _ _ D.TOz.symm (s2.extBut _ _ D.i1z.symm zz1)))
  have keep5 : ∀ c o, c ≠ z → c ≠ b → c ≠ j1 → c ≠ j2 → s.heap.get? c = some o → g5.get? c = some o := fun c o n1 n2 n3 n4 e =>
    s5.extBut _ _ n2 (s4.extBut _ _ n4 (s3.extBut _ _ n2 (s2.extBut _ _ n3 (s1.extBut _ _ n1 e))))
  have i15 : ItOf t1 g5 j1 l1 (k + 1) := ((i12.ext s3.extBut D.TOi1.symm).ext s4.extBut D.i12).ext s5.extBut D.TOi1.symm
  have i25 : ItOf t2 g5 j2 l2 (k + 1) := i24.ext s5.extBut D.TOi2.symm
  have zlt : z < g5.objs.size := Heap.lt_size zz5
  show wpAny _ _ (Builtin.SmallTypes.ownedTupleHandOut (.ref z) (.ref g5.objs.size) >>= _) _ _ _; refine wpAny_bind ?_
  unfold Builtin.SmallTypes.ownedTupleHandOut; have zz6 : IsZip (g5.push { cls := .type "tuple", data := .seq #[x, y] }) z a b .ellipsis := Heap.get?_push_of_some _ zz5
  refine wpAny_bind (wpAny_setField_rec zz6 (by simp) fun g7 zz7 s7 => ?_); replace zz7 : IsZip g7 z a b (rawInt g5.objs.size) := zz7
  refine wpAny_setField_rec zz7 (by simp) fun g8 zz8 s8 => ?_; replace zz8 : IsZip g8 z a b (rawInt g5.objs.size) := zz8
  have up : ∀ c o, c ≠ z → g5.get? c = some o → g8.get? c = some o := fun c o n e => s8.extBut _ _ n (s7.extBut _ _ n (Heap.get?_push_of_some _ e))
  have new8 : IsPair g8 g5.objs.size x y := s8.extBut _ _ (Nat.ne_of_gt zlt) (s7.extBut _ _ (Nat.ne_of_gt zlt) (Heap.get?_push_size _ rfl))
  have sz8 : g8.objs.size = g5.objs.size + 1 := by rw [s8.1, s7.1, Heap.size_push]
  rw [sz5] at zz8 new8 sz8
  refine wpAny_pure ⟨_, rfl, ?_⟩; show Q (.ref g5.objs.size) _
  rw [sz5]
  exact q g8 zz8 (up _ _ D.TOz pb5) (i15.same fun o e => up _ o D.i1z e) (i25.same fun o e => up _ o D.i2z e) new8 sz8 fun c o n1 n2 n3 n4 e => up c o n1 (keep5 c o n1 n2 n3 n4 e)
theorem zat_end {t1 t2 : Bool} {z a b j1 j2 l1 l2 : Addr} {k : Nat} {xs ys : Array Value} {Q : Fin → Shared → Prop} (hh : A.handled = none) (D : ZipApart z a b j1 j2 l1 l2) (Z : ZAt t1 t2 s.heap z a b j1 j2 l1 l2 k)
    (q1 : SqOf t1 s.heap l1 xs) (q2 : SqOf t2 s.heap l2 ys) (e : xs[k]? = none ∨ ys[k]? = none)
    (q : ∀ h' r, (∀ c o, c ≠ z → c ≠ b → c ≠ j1 → c ≠ j2 → s.heap.get? c = some o → h'.get? c = some o) → (∃ o, h'.get? r = some o ∧ o.cls = .type "StopIteration") → E (.ref r) { s with heap := h' }) :
    wpAny (model prog w) A (Builtin.«zip.__next__» ⟨[.ref z], []⟩) Q E s := by
  obtain ⟨zz, pa, ⟨u, v, pb⟩, i1, i2⟩ := Z
  show wpAny _ _ (field (.ref z) 2 >>= _) _ _ _; refine wpAny_bind (wpAny_field zz rfl (x := .bool false) rfl ?_)
  show wpAny _ _ (field (.ref z) 3 >>= _) _ _ _; refine wpAny_bind (wpAny_field zz rfl (x := .ref a) rfl ?_)
  refine wpAny_bind (wpAny_seqItems pa rfl ?_)
  show wpAny _ _ (Builtin.SmallTypes.ownedTupleIsFree (.ref z) >>= _) _ _ _; refine wpAny_bind ?_
  unfold Builtin.SmallTypes.ownedTupleIsFree; refine wpAny_bind (wpAny_field zz rfl (x := .none) rfl (wpAny_pure ?_))
  simp only [if_true]; refine wpAny_bind (wpAny_rule ?_)
  refine wpAny_bind (wpAny_field zz rfl (x := .ref b) rfl ?_); refine wpAny_bind (wpAny_setField_rec zz (by simp) fun g1 zz1 s1 => ?_)
  replace zz1 : IsZip g1 z a b .ellipsis := zz1
  refine wpAny_bind ?_; simp only [List.zipIdx_cons, List.zipIdx_nil, List.forIn_cons, List.forIn_nil]
  refine wpAny_bind (wpAny_bind (wpAny_onRaise ?_)); show wpAny _ _ (Builtin.SmallTypes.nextOf (.ref j1) >>= _) _ _ _
  cases ex : xs[k]? with
  | none =>
    refine wpAny_bind (last_of hh (i1.ext s1.extBut D.i1z) (q1.ext s1.extBut D.l1z) ex fun g2 r s2 hr => ?_)
    obtain ⟨o, ho, hc⟩ := hr
    have zz2 : IsZip g2 z a b .ellipsis := s2 _ _ D.i1z.symm zz1
    have nr : r ≠ z := fun n => by subst n; rw [zz2] at ho; cases ho; simp at hc
    refine wpAny_setField_rec zz2 (by simp) fun g3 _ s3 => q g3 r (fun c o n1 _ n3 _ y => s3.extBut _ _ n1 (s2 _ _ n3 (s1.extBut _ _ n1 y))) ⟨o, s3.extBut _ _ nr ho, hc⟩
  | some x =>
    have ey : ys[k]? = none := by rcases e with n | n; rw [ex] at n; cases n; exact n
    refine wpAny_bind (step_of (i1.ext s1.extBut D.i1z) (q1.ext s1.extBut D.l1z) ex fun g2 i12 s2 => wpAny_pure ?_)
    have pb2 : IsPair g2 b u v := s2.extBut _ _ D.TOi1 (s1.extBut _ _ D.TOz pb)
    refine wpAny_bind (wpAny_seqItems pb2 rfl ?_); refine wpAny_bind (wpAny_updateSeq_pair pb2 fun g3 pb3 s3 => ?_)
    refine wpAny_bind (wpAny_letGo (wpAny_pure ?_)); refine wpAny_bind (wpAny_bind (wpAny_onRaise ?_))
    show wpAny _ _ (Builtin.SmallTypes.nextOf (.ref j2) >>= _) _ _ _
    refine wpAny_bind (last_of hh (((i2.ext s1.extBut D.i2z).ext s2.extBut D.i12.symm).ext s3.extBut D.TOi2.symm) (((q2.ext s1.extBut D.l2z).ext s2.extBut D.l2i1).ext s3.extBut D.l2TO) ey fun g4 r s4 hr => ?_)
    obtain ⟨o, ho, hc⟩ := hr
    have zz4 : IsZip g4 z a b .ellipsis := s4 _ _ D.i2z.symm (s3.extBut _ _ D.TOz.symm (s2.extBut _ _ D.i1z.symm zz1))
    have nr : r ≠ z := fun n => by subst n; rw [zz4] at ho; cases ho; simp at hc
    refine wpAny_setField_rec zz4 (by simp) fun g5 _ s5 => q g5 r (fun c o n1 n2 n3 n4 y => s5.extBut _ _ n1 (s4 _ _ n4 (s3.extBut _ _ n2 (s2.extBut _ _ n3 (s1.extBut _ _ n1 y))))) ⟨o, s5.extBut _ _ nr ho, hc⟩
theorem zat_py {t1 t2 : Bool} {z a b j1 j2 l1 l2 : Addr} {k : Nat} {xs ys : Array Value} {x y : Value} {Q : Option Value → Shared → Prop} (D : ZipApart z a b j1 j2 l1 l2) (Z : ZAt t1 t2 s.heap z a b j1 j2 l1 l2 k)
    (q1 : SqOf t1 s.heap l1 xs) (q2 : SqOf t2 s.heap l2 ys) (ex : xs[k]? = some x) (ey : ys[k]? = some y)
    (q : ∀ h', IsZip h' z a b (rawInt s.heap.objs.size) → IsPair h' b x y → ItOf t1 h' j1 l1 (k + 1) → ItOf t2 h' j2 l2 (k + 1) → IsPair h' s.heap.objs.size x y → h'.objs.size = s.heap.objs.size + 1 →
      (∀ c o, c ≠ z → c ≠ b → c ≠ j1 → c ≠ j2 → s.heap.get? c = some o → h'.get? c = some o) → Q (some (.ref s.heap.objs.size)) { s with heap := h' }) : wpAny (model prog w) A (pyNext (.ref z)) Q E s := by
  have ty : s.TypeIs (.ref z) "zip" := ⟨_, Z.zz, rfl⟩
  unfold pyNext
  exact wpAny_bind (wpAny_attempt (wpAny_callSpecial?_slot (name := Str.ofString "__next__") ty F.slot_zip_next (wpAny_call_entry F.slot_zip_next ty F.entry_zip_next
    (zat_next D Z q1 q2 ex ey fun h' e1 e2 e3 e4 e5 e6 e7 => wpAny_pure (q h' e1 e2 e3 e4 e5 e6 e7)) (F.args_zip_next_1 _))))
theorem zat_py_end {t1 t2 : Bool} {z a b j1 j2 l1 l2 : Addr} {k : Nat} {xs ys : Array Value} {Q : Option Value → Shared → Prop} (hh : A.handled = none) (D : ZipApart z a b j1 j2 l1 l2) (Z : ZAt t1 t2 s.heap z a b j1 j2 l1 l2 k)
    (q1 : SqOf t1 s.heap l1 xs) (q2 : SqOf t2 s.heap l2 ys) (e : xs[k]? = none ∨ ys[k]? = none)
    (q : ∀ h', (∀ c o, c ≠ z → c ≠ b → c ≠ j1 → c ≠ j2 → s.heap.get? c = some o → h'.get? c = some o) → Q none { s with heap := h' }) : wpAny (model prog w) A (pyNext (.ref z)) Q E s := by
  have ty : s.TypeIs (.ref z) "zip" := ⟨_, Z.zz, rfl⟩
  unfold pyNext
  refine wpAny_bind (wpAny_attempt (wpAny_callSpecial?_slot (name := Str.ofString "__next__") ty F.slot_zip_next (wpAny_call_entry F.slot_zip_next ty F.entry_zip_next
    (zat_end hh D Z q1 q2 e fun h' r ke hr => ?_) (F.args_zip_next_1 _))))
  obtain ⟨o, ho, hc⟩ := hr
  refine wpAny_bind (wpAny_isInstance (T := "StopIteration") (b := true) ⟨o, ho, hc⟩ isSubtype_stop ?_); exact wpAny_pure (q _ ke)
end
/-! ### zip(x, y) is made -/
def itN (t : Bool) : String := if t = true then "tuple_iterator" else "list_iterator"
abbrev itO (t : Bool) (l : Addr) : Obj := { cls := .type (itN t), data := .fields #[.ref l, .int 0 0] }
abbrev zg1 (t1 : Bool) (h : Heap) (l1 : Addr) : Heap := h.push (itO t1 l1)
abbrev zg2 (t1 t2 : Bool) (h : Heap) (l1 l2 : Addr) : Heap := (zg1 t1 h l1).push (itO t2 l2)
abbrev zg3 (t1 t2 : Bool) (h : Heap) (l1 l2 : Addr) : Heap := (zg2 t1 t2 h l1 l2).push { cls := .type "tuple", data := .seq #[.ref h.objs.size, .ref (zg1 t1 h l1).objs.size] }
abbrev zg4 (t1 t2 : Bool) (h : Heap) (l1 l2 : Addr) : Heap := (zg3 t1 t2 h l1 l2).push { cls := .type "tuple", data := .seq #[.none, .none] }
abbrev zg5 (t1 t2 : Bool) (h : Heap) (l1 l2 : Addr) : Heap := (zg4 t1 t2 h l1 l2).push { cls := .type "zip", data := .fields #[.none, .bool false, .bool false, .ref (zg2 t1 t2 h l1 l2).objs.size, .ref (zg3 t1 t2 h l1 l2).objs.size] }
theorem zmake (t1 t2 : Bool) (l1 l2 : Addr) (xs ys : Array Value) :
    Meets (Builtin.«zip.__new__» ⟨[.type "zip", .ref l1, .ref l2], []⟩) (fun _ R s => SqOf t1 s.heap l1 xs ∧ SqOf t2 s.heap l2 ys ∧ R (.ok (.ret (.ref (zg4 t1 t2 s.heap l1 l2).objs.size))) { s with heap := zg5 t1 t2 s.heap l1 l2 }) :=
  .of_wp fun prog w A R s h => by
    obtain ⟨hp, gn, d, tk, os⟩ := s; obtain ⟨p1, p2, h⟩ := h
    have sb := sub_zip
    cases t1 <;> cases t2
    · have a1 : Heap.IsList (Shared.heap ⟨hp, gn, d, tk, os⟩) l1 xs := p1
      have a2 : Heap.IsList (Shared.heap ⟨hp.push { cls := .type "list_iterator", data := .fields #[.ref l1, .int 0 0] }, gn, d, tk, os⟩) l2 ys := Heap.IsList.push p2 _
      wp_walk using wpAny_pyIter_list a1, wpAny_pyIter_list a2
      exact ⟨_, rfl, h⟩
    · have a1 : Heap.IsList (Shared.heap ⟨hp, gn, d, tk, os⟩) l1 xs := p1
      have a2 : Heap.IsTuple (Shared.heap ⟨hp.push { cls := .type "list_iterator", data := .fields #[.ref l1, .int 0 0] }, gn, d, tk, os⟩) l2 ys := Heap.IsTuple.push p2 _
      wp_walk using wpAny_pyIter_list a1, wpAny_pyIter_tuple a2
      exact ⟨_, rfl, h⟩
    · have a1 : Heap.IsTuple (Shared.heap ⟨hp, gn, d, tk, os⟩) l1 xs := p1
      have a2 : Heap.IsList (Shared.heap ⟨hp.push { cls := .type "tuple_iterator", data := .fields #[.ref l1, .int 0 0] }, gn, d, tk, os⟩) l2 ys := Heap.IsList.push p2 _
      wp_walk using wpAny_pyIter_tuple a1, wpAny_pyIter_list a2
      exact ⟨_, rfl, h⟩
    · have a1 : Heap.IsTuple (Shared.heap ⟨hp, gn, d, tk, os⟩) l1 xs := p1
      have a2 : Heap.IsTuple (Shared.heap ⟨hp.push { cls := .type "tuple_iterator", data := .fields #[.ref l1, .int 0 0] }, gn, d, tk, os⟩) l2 ys := Heap.IsTuple.push p2 _
      wp_walk using wpAny_pyIter_tuple a1, wpAny_pyIter_tuple a2
      exact ⟨_, rfl, h⟩
theorem itO_of {t : Bool} {h : Heap} {j l : Addr} (e : h.get? j = some (itO t l)) : ItOf t h j l 0 := by
  cases t
  · exact ⟨_, e, rfl, rfl⟩
  · exact ⟨_, e, rfl, rfl⟩
section
variable {prog : Program} {w : World} {A : Around} {E : Value → Shared → Prop} {s : Shared}
theorem zcall {t1 t2 : Bool} {l1 l2 : Addr} {xs ys : Array Value} {Q : Value → Shared → Prop} (q1 : SqOf t1 s.heap l1 xs) (q2 : SqOf t2 s.heap l2 ys)
    (h : ∀ h', ZAt t1 t2 h' (s.heap.objs.size + 4) (s.heap.objs.size + 2) (s.heap.objs.size + 3) s.heap.objs.size (s.heap.objs.size + 1) l1 l2 0 → h'.objs.size = s.heap.objs.size + 5 →
      (∀ c o, s.heap.get? c = some o → h'.get? c = some o) → Q (.ref (s.heap.objs.size + 4)) { s with heap := h' }) : wpAny (model prog w) A (call (.type "zip") [.ref l1, .ref l2]) Q E s := by
  refine callType_new F.called_zip (by decide) (F.typeCall_zip_2 _ _) (F.newCall_zip_2 _ _) (fun obj => F.args_object_init_3 obj _ _) F.entry_zip_new (zmake t1 t2 l1 l2 xs ys) ⟨q1, q2, ?_⟩
  have n1 : (zg1 t1 s.heap l1).objs.size = s.heap.objs.size + 1 := Heap.size_push ..
  have n2 : (zg2 t1 t2 s.heap l1 l2).objs.size = s.heap.objs.size + 2 := by rw [Heap.size_push, n1]
  have n3 : (zg3 t1 t2 s.heap l1 l2).objs.size = s.heap.objs.size + 3 := by rw [Heap.size_push, n2]
  have n4 : (zg4 t1 t2 s.heap l1 l2).objs.size = s.heap.objs.size + 4 := by rw [Heap.size_push, n3]
  have n5 : (zg5 t1 t2 s.heap l1 l2).objs.size = s.heap.objs.size + 5 := by rw [Heap.size_push, n4]
  have ne1 : ¬ ((itO t1 l1).isFreed = true) := by cases t1 <;> simp [Obj.isFreed]
  have up : ∀ {hh : Heap} {c : Addr} {o p : Obj}, hh.get? c = some o → (hh.push p).get? c = some o := fun x => Heap.get?_push_of_some _ x
  have f5 : (zg5 t1 t2 s.heap l1 l2).get? (zg4 t1 t2 s.heap l1 l2).objs.size = some _ := Heap.get?_push_size _ rfl
  have f4 : (zg5 t1 t2 s.heap l1 l2).get? (zg3 t1 t2 s.heap l1 l2).objs.size = some _ := up (Heap.get?_push_size _ rfl)
  have f3 : (zg5 t1 t2 s.heap l1 l2).get? (zg2 t1 t2 s.heap l1 l2).objs.size = some _ := up (up (Heap.get?_push_size _ rfl))
  have f2 : (zg5 t1 t2 s.heap l1 l2).get? (zg1 t1 s.heap l1).objs.size = some (itO t2 l2) := up (up (up (Heap.get?_push_size _ rfl)))
  have f1 : (zg5 t1 t2 s.heap l1 l2).get? s.heap.objs.size = some (itO t1 l1) := up (up (up (up (Heap.get?_push_size _ rfl))))
  show _ ∧ _
  rw [n2, n3, n4] at f5
  rw [n1, n2] at f3
  rw [n3] at f4
  rw [n1] at f2
  rw [n4]
  exact ⟨⟨_, f5, rfl⟩, h _ ⟨f5, f3, ⟨_, _, f4⟩, itO_of f1, itO_of f2⟩ n5 fun c o x => up (up (up (up (up x))))⟩
end

/-! ### the turns of a loop -/
def SqV (t : Bool) (K : PySem.W.Frag) (H : Hp) (a : Addr) (xs : List V) : Prop := if t = true then SqT K H a xs else SqL K H a xs
theorem SqV.at {X : Cx} {pins : List (Addr × Obj)} {σ : L2.St} {H : Hp} {s : Shared} {t : Bool} {a : Addr} {xs : List V} (I : Inv X pins σ H s) (h : SqV t X.K H a xs) : ∃ us, Vals xs us ∧ SqOf t s.heap a us.toArray := by
  cases t
  · obtain ⟨us, r, p, _⟩ := I.list h
    exact ⟨us, r, p.isList⟩
  · obtain ⟨us, r, p, _⟩ := I.tuple h
    exact ⟨us, r, p⟩
theorem SqV.inj {X : Cx} {pins : List (Addr × Obj)} {σ : L2.St} {H : Hp} {s : Shared} {t : Bool} {a : Addr} {xs ys : List V} (I : Inv X pins σ H s) (h : SqV t X.K H a xs) (h' : SqV t X.K H a ys) : xs = ys := by
  cases t
  · exact I.list_inj h h'
  · exact I.tuple_inj h h'
def ItM (t1 t2 : Bool) (K : PySem.W.Frag) (a b : Addr) : It :=
  ⟨fun i H => ∃ (xs ys : List V) (x y : V), SqV t1 K H a xs ∧ SqV t2 K H b ys ∧ xs[i]? = some x ∧ ys[i]? = some y,
    fun i H v H' => ∃ p x y, v = .ref p ∧ H p = none ∧ H' = upd H p (.tup [x, y]) ∧ (∀ xs, SqV t1 K H a xs → xs[i]? = some x) ∧ ∀ ys, SqV t2 K H b ys → ys[i]? = some y,
    fun i H => ∃ xs ys : List V, SqV t1 K H a xs ∧ SqV t2 K H b ys ∧ (xs.length ≤ i ∨ ys.length ≤ i)⟩
theorem turnM {t1 t2 : Bool} {P : Program} {w : World} {K : PySem.W.Frag} {elts : List Expr} {kk : Nat} {tpos : Pos} {l1 l2 z a b j1 j2 : Addr} (D : ZipApart z a b j1 j2 l1 l2) :
    Turn P w K (.Tuple elts kk tpos) (ItM t1 t2 K l1 l2) [z, a, b, j1, j2] z (fun i h => ZAt t1 t2 h z a b j1 j2 l1 l2 i) where
  mem := by simp
  obj := fun i h Z c hc => by
    have e : c = z ∨ c = a ∨ c = b ∨ c = j1 ∨ c = j2 := by simpa using hc
    obtain ⟨zz, pa, ⟨u, v, pb⟩, i1, i2⟩ := Z
    obtain ⟨o1, v1, e1, d1⟩ := i1.obj
    obtain ⟨o2, v2, e2, d2⟩ := i2.obj
    rcases e with n | n | n | n | n
    · rw [n]; exact ⟨_, zz, fun v q => nomatch q⟩
    · rw [n]; exact ⟨_, pa, fun v q => nomatch q⟩
    · rw [n]; exact ⟨_, pb, fun v q => nomatch q⟩
    · rw [n]; exact ⟨o1, e1, fun v q => by rw [d1] at q; cases q⟩
    · rw [n]; exact ⟨o2, e2, fun v q => by rw [d2] at q; cases q⟩
  keep := fun i h h' Z k => by
    obtain ⟨zz, pa, ⟨u, v, pb⟩, i1, i2⟩ := Z
    exact ⟨k z (by simp) _ zz, k a (by simp) _ pa, ⟨u, v, k b (by simp) _ pb⟩, i1.same fun o q => k j1 (by simp) o q, i2.same fun o q => k j2 (by simp) o q⟩
  item := by
    intro X hP hw hK hc i pins s σ H E I hf Z hg
    subst hP hw hK
    obtain ⟨xs, ys, x, y, hqx, hqy, hx, hy⟩ := hg
    obtain ⟨us, ru, q1⟩ := hqx.at I
    obtain ⟨ws, rw', q2⟩ := hqy.at I
    obtain ⟨u, hu, rx⟩ := ru.get hx
    obtain ⟨u2, hu2, ry⟩ := rw'.get hy
    have zlt : z < s.heap.objs.size := Heap.lt_size Z.zz
    have lts : ∀ c ∈ [z, a, b, j1, j2], c < s.heap.objs.size := fun c hcm => by
      have e : c = z ∨ c = a ∨ c = b ∨ c = j1 ∨ c = j2 := by simpa using hcm
      obtain ⟨zz, pa, ⟨_, _, pb⟩, i1, i2⟩ := Z
      obtain ⟨o1, v1, e1, _⟩ := i1.obj
      obtain ⟨o2, v2, e2, _⟩ := i2.obj
      rcases e with n | n | n | n | n
      · rw [n]; exact Heap.lt_size zz
      · rw [n]; exact Heap.lt_size pa
      · rw [n]; exact Heap.lt_size pb
      · rw [n]; exact Heap.lt_size e1
      · rw [n]; exact Heap.lt_size e2
    refine zat_py D Z q1 q2 (x := u) (y := u2) (by simpa using hu) (by simpa using hu2) fun h' zz' pb' i1' i2' new' sz' hk => ?_
    refine ⟨_, rfl, wpAny_letOwnedTupleGo_zip (s := { s with heap := h' }) zz' fun h2 zz2 sb => ?_⟩
    have new2 : h2.get? s.heap.objs.size = some { cls := .type "tuple", data := .seq #[u, u2] } := (sb.2 _ (Nat.ne_of_gt zlt)).trans new'
    have ok : ObjOk X.prog X.w (upd H s.heap.objs.size (.tup [x, y])) h2 s.heap.objs.size (.tup [x, y]) :=
      ⟨by show 2 ≤ sizeLine; decide, [u, u2], .cons rx (.cons ry .nil), ⟨_, new2, rfl, _, rfl⟩⟩
    have I1 : Inv X pins σ (upd H s.heap.objs.size (.tup [x, y])) { s with heap := h2 } := by
      refine I.turnedNew (t' := s.toks) (ch := [z, a, b, j1, j2]) (fun c o nb q => ?_) hf (Nat.le_refl _) ok
      have m : ∀ d ∈ [z, a, b, j1, j2], c ≠ d := fun d hd n => nb (n ▸ hd)
      exact (sb.2 c (m z (by simp))).trans (hk c o (m z (by simp)) (m b (by simp)) (m j1 (by simp)) (m j2 (by simp)) q)
    refine ⟨.ref s.heap.objs.size, _, I1, rfl, ⟨_, x, y, rfl, I.hok.fresh (Nat.le_refl _), rfl, fun l hl => by rw [hl.inj I hqx]; exact hx, fun l hl => by rw [hl.inj I hqy]; exact hy⟩, ⟨zz2, ?_, ⟨u, u2, ?_⟩, ?_, ?_⟩, fun c hcm => ?_⟩
    · exact (sb.2 _ D.TIz).trans (hk _ _ D.TIz D.TITO D.TIi1 D.TIi2 Z.pa)
    · exact (sb.2 _ D.TOz).trans pb'
    · exact i1'.same fun o q => (sb.2 _ D.i1z).trans q
    · exact i2'.same fun o q => (sb.2 _ D.i2z).trans q
    · rw [upd_ne (Nat.ne_of_lt (lts c hcm))]
      exact (hf c hcm).1
  done := by
    intro X hP hw hK hc i pins s σ H E I hf Z hg
    subst hP hw hK
    obtain ⟨xs, ys, hqx, hqy, he⟩ := hg
    obtain ⟨us, ru, q1⟩ := hqx.at I
    obtain ⟨ws, rw', q2⟩ := hqy.at I
    have n1 := ru.length
    have n2 := rw'.length
    have e : us.toArray[i]? = none ∨ ws.toArray[i]? = none := by
      rcases he with q | q
      · exact .inl (by simp; omega)
      · exact .inr (by simp; omega)
    refine zat_py_end (I.ok.hd hc) D Z q1 q2 e fun h' hk => ⟨rfl, I.turnedL (t' := s.toks) (ch := [z, a, b, j1, j2]) (fun c o nb q => ?_) hf⟩
    have m : ∀ d ∈ [z, a, b, j1, j2], c ≠ d := fun d hd n => nb (n ▸ hd)
    exact hk c o (m z (by simp)) (m b (by simp)) (m j1 (by simp)) (m j2 (by simp)) q
  self := fun A i s Q E Z h => wpAny_pyIter_zip Z.zz h
def iZipM (K : PySem.W.Frag) (ta : TA) : TI := fun σ H R => ta σ H fun vs H1 => ∃ t1 t2 a b xs ys, vs = [.ref a, .ref b] ∧ SqV t1 K H1 a xs ∧ SqV t2 K H1 b ys ∧ R (ItM t1 t2 K a b) H1
theorem pi_zipM {X : Cx} {e e2 : Expr} {ta : TA} {p pos tpos : Pos} {elts : List Expr} {kk : Nat} (hg : Gl X "zip") (hm : X.mg "zip" = none) (ha : PA X [e, e2] ta)
    (hs : starEach [e, e2] X.env = (false, eval e X.env) :: starEach [e2] X.env := by rfl) (hpl : (backTo pos (starEach [e2] X.env)).any (·.1) = false := by rfl) : PI X (.Tuple elts kk tpos) (.Call (.Name "zip" p) [e, e2] [] pos) (iZipM X.K ta) := by
  refine ⟨fun pins s σ H R I h => Call_ (ld_blt I hg hm PyProof.Rows.boot_zip (PyProof.Rows.callWith_type1 (thn (ha.run pos pins s σ H _ I h) fun us s1 ⟨vs, H1, I1, r1, q1⟩ => ?_) hs hpl))⟩
  obtain ⟨t1, t2, a, b, xs, ys, ex, hqx, hqy, q⟩ := q1
  subst ex
  cases r1 with
  | cons r rr =>
    cases rr with
    | cons r' rr =>
      cases rr
      cases r
      cases r'
      obtain ⟨us, ru, p1⟩ := hqx.at I1
      obtain ⟨ws, rw', p2⟩ := hqy.at I1
      obtain ⟨o1, e1⟩ := p1.obj
      obtain ⟨o2, e2⟩ := p2.obj
      refine zcall p1 p2 fun h' Z sz hk => wpAny_pyIter_zip Z.zz ?_
      have I2 : Inv X pins σ H1 { s1 with heap := h' } := I1.kept (t' := s1.toks) hk
      refine ⟨s1.heap.objs.size + 4, [s1.heap.objs.size + 4, s1.heap.objs.size + 2, s1.heap.objs.size + 3, s1.heap.objs.size, s1.heap.objs.size + 1], _, _, H1, rfl, I2, turnM (PySem.W.ktu_apart s1.heap.objs.size a b (Heap.lt_size e1) (Heap.lt_size e2)), Z, fun c hcm => ?_, q⟩
      have hle : s1.heap.objs.size ≤ c := by
        have e' : c = s1.heap.objs.size + 4 ∨ c = s1.heap.objs.size + 2 ∨ c = s1.heap.objs.size + 3 ∨ c = s1.heap.objs.size ∨ c = s1.heap.objs.size + 1 := by simpa using hcm
        have m : ∀ d : Nat, s1.heap.objs.size ≤ s1.heap.objs.size + d := fun d => Nat.le_add_right _ d
        rcases e' with n | n | n | n | n
        · rw [n]; exact m 4
        · rw [n]; exact m 2
        · rw [n]; exact m 3
        · rw [n]; exact m 0
        · rw [n]; exact m 1
      exact I1.fpOk hle (I1.hok.fresh hle)
theorem walkM {t1 t2 : Bool} {K : PySem.W.Frag} {a b : Addr} {xs ys : List V} {n : Nat} (hn : n = min xs.length ys.length) : Walk (ItM t1 t2 K a b) n (fun H => SqV t1 K H a xs ∧ SqV t2 K H b ys) (YPair (fun i => xs[i]?) (fun i => ys[i]?)) := by
  subst hn
  refine ⟨fun i _ hi q => ?_, fun _ q => ⟨xs, ys, q.1, q.2, by omega⟩, fun i H v H' _ q y => ?_⟩
  · exact ⟨xs, ys, xs[i]'(by omega), ys[i]'(by omega), q.1, q.2, by rw [List.getElem?_eq_getElem], by rw [List.getElem?_eq_getElem]⟩
  · obtain ⟨tp, x, z, h1, h2, h3, h4, h5⟩ := y
    exact ⟨tp, x, z, h1, h2, h3, h4 xs q.1, h5 ys q.2⟩
/-- a list (false), a tuple (true), known -/
def HasQ (t : Bool) (H0 : Hp) (a : Addr) (vs : List V) : Prop := H0 a = some (if t = true then .tup vs else .lst vs)
theorem HasQ.sq {t : Bool} {K : PySem.W.Frag} {H0 H : Hp} {a : Addr} {vs : List V} (h : HasQ t H0 a vs) (e : Same H0 H) : SqV t K H a vs := by
  cases t
  · exact SqL.of (e _ _ h)
  · exact SqT.of (e _ _ h)
theorem gives_zipM {t1 t2 : Bool} {K : PySem.W.Frag} {H0 : Hp} {a b : Addr} {vs ws : List V} {ds es : List D} (h : HasQ t1 H0 a vs) (hl : HasL H0 vs ds) (h' : HasQ t2 H0 b ws) (hl' : HasL H0 ws es) :
    Gives (ItM t1 t2 K a b) ((ds.zip es).map fun p => .tuple [p.1, p.2]) H0 := by
  refine ⟨_, _, walkM (K := K) (a := a) (b := b) (xs := vs) (ys := ws) (by simp [hl.length, hl'.length]), fun H1 e => ⟨h.sq e, h'.sq e⟩, fun i H1 x H2 d H0' hd e0 e1 y => ?_⟩
  obtain ⟨tp, u, w, rfl, hn, rfl, hu, hw⟩ := y
  obtain ⟨d1, a1, a2⟩ := hl.get hu
  obtain ⟨d2, b1, b2⟩ := hl'.get hw
  have e2 : ((ds.zip es).map fun p => PyData.tuple [p.1, p.2])[i]? = some (.tuple [d1, d2]) := by
    rw [List.getElem?_map, (List.getElem?_zip_eq_some (z := (d1, d2))).mpr ⟨a1, b1⟩]
    rfl
  rw [hd] at e2
  cases e2
  exact .inr ⟨tp, [u, w], [d1, d2], rfl, hn, rfl, rfl, .cons (a2.mono e0) (.cons (b2.mono e0) .nil)⟩
def seqD : D → Option (Bool × List D)
  | .list xs => some (false, xs)
  | .tuple xs => some (true, xs)
  | _ => none
theorem seqD_has {H0 : Hp} {v : V} {d : D} {t : Bool} {ds : List D} (h : Has H0 v d) (e : seqD d = some (t, ds)) : ∃ a vs, v = .ref a ∧ HasQ t H0 a vs ∧ HasL H0 vs ds := by
  cases h with
  | lst h1 h2 =>
    cases e
    exact ⟨_, _, rfl, h1, h2⟩
  | tup h1 h2 =>
    cases e
    exact ⟨_, _, rfl, h1, h2⟩
  | _ => cases e
def oZipM : List Ar → T (List D)
  | [.d x, .d y] => match seqD x, seqD y with
    | some (_, xs), some (_, ys) => .ret ((xs.zip ys).map fun p => .tuple [p.1, p.2])
    | _, _ => .bad
  | _ => .bad
section
variable {X : Cx} {g : Ct} {a b : Expr} {pos : Pos} {fs : Env' → T (List Ar)}
theorem i_zipM {p tpos : Pos} {elts : List Expr} {kk : Nat} (hg : Gl X "zip") (hm : X.mg "zip" = none) (ha : PA X [a, b] (tA g fs)) (hs : starEach [a, b] X.env = (false, eval a X.env) :: starEach [b] X.env := by rfl) (hpl : (backTo pos (starEach [b] X.env)).any (·.1) = false := by rfl) :
    PI X (.Tuple elts kk tpos) (.Call (.Name "zip" p) [a, b] [] pos) (tI g (iArg oZipM fs)) :=
  (pi_zipM hg hm ha hs hpl).imp fun σ H R ⟨β, H0, ρ, rr, q⟩ => tA_then (k := oZipM) rr q fun as vs H1 H2 st hv q1 => by
    unfold oZipM at q1
    split at q1
    · next x y =>
      split at q1
      · next t1 xs t2 ys ex ey =>
        obtain ⟨v, w, rfl, h1, h2⟩ := hv.two
        obtain ⟨a1, u1, rfl, k1, l1⟩ := seqD_has h1 ex
        obtain ⟨a2, u2, rfl, k2, l2⟩ := seqD_has h2 ey
        exact ⟨t1, t2, _, _, _, _, rfl, k1.sq st.ext, k2.sq st.ext, q1 _ H1 H2 st (gives_zipM k1 l1 k2 l2)⟩
      · exact q1.elim
    · exact q1.elim
@[simp] theorem ev_zipTT {xs ys : List D} : oZipM [.d (.tuple xs), .d (.tuple ys)] = .ret ((xs.zip ys).map fun p => .tuple [p.1, p.2]) := rfl
@[simp] theorem ev_zipLL {xs ys : List D} : oZipM [.d (.list xs), .d (.list ys)] = .ret ((xs.zip ys).map fun p => .tuple [p.1, p.2]) := rfl
@[simp] theorem ev_zipTL {xs ys : List D} : oZipM [.d (.tuple xs), .d (.list ys)] = .ret ((xs.zip ys).map fun p => .tuple [p.1, p.2]) := rfl
@[simp] theorem ev_zipLT {xs ys : List D} : oZipM [.d (.list xs), .d (.tuple ys)] = .ret ((xs.zip ys).map fun p => .tuple [p.1, p.2]) := rfl
end
end Wb

set_option Elab.async false
set_option linter.all false
set_option maxRecDepth 100000
set_option maxHeartbeats 4000000
/-! Wb, part 20: several except clauses, with names and without; errors without fields. -/
namespace Wb
open PySem PySem.Spec PyProof.Rows L2

/-- the ends of a suite, its name gone behind it -/
def nameless : Option Nat → Ends → Ends
  | none, D => D
  | some i, D => { nx := fun σ H => D.nx (σ.set i none) H, rt := D.rt, bk := fun σ H => D.bk (σ.set i none) H, ct := fun σ H => D.ct (σ.set i none) H }
def named : Option Nat → Addr → L2.St → L2.St
  | none, _, σ => σ
  | some i, a, σ => σ.set i (some (.ref a))
/-- what the clauses wish, one after the other -/
def wMix (K : PySem.W.Frag) (Wout : WX) (D : Ends) : List (Value × Option Nat × (Addr → Value → Option Addr → TS)) → WX
  | [] => Wout
  | (c, o, ts) :: r => fun cls d σ H => ∃ b, PySem.W.exmOne K cls c = some b ∧ (b = true → ∀ a, H a = none → ts a cls d (nameless o D) (named o a σ) H) ∧ (b = false → wMix K Wout D r cls d σ H)
/-- a clause's name and its slot -/
def NameOk (X : Cx) : Option Str → Option Nat → Prop
  | none, none => True
  | some n, some i => X.N[i]? = some n ∧ X.env.kindOf n = some .local
  | _, _ => False
inductive HdM (X : Cx) : List ExceptHandler → List (Value × Option Nat × (Addr → Value → Option Addr → TS)) → Prop
  | nil : HdM X [] []
  | cons {x : Str} {c : Value} {on : Option Str} {oi : Option Nat} {ts : Addr → Value → Option Addr → TS} {b0 : Stmt} {bs : List Stmt} {np p : Pos} {hds : List ExceptHandler} {l : List (Value × Option Nat × (Addr → Value → Option Addr → TS))} (hc : Names X x c) (hn : NameOk X on oi)
      (hsu : ∀ (a : Addr) (oe : Obj) (cls : Value) (d : Option Addr) (pn : List (Addr × Obj)), Zc cls d oe → (∃ vs, oe.data = .fields vs) → PSs (X.suite a ((a, oe) :: pn)) (b0 :: bs) (ts a cls d)) (r : HdM X hds l) :
      HdM X (.ExceptHandler (some (.Name x np)) on (b0 :: bs) p :: hds) ((c, oi, ts) :: l)
section
variable {X : Cx} {body : List Stmt} {h0 : ExceptHandler} {hds : List ExceptHandler} {l : List (Value × Option Nat × (Addr → Value → Option Addr → TS))} {pos : Pos} {tb : WX → TS} {Wout : WX}
theorem ps_try_mix (hs : X.stack = X.env :: X.outer) (hf : X.env.frame = some X.env.locals) (hN : X.N.Nodup) (tk : Takes X Wout)
    (hb : ∀ (W : WX) (pn : List (Addr × Obj)) (xe : Value → Shared → Prop), Takes (X.tr pn xe) W → PassesOwn (model X.prog X.w) X.A X.env xe → PSs (X.tr pn xe) body (tb W)) (hh : HdM X (h0 :: hds) l) :
    PS X (.Try body (h0 :: hds) [] [] pos) (fun D σ H => tb (wMix X.K Wout D l) D σ H) := by
  refine ⟨fun pins s σ H D I h => ?_⟩
  have ok := I.ok; have fr0 : X.A.frames = some (X.env :: X.outer) := by rw [ok.frames, hs]
  refine wpAny_Try_except (wpAny_mono ((hb (wMix X.K Wout D l) (X.pn ++ pins) (fun e s1 => wpAny (model X.prog X.w) X.A (noteFrame e X.env) (fun _ s2 => wpAny (model X.prog X.w) X.A (setFlight e none) (fun _ s3 =>
    wpAny (model X.prog X.w) X.A (handleBy e X.env (h0 :: hds)) (SP X pins D) X.xe s3) X.xe s2) X.xe s1) (fun u s' xx => ?_) PassesOwn.looking).run [] s σ H D (I.toTry _) h) (fun f s1 z => ?_) (fun e s1 z => z))
  · obtain ⟨a, B, sI, pins', τ, G, cls, d, rfl, J', nb, up, sky, na, os, ag, w⟩ := xx
    have J : Inv X pins τ G sI := J'.ofTry ok
    have sky' : Sky B (X.env :: X.outer) a (Zc cls d) X.env.locals s'.heap := by rw [← hs]; exact sky
    show wpAny (model X.prog X.w) X.A (noteFrame (.ref a) X.env) _ _ _; refine Sky.land Zc.steady fr0 hf sky' fun k fk upk => ?_
    have Jk : Inv X pins τ G { s' with heap := k } := J.landed nb fk.1 (up.trans upk) os ag
    obtain ⟨ok3, vk, ek, zk, dk⟩ := fk.there
    have nfr : a ∉ frs (X.env :: X.outer) := fun m => by
      obtain ⟨_, o', e', n'⟩ := fk.2.2.1.mem m; rw [ek] at e'; cases e'; exact n' _ dk
    have nL : a ≠ X.env.locals := fun z => nfr (List.mem_filterMap.mpr ⟨X.env, List.mem_cons_self, by rw [hf, z]⟩)
    have nF : a ∉ X.fs := fun m => by
      obtain ⟨e, he, q⟩ := List.mem_filterMap.mp m; exact nfr (List.mem_filterMap.mpr ⟨e, List.mem_cons_of_mem _ he, q⟩)
    have Sk := Jk.suite ek dk na nL nF
    have go : ∀ {hs' : List ExceptHandler} {l' : List (Value × Option Nat × (Addr → Value → Option Addr → TS))}, HdM X hs' l' → wMix X.K Wout D l' cls d τ G → wpAny (model X.prog X.w) X.A (handleBy (.ref a) X.env hs') (SP X pins D) X.xe { s' with heap := k } := by
      intro hs' l' hk
      induction hk with
      | nil =>
        intro w; refine wpAny_handleBy_nil ?_
        obtain ⟨_, _, _, oe, vs, T, oT, ts', he, hz, hd, h1, hr⟩ := id fk
        unfold PySem.passOn; refine wpAny_bind (wpAny_field he hd h1 ?_); rw [if_neg (show ¬ ((Value.ref T == Value.none) = true) from by simp)]
        have fin : wpAny (model X.prog X.w) X.A (setFlight (.ref a) X.env.frame) (fun _ s4 => wpAny (model X.prog X.w) X.A (throw (.ref a) : Sem Flow) (SP X pins D) X.xe s4) X.xe { s' with heap := k } := by
          rw [hf]; refine HandSPX.setFlight_upZ fk fun k4 hk4 up4 => wpAny_throw (tk _ _ ?_)
          exact ⟨a, B, sI, pins, τ, G, cls, d, rfl, J, nb, (up.trans upk).trans up4, .inr (.inr (by rw [hs]; exact hk4)), na, os, ag, w⟩
        first | exact wpAny_bind (wpAny_pure (wpAny_bind fin)) | exact wpAny_bind fin
      | @cons x c on oi ts b0 bs np p hds2 l2 hc hn hsu r ih =>
        intro w; obtain ⟨b, hb1, hyes, hno⟩ := w
        refine wpAny_handleBy_cons (codeAny_handlers_test ?_) (by intro q; cases q)
        have LT : PySem.W.Looks (model X.prog X.w) k (typeOf (.ref a)) cls := fun A Q E s k q => wpAny_typeOf_ref (k _ _ ek) (by rw [zk.1]; exact q)
        have LM := PySem.W.exm_one (M := model X.prog X.w) (Jk.kIn) LT hb1
        have look : ∀ {Q : Value → Shared → Prop} {E : Value → Shared → Prop}, Q c { s' with heap := k } → wpAny (model X.prog X.w) (X.A.mark (some (.ref a))) (eval (.Name x np) X.env) Q E { s' with heap := k } := fun {Q E} q => by
          obtain ⟨hg, hdbg, hm | ⟨hm, hv, hnn⟩⟩ := hc
          · exact ld_glob (X := X.suite a ((a, ok3) :: (X.pn ++ pins))) Sk hg hm q hdbg
          · exact ld_blt (X := X.suite a ((a, ok3) :: (X.pn ++ pins))) Sk hg hm hv q hnn hdbg
        refine look (LM.here ?_)
        cases b with
        | false => exact ih (hno rfl)
        | true =>
          match on, oi, hn with
          | none, none, _ =>
            refine codeAny_handlers_suite (HandSPX.lands_againZ fk fun k4 fk4 up4 => ?_)
            have J4 : Inv X pins τ G { s' with heap := k4 } := J.landed nb fk4.1 ((up.trans upk).trans up4) os ag
            obtain ⟨oe4, vs4, he4, hz4, hd4⟩ := fk4.there
            have S4 := J4.suite he4 hd4 na nL nF
            refine wpAny_mono ((hsu a oe4 cls d (X.pn ++ pins) hz4 ⟨_, hd4⟩).run [] _ _ G _ S4 (hyes rfl a na)) (fun f s6 z => ?_) (fun _ _ z => False.elim z)
            cases f with
            | ret u => obtain ⟨v, σ6, H6, S6, r6, q6⟩ := z; exact ⟨_, _, _, S6.unsuite ok, r6, q6⟩
            | _ => obtain ⟨σ6, H6, S6, q6⟩ := z; exact ⟨_, _, S6.unsuite ok, q6⟩
          | some n, some i, hn =>
            obtain ⟨hi, hln⟩ := hn
            have hloc : Loc X.env.scope n := .inl hln
            refine codeAny_handlers_suite_as (HandSPX.lands_againZ fk fun k4 fk4 up4 => ?_)
            have J4 : Inv X pins τ G { s' with heap := k4 } := J.landed nb fk4.1 ((up.trans upk).trans up4) os ag
            obtain ⟨oe4, vs4, he4, hz4, hd4⟩ := fk4.there
            have S4 := J4.suite he4 hd4 na nL nF
            refine store_ok (X := X.suite a ((a, oe4) :: (X.pn ++ pins))) (v := .ref a) S4 hN hi hloc rfl (fun s5 S5 => ?_) (.inr hln)
            refine wpAny_mono ((hsu a oe4 cls d (X.pn ++ pins) hz4 ⟨_, hd4⟩).run [] s5 _ G _ S5 (hyes rfl a na)) (fun f s6 z => ?_) (fun _ _ z => False.elim z)
            cases f with
            | ret u => obtain ⟨v, σ6, H6, S6, r6, q6⟩ := z; exact gone_ok (S6.unsuite ok) hN hi hln fun s7 J7 => ⟨_, _, _, J7, r6, q6⟩
            | next => obtain ⟨σ6, H6, S6, q6⟩ := z; exact gone_ok (S6.unsuite ok) hN hi hln fun s7 J7 => ⟨_, _, J7, q6⟩
            | brk => obtain ⟨σ6, H6, S6, q6⟩ := z; exact gone_ok (S6.unsuite ok) hN hi hln fun s7 J7 => ⟨_, _, J7, q6⟩
            | cont => obtain ⟨σ6, H6, S6, q6⟩ := z; exact gone_ok (S6.unsuite ok) hN hi hln fun s7 J7 => ⟨_, _, J7, q6⟩
    exact go hh w
  · cases f with
    | next => obtain ⟨τ, G, J, q⟩ := z; exact wpAny_execs_nil ⟨τ, G, J.ofTry ok, q⟩
    | brk => obtain ⟨τ, G, J, q⟩ := z; exact ⟨τ, G, J.ofTry ok, q⟩
    | cont => obtain ⟨τ, G, J, q⟩ := z; exact ⟨τ, G, J.ofTry ok, q⟩
    | ret u => obtain ⟨v, τ, G, J, r, q⟩ := z; exact ⟨v, τ, G, J.ofTry ok, r, q⟩
end

/-! ### in data -/
def afterN : Fl → T Fl
  | .nx ρ => .ret (.nx (clrE ρ))
  | .ret d => .ret (.ret d)
  | .brk ρ => .ret (.brk (clrE ρ))
  | .cnt ρ => .ret (.cnt (clrE ρ))
  | .exc _ _ => .bad
structure Cls where
  slot : Option Nat
  cm : Str → Option Bool
  G : Env' → T Fl
def clsGo : List Cls → Exn → Env' → T Fl
  | [], x, ρ => .ret (.exc x ρ)
  | c :: r, x, ρ => match c.cm x.cls with
    | some true => match c.slot with
      | some i => (c.G (ρ.set i (.ex x))).bind (afterX i)
      | none => (c.G ρ).bind afterN
    | some false => clsGo r x ρ
    | none => .bad
def trB (l : List Cls) : Fl → T Fl
  | .exc x ρ => clsGo l x ρ
  | fl => .ret fl
def sTryM (l : List Cls) (F : Env' → T Fl) : Env' → T Fl := fun ρ => (F ρ).bind (trB l)
section
variable {g : Ct} {β : Box} {A B C H0 H : Hp} {ρ : Env'} {σ : L2.St}
def wsOf (g : Ct) (l : List (Value × Cls)) : List (Value × Option Nat × (Addr → Value → Option Addr → TS)) := l.map fun p => (p.1, p.2.slot, fun a cls d => tS (g.h a cls d) p.2.G)
theorem s_tryM {X : Cx} {st : Stmt} {l : List (Value × Cls)} {F : Env' → T Fl} (hx : g.ξ = none) (hcm : ∀ p ∈ l, ∀ x C b, g.cad x = some C → p.2.cm x = some b → PySem.W.exmOne X.K (.ref C) p.1 = some b)
    (hs : PS X st (fun D σ H => tS { g with W := wMix X.K g.W D (wsOf g l) } F D σ H)) : PS X st (tS g (sTryM (l.map (·.2)) F)) := hs.imp fun E σ H ⟨β, A, B, C, H0, ρ, r, q⟩ => by
  refine ⟨β, A, B, C, H0, ρ, ⟨r.rel, r.st, r.base, r.lk, r.own⟩, T.wp_mono (fun fl z => ?_) (fun _ z => z) _ ((T.wp_bind _ _).mp q)⟩
  clear q hs
  cases fl with
  | nx ρ' => exact fun σ' H0' H' r' => z σ' H0' H' ⟨r'.rel, r'.st, r'.base, r'.lk, r'.own⟩
  | ret d => exact z
  | brk ρ' => exact fun σ' H0' H' r' => z σ' H0' H' ⟨r'.rel, r'.st, r'.base, r'.lk, r'.own⟩
  | cnt ρ' => exact fun σ' H0' H' r' => z σ' H0' H' ⟨r'.rel, r'.st, r'.base, r'.lk, r'.own⟩
  | exc x ρ' =>
    intro cv dx σ' H0' H' r' he
    have he' : ExcIs g.cad x cv dx H0' := he
    have r0 : SR g β A B C H0' ρ' σ' H' := ⟨r'.rel, r'.st, r'.base, r'.lk, r'.own⟩
    obtain ⟨⟨C', hC', ec⟩, _⟩ := id he'
    subst ec
    have key : ∀ l : List (Value × Cls), (∀ p ∈ l, ∀ x C b, g.cad x = some C → p.2.cm x = some b → PySem.W.exmOne X.K (.ref C) p.1 = some b) → (clsGo (l.map (·.2)) x ρ').wp (FlOut g β A B C E) noE → wMix X.K g.W E (wsOf g l) (.ref C') dx σ' H' := by
     clear z hcm
     intro l hcm z'
     induction l with
     | nil => exact z' _ dx σ' H0' H' r0 he'
     | cons p l ih =>
       have hp := hcm p (List.mem_cons_self ..) x.cls C'
       rw [List.map_cons] at z'
       unfold clsGo at z'
       split at z'
       · next hm =>
         refine ⟨true, hp _ hC' hm, fun _ a ha => ?_, fun w => by cases w⟩
         have r1 : SR (g.h a (.ref C') dx) β A B C H0' ρ' σ' H' := ⟨by
           have rel := r0.rel
           rw [hx] at rel
           exact rel.enter, r0.st, r0.base, r0.lk, r0.own⟩
         split at z'
         · next i hi =>
           have rr : SR (g.h a (.ref C') dx) β A B C H0' (ρ'.set i (.ex x)) (σ'.set i (some (.ref a))) H' := r1.set ⟨a, .ref C', dx, rfl, rfl, he'⟩ (fun _ w => by cases w)
           have back : ∀ {ρ2 : Env'} {σ2 : L2.St} {H2 H3 : Hp}, SR (g.h a (.ref C') dx) β A B C H2 ρ2 σ2 H3 → SR g β A B C H2 (clrE (ρ2.set i .no)) (σ2.set i none) H3 := fun {ρ2 σ2 H2 H3} r2 => by
             have r3 := r2.set (i := i) (sl := .no) (o := none) trivial (fun _ w => by cases w)
             exact ⟨r3.rel.clr, r3.st, r3.base, r3.lk, own_clr r3.own⟩
           show tS (g.h a (.ref C') dx) p.2.G (nameless p.2.slot E) (named p.2.slot a σ') H'
           rw [hi]
           refine ⟨β, A, B, C, H0', _, rr, T.wp_mono (fun fl2 z2 => ?_) (fun _ z => z) _ ((T.wp_bind _ _).mp z')⟩
           cases fl2 with
           | nx ρ2 => exact fun σ2 H2 H3 r2 => z2 _ H2 H3 (back r2)
           | ret d => exact z2
           | brk ρ2 => exact fun σ2 H2 H3 r2 => z2 _ H2 H3 (back r2)
           | cnt ρ2 => exact fun σ2 H2 H3 r2 => z2 _ H2 H3 (back r2)
           | exc _ _ => exact z2.elim
         · next hi =>
           have back : ∀ {ρ2 : Env'} {σ2 : L2.St} {H2 H3 : Hp}, SR (g.h a (.ref C') dx) β A B C H2 ρ2 σ2 H3 → SR g β A B C H2 (clrE ρ2) σ2 H3 := fun {ρ2 σ2 H2 H3} r3 => ⟨r3.rel.clr, r3.st, r3.base, r3.lk, own_clr r3.own⟩
           show tS (g.h a (.ref C') dx) p.2.G (nameless p.2.slot E) (named p.2.slot a σ') H'
           rw [hi]
           refine ⟨β, A, B, C, H0', _, r1, T.wp_mono (fun fl2 z2 => ?_) (fun _ z => z) _ ((T.wp_bind _ _).mp z')⟩
           cases fl2 with
           | nx ρ2 => exact fun σ2 H2 H3 r2 => z2 _ H2 H3 (back r2)
           | ret d => exact z2
           | brk ρ2 => exact fun σ2 H2 H3 r2 => z2 _ H2 H3 (back r2)
           | cnt ρ2 => exact fun σ2 H2 H3 r2 => z2 _ H2 H3 (back r2)
           | exc _ _ => exact z2.elim
       · next hm => exact ⟨false, hp _ hC' hm, (fun w => by cases w), fun _ => ih (fun p' hp' => hcm p' (List.mem_cons_of_mem _ hp')) z'⟩
       · exact z'.elim
    exact key l hcm z
end
end Wb

set_option Elab.async false
set_option linter.all false
set_option maxRecDepth 100000
set_option maxHeartbeats 4000000
/-! Wb, part 21: errors without fields. -/
namespace Wb
open PySem PySem.Spec PyProof.Rows L2

theorem un1 {A : Around} {k : Nat} (h : Room k A) : A.units + 1 < cLine := by
  have := h.un
  omega
/-- a class of errors without fields, that is raised -/
structure Err0 (K : PySem.W.Frag) (mg : Str → Option Value) (cad : Cad) (c : Str) : Prop where
  ex : ∃ C, PySem.W.excIn K C [.type "ValueError", .type "Exception", .type "BaseException", .type "object"] "ValueError.__new__" = true ∧ mg c = some (.ref C) ∧ PySem.W.keepIn K (.ref C) = true ∧ PySem.W.subIn K (.ref C) (.type "BaseException") = some true ∧ PySem.W.typeIn K (.ref C) = some (.type "type") ∧ cad c = some C
def sRaise0 (c : Str) : Env' → T Fl := fun ρ => .ret (.exc ⟨c, []⟩ ρ)
@[simp] theorem ev_Raise0 {c : Str} {ρ : Env'} : sRaise0 c ρ = .ret (.exc ⟨c, []⟩ ρ) := rfl
section
variable {X : Cx} {g : Ct} {x : Str} {p pos pos2 : Pos}
theorem pmk_none {C : Addr} {bm : List Value} {B n1 n2 : String} (F : ExcBaseFacts B n1 n2 bm) (q : PySem.W.excIn X.K C bm n1 = true) (gC : X.mg x = some (.ref C)) (kC : PySem.W.keepIn X.K (.ref C) = true) (r : Raises X (.ref C)) (hg : Gl X x)
    (hdb : (x == ("__debug__" : Str)) = false := by decide) : PMk X (.Call (.Name x p) [] [] pos) (fun _ H Q => Q (.ref C) none H) := by
  intro pins s σ H Q I h
  apply wpAny_Call_Name_kw
  apply ld_glob I hg gC _ hdb
  refine PySem.W.callWith_K0 I.kIn kC ?_
  show wpAny _ _ (call (.ref C) []) _ _ _
  obtain ⟨bm', N, nm, qn, bs, hdct, sn, sub, ab, col, dd, k0, k1, k2, k3, k5, mN, hC, hN, hni, T⟩ := exc_obj I.kIn q
  refine wpAny_call_exc_subT F T hC hN hni (fun h' e hm => ?_) (by show 0 ≤ sizeLine; decide)
  exact mk_of I hm r h (I.hok.gone hm.new)
theorem s_raise0 (E0 : Err0 X.K X.mg g.cad x) (hc : X.calm = true) (tk : Takes X g.W) (hg : Gl X x) (hdb : (x == ("__debug__" : Str)) = false := by decide) : PS X (.Raise (some (.Call (.Name x p) [] [] pos)) none pos2) (tS g (sRaise0 x)) := by
  obtain ⟨C, q, gC, kC, bP, tP, hcad⟩ := E0.ex
  exact (ps_raise hc tk (pmk_none PySem.F.excBase_ValueError q gC kC (raises_own bP tP) hg hdb)).imp fun E σ H ⟨β, A, B, C', H0, ρ, r, q⟩ => q (.ref C) none σ H0 H r ⟨⟨C, hcad, rfl⟩, .inl ⟨rfl, rfl⟩⟩
end
end Wb

set_option Elab.async false
set_option linter.all false
set_option maxRecDepth 100000
set_option maxHeartbeats 4000000
/-! Wb, part 22: reckoning that many laws want. -/
namespace Wb
open PySem PySem.Spec PyProof.Rows L2

/-! ### what is new, reckoned out -/
section
variable {F G : Env' → T Fl} {ρ : Env'} {x : Exn} {d : D} {l : List Cls} {cm : Str → Option Bool} {i : Nat}
@[simp] theorem ev_TryM : sTryM l F ρ = (F ρ).bind (trB l) := rfl
@[simp] theorem tr_nx : trB l (.nx ρ) = .ret (.nx ρ) := rfl
@[simp] theorem tr_ret : trB l (.ret d) = .ret (.ret d) := rfl
@[simp] theorem tr_exc : trB l (.exc x ρ) = clsGo l x ρ := rfl
theorem cg_name (h : cm x.cls = some true) : clsGo (⟨some i, cm, G⟩ :: l) x ρ = (G (ρ.set i (.ex x))).bind (afterX i) := by
  unfold clsGo
  simp only [h]
theorem cg_bare (h : cm x.cls = some true) : clsGo (⟨none, cm, G⟩ :: l) x ρ = (G ρ).bind afterN := by
  unfold clsGo
  simp only [h]
theorem cg_miss {o : Option Nat} (h : cm x.cls = some false) : clsGo (⟨o, cm, G⟩ :: l) x ρ = clsGo l x ρ := by
  conv => lhs; unfold clsGo
  simp only [h]
@[simp] theorem an_nx : afterN (.nx ρ) = .ret (.nx (clrE ρ)) := rfl
@[simp] theorem an_ret : afterN (.ret d) = .ret (.ret d) := rfl
end
/-! ### small enough to be shown -/
structure Sm (n k : Nat) (v : D) : Prop where
  show_ : v.showable = true
  len : v.shown.length ≤ n
  dep : v.depth ≤ k
theorem Sm.mono {n k n' k' : Nat} {v : D} (h : Sm n k v) (hn : n ≤ n') (hk : k ≤ k') : Sm n' k' v := ⟨h.show_, Nat.le_trans h.len hn, Nat.le_trans h.dep hk⟩
theorem Sm.ok {n k : Nat} {v : D} (h : Sm n k v) (hn : n ≤ 10000000) (hk : k ≤ 100) : okRep v = true := by
  unfold okRep
  rw [Bool.and_eq_true, Bool.and_eq_true]
  have := h.len
  have := h.dep
  exact ⟨⟨h.show_, decide_eq_true (by omega)⟩, decide_eq_true (by omega)⟩
theorem sm_all {n k : Nat} : ∀ {xs : List D}, (∀ x ∈ xs, Sm n k x) → PyData.showableAll xs = true ∧ PyData.depthAll xs ≤ k ∧ ((PyData.shownAll xs).map (·.length)).sum ≤ n * xs.length ∧ (PyData.shownAll xs).length = xs.length
  | [], _ => by simp [PyData.showableAll, PyData.depthAll, PyData.shownAll]
  | x :: r, h => by
    have hx := h x (List.mem_cons_self ..)
    obtain ⟨r1, r2, r3, r4⟩ := sm_all fun y hy => h y (List.mem_cons_of_mem _ hy)
    have h1 := hx.len
    have h2 := hx.dep
    have e : n * (r.length + 1) = n * r.length + n := by rw [Nat.mul_add, Nat.mul_one]
    simp only [PyData.showableAll, PyData.depthAll, PyData.shownAll, hx.show_, r1, List.length_cons, List.map_cons, List.sum_cons, r4]
    refine ⟨rfl, ?_, ?_, trivial⟩ <;> omega
theorem sm_list {n k m : Nat} {xs : List D} (h : ∀ x ∈ xs, Sm n k x) (hm : xs.length ≤ m) : Sm ((n + 2) * m + 3) (k + 1) (.list xs) := by
  obtain ⟨r1, r2, r3, r4⟩ := sm_all h
  have e := listText_len_le (PyData.shownAll xs)
  have e1 := Nat.mul_le_mul_left n hm
  have e2 : (n + 2) * m = n * m + 2 * m := Nat.add_mul ..
  refine ⟨by simp only [PyData.showable]; exact r1, ?_, by simp only [PyData.depth]; omega⟩
  simp only [PyData.shown]
  omega
theorem Fine.sm {k b : Nat} {v : D} (h : Fine k b v) : Sm (62 * b + 60) k v := by
  have t := h.tid
  unfold Wb.tid at t
  rw [Bool.and_eq_true] at t
  have e := PyData.shown_le_bulk 60 (by decide) v t.1
  have e2 := Nat.mul_le_mul_left 62 h.blk
  exact ⟨t.2, by omega, h.dep⟩
def smB (n k : Nat) (v : D) : Bool := v.showable && decide (v.shown.length ≤ n) && decide (v.depth ≤ k)
theorem sm_by {n k : Nat} {v : D} (h : smB n k v = true) : Sm n k v := by
  unfold smB at h
  simp only [Bool.and_eq_true, decide_eq_true_eq] at h
  exact ⟨h.1.1, h.1.2, h.2⟩
/-- a tree whose leaves are good, not to be unfolded -/
structure Wp {α : Type} (t : T α) (P : α → Prop) : Prop where
  wp : t.wp P noE
theorem Wp.le {α : Type} {t : T α} {P Q : α → Prop} {E : Exn → Prop} (h : Wp t P) (k : ∀ a, P a → Q a) : t.wp Q E := T.le h.wp k
def inR (lo hi : Int) : D → Bool
  | .int i => decide (lo ≤ i) && decide (i ≤ hi)
  | _ => false
def okv (n m : Int) : D → Bool
  | .tuple xs => decide ((xs.length : Int) = n) && xs.all (inR (-m) m)
  | _ => false
theorem map_bools {p : D → Bool} (xs : List D) : xs.map (fun x => PyData.bool (p x)) = (xs.map p).map PyData.bool := by
  rw [List.map_map]
  rfl
theorem oAll_map {p : D → Bool} (xs : List D) : oAll (.list (xs.map fun x => PyData.bool (p x))) = .ret (.bool (xs.all p)) := by
  rw [map_bools]
  show (match boolsOf ((xs.map p).map PyData.bool) with
    | some bs => T.ret (PyData.bool (bs.all id))
    | none => .bad) = _
  rw [boolsOf_map]
  simp [List.all_map]
theorem hasDict_filter {p : D → Bool} : ∀ xs : List D, PyData.hasDictAll xs = false → PyData.hasDictAll (xs.filter p) = false
  | [], h => h
  | x :: r, h => by
    simp only [PyData.hasDictAll, Bool.or_eq_false_iff] at h
    rw [List.filter_cons]
    split
    · simp only [PyData.hasDictAll, Bool.or_eq_false_iff]
      exact ⟨h.1, hasDict_filter r h.2⟩
    · exact hasDict_filter r h.2
theorem canLay_filter {p : D → Bool} : ∀ xs : List D, PyData.canLayAll0 xs = true → PyData.canLayAll0 (xs.filter p) = true
  | [], h => h
  | x :: r, h => by
    simp only [PyData.canLayAll0, Bool.and_eq_true] at h
    rw [List.filter_cons]
    split
    · simp only [PyData.canLayAll0, Bool.and_eq_true]
      exact ⟨h.1, canLay_filter r h.2⟩
    · exact canLay_filter r h.2
theorem depth_filter {p : D → Bool} : ∀ xs : List D, PyData.depthAll (xs.filter p) ≤ PyData.depthAll xs
  | [] => Nat.le_refl _
  | x :: r => by
    have ih := depth_filter (p := p) r
    rw [List.filter_cons]
    split
    · simp only [PyData.depthAll]
      omega
    · simp only [PyData.depthAll]
      omega
theorem cEq_filter {p : D → Bool} {xs : List D} (h : cEq (.tuple xs) = true) : cEq (.list (xs.filter p)) = true := by
  obtain ⟨h1, h2⟩ := cEq_of h
  unfold SeqAt.shaped at h2
  rw [Bool.and_eq_true] at h2
  simp only [PyData.hasDict] at h1
  simp only [PyData.canLay0] at h2
  have hd := depth_filter (p := p) xs
  have h3 := of_decide_eq_true h2.2
  simp only [PyData.depth] at h3
  unfold cEq SeqAt.shaped
  simp only [PyData.hasDict, PyData.canLay0, PyData.depth, hasDict_filter xs h1, canLay_filter xs h2.1, Bool.not_false, Bool.true_and]
  exact decide_eq_true (by omega)
theorem eqvAll_nil : ∀ xs : List D, PyData.eqvAll xs [] = xs.isEmpty
  | [] => by simp [PyData.eqvAll]
  | _ :: _ => by simp [PyData.eqvAll]
theorem cEq_nil : cEq (.list []) = true := by decide +kernel
theorem oEq_nil {xs : List D} (h : cEq (.list xs) = true) : oEq (.list xs) (.list []) = .ret (.bool xs.isEmpty) := by
  unfold oEq
  rw [h, cEq_nil, Bool.and_self, Bool.or_true]
  simp only [if_true, PyData.eqv, eqvAll_nil]
theorem filter_empty {p : D → Bool} : ∀ xs : List D, (xs.filter fun x => !p x).isEmpty = xs.all p
  | [] => rfl
  | x :: r => by
    rw [List.filter_cons, List.all_cons]
    cases hp : p x with
    | true =>
      simp only [Bool.not_true, Bool.true_and]
      exact filter_empty r
    | false => rfl
theorem fmod_nat (a b : Nat) : Int.fmod (a : Int) (b : Int) = ((a % b : Nat) : Int) := by
  rw [Int.fmod_eq_emod_of_nonneg _ (Int.natCast_nonneg b)]
  exact (Int.natCast_emod a b).symm
theorem abs_nat (z : Int) : (if z < 0 then -z else z) = (z.natAbs : Int) := by
  split <;> omega
def gcdL (ns : List Int) : Nat := ns.foldl (fun g n => Nat.gcd g n.natAbs) 0
def intsD : List D → List Int
  | [] => []
  | .int i :: r => i :: intsD r
  | _ :: r => 0 :: intsD r
theorem intsD_map : ∀ ns : List Int, intsD (ns.map PyData.int) = ns
  | [] => rfl
  | n :: r => by
    show n :: intsD (r.map PyData.int) = n :: r
    rw [intsD_map r]
theorem intsD_of {lo hi : Int} : ∀ {xs : List D}, xs.all (inR lo hi) = true → xs = (intsD xs).map PyData.int ∧ ∀ n ∈ intsD xs, lo ≤ n ∧ n ≤ hi
  | [], _ => ⟨rfl, fun _ h => nomatch h⟩
  | x :: r, h => by
    rw [List.all_cons, Bool.and_eq_true] at h
    obtain ⟨h1, h2⟩ := h
    obtain ⟨e, k⟩ := intsD_of h2
    cases x with
    | int i =>
      simp only [inR, Bool.and_eq_true, decide_eq_true_eq] at h1
      refine ⟨?_, fun n hn => ?_⟩
      · show PyData.int i :: r = PyData.int i :: (intsD r).map PyData.int
        rw [← e]
      · have hn' : n ∈ i :: intsD r := hn
        rcases List.mem_cons.mp hn' with z | z
        · subst z
          exact h1
        · exact k n z
    | _ => cases h1
theorem all_inR {lo hi : Int} {ns : List Int} (h : ∀ n ∈ ns, lo ≤ n ∧ n ≤ hi) : (ns.map PyData.int).all (inR lo hi) = true := by
  rw [List.all_eq_true]
  intro x hx
  obtain ⟨n, hn, rfl⟩ := List.mem_map.mp hx
  have := h n hn
  simp only [inR, Bool.and_eq_true, decide_eq_true_eq]
  exact this
def dirB (n : Int) (v : D) : Bool := okv n 4 v && (match v with
  | .tuple xs => gcdL (intsD xs) == 1
  | _ => false)
theorem one_eq (g : Nat) : decide ((g : Int) = 1) = (g == 1) := by
  rw [Bool.eq_iff_iff]
  simp
  omega
theorem dirB_of {ns : List Int} (h : ∀ n ∈ ns, -4 ≤ n ∧ n ≤ 4) (hg : gcdL ns = 1) : dirB ns.length (.tuple (ns.map PyData.int)) = true := by
  simp [dirB, okv, all_inR h, intsD_map, hg]
def gcdF (g : Nat) (ns : List Int) : Nat := ns.foldl (fun g n => Nat.gcd g n.natAbs) g
theorem gcdF_dvd : ∀ (ns : List Int) (g : Nat), gcdF g ns ∣ g ∧ ∀ n ∈ ns, gcdF g ns ∣ n.natAbs
  | [], g => ⟨Nat.dvd_refl g, fun _ h => nomatch h⟩
  | n :: r, g => by
    obtain ⟨h1, h2⟩ := gcdF_dvd r (Nat.gcd g n.natAbs)
    have e : gcdF g (n :: r) = gcdF (Nat.gcd g n.natAbs) r := rfl
    rw [e]
    refine ⟨Nat.dvd_trans h1 (Nat.gcd_dvd_left _ _), fun m hm => ?_⟩
    rcases List.mem_cons.mp hm with z | z
    · subst z
      exact Nat.dvd_trans h1 (Nat.gcd_dvd_right _ _)
    · exact h2 m z
theorem gcdF_scale (c : Nat) : ∀ (ns : List Int) (g : Nat), gcdF (c * g) (ns.map fun n => (c : Int) * n) = c * gcdF g ns
  | [], g => rfl
  | n :: r, g => by
    have e : gcdF (c * g) ((n :: r).map fun n => (c : Int) * n) = gcdF (Nat.gcd (c * g) ((c : Int) * n).natAbs) (r.map fun n => (c : Int) * n) := rfl
    rw [e, Int.natAbs_mul, Int.natAbs_natCast, Nat.gcd_mul_left, gcdF_scale c r]
    rfl
theorem gcdF_zero : ∀ (ns : List Int) (g : Nat), gcdF g ns = 0 → g = 0 ∧ ∀ n ∈ ns, n = 0
  | [], g, h => ⟨h, fun _ z => nomatch z⟩
  | n :: r, g, h => by
    obtain ⟨h1, h2⟩ := gcdF_zero r _ h
    have h3 := Nat.gcd_eq_zero_iff.mp h1
    refine ⟨h3.1, fun m hm => ?_⟩
    rcases List.mem_cons.mp hm with z | z
    · subst z
      exact Int.natAbs_eq_zero.mp h3.2
    · exact h2 m z
theorem divided {ns : List Int} (h : ∀ n ∈ ns, -4 ≤ n ∧ n ≤ 4) (hg : gcdL ns ≠ 0) :
    gcdL ns ≤ 4 ∧ gcdL (ns.map fun n => n.fdiv (gcdL ns : Nat)) = 1 ∧ ∀ n ∈ ns.map fun n => n.fdiv (gcdL ns : Nat), -4 ≤ n ∧ n ≤ 4 := by
  obtain ⟨c, hc⟩ : ∃ c, c = gcdL ns := ⟨_, rfl⟩
  rw [← hc] at hg ⊢
  have hd : ∀ n ∈ ns, c ∣ n.natAbs := fun n hn => hc ▸ (gcdF_dvd ns 0).2 n hn
  have q : ∀ n ∈ ns, (c : Int) * n.fdiv (c : Nat) = n := fun n hn => by
    rw [Int.fdiv_eq_ediv_of_nonneg _ (Int.natCast_nonneg c)]
    exact Int.mul_ediv_cancel' (Int.ofNat_dvd_left.mpr (hd n hn))
  have back : (ns.map fun n => n.fdiv (c : Nat)).map (fun n => (c : Int) * n) = ns := by
    rw [List.map_map]
    have : ∀ l : List Int, (∀ n ∈ l, (c : Int) * n.fdiv (c : Nat) = n) → l.map ((fun n => (c : Int) * n) ∘ fun n => n.fdiv (c : Nat)) = l := fun l => by
      induction l with
      | nil => intro _; rfl
      | cons x r ih =>
        intro hl
        rw [List.map_cons, ih fun n hn => hl n (List.mem_cons_of_mem _ hn)]
        show (c : Int) * x.fdiv (c : Nat) :: r = x :: r
        rw [hl x (List.mem_cons_self ..)]
    exact this ns q
  have sc := gcdF_scale c (ns.map fun n => n.fdiv (c : Nat)) 0
  rw [back, Nat.mul_zero] at sc
  have sc' : c = c * gcdL (ns.map fun n => n.fdiv (c : Nat)) := hc.trans sc
  have one : gcdL (ns.map fun n => n.fdiv (c : Nat)) = 1 := by
    have p : 0 < c := Nat.pos_of_ne_zero hg
    exact (Nat.eq_of_mul_eq_mul_left p (by rw [Nat.mul_one]; exact sc')).symm
  have small : ∀ n ∈ ns, -4 ≤ n.fdiv (c : Nat) ∧ n.fdiv (c : Nat) ≤ 4 := fun n hn => by
    have e := q n hn
    have hb := h n hn
    have e2 : c * (n.fdiv (c : Nat)).natAbs = n.natAbs := by
      have := congrArg Int.natAbs e
      rw [Int.natAbs_mul, Int.natAbs_natCast] at this
      exact this
    have p : 1 ≤ c := Nat.pos_of_ne_zero hg
    have e3 : (n.fdiv (c : Nat)).natAbs ≤ c * (n.fdiv (c : Nat)).natAbs := Nat.le_mul_of_pos_left _ p
    omega
  refine ⟨?_, one, fun n hn => ?_⟩
  · by_cases z : ∃ n ∈ ns, n ≠ 0
    · obtain ⟨n, hn, hz⟩ := z
      have := Nat.le_of_dvd (by omega) (hd n hn)
      have := h n hn
      omega
    · exfalso
      apply hg
      rw [hc]
      have : ∀ (l : List Int) , (∀ n ∈ l, n = 0) → gcdF 0 l = 0 := fun l => by
        induction l with
        | nil => intro _; rfl
        | cons x r ih =>
          intro hl
          have e := hl x (List.mem_cons_self ..)
          subst e
          exact ih fun n hn => hl n (List.mem_cons_of_mem _ hn)
      exact this ns fun n hn => Classical.byContradiction fun k => z ⟨n, hn, k⟩
  · obtain ⟨m, hm, rfl⟩ := List.mem_map.mp hn
    exact small m hm
theorem rangeD_len {a : Int} {n : Nat} : (rangeD a n).length = n := by simp [rangeD]
theorem each_ints {lo hi : Int} {ds : List D} : ∀ {ys : List D}, Each (fun _ y => ∃ z, y = PyData.int z ∧ lo ≤ z ∧ z ≤ hi) ds ys → ∃ ns : List Int, ys = ns.map PyData.int ∧ ns.length = ds.length ∧ ∀ n ∈ ns, lo ≤ n ∧ n ≤ hi := by
  intro ys h
  induction h with
  | nil => exact ⟨[], rfl, rfl, fun _ z => nomatch z⟩
  | cons h1 _ ih =>
    obtain ⟨z, rfl, hz⟩ := h1
    obtain ⟨ns, rfl, hl, hb⟩ := ih
    refine ⟨z :: ns, rfl, by simp [hl], fun n hn => ?_⟩
    rcases List.mem_cons.mp hn with k | k
    · subst k
      exact hz
    · exact hb n k
theorem oRng1_nat {n : Nat} (h : n < 1000000) : oRng1 [.d (.int (n : Nat))] = .ret (rangeD 0 n) := by
  show (if (n : Int).natAbs < 1000000000000 then T.ret (rangeD 0 (n : Int).toNat) else .bad) = _
  rw [if_pos (by omega)]
  rfl
theorem zip_ints : ∀ (ws ns : List Int), ((ws.map PyData.int).zip (ns.map PyData.int)).map (fun p => PyData.tuple [p.1, p.2]) = (ws.zip ns).map fun p => PyData.tuple [.int p.1, .int p.2]
  | [], _ => rfl
  | _ :: _, [] => rfl
  | w :: ws, n :: ns => by
    have ih := zip_ints ws ns
    simp only [List.map_cons, List.zip_cons_cons] at ih ⊢
    rw [ih]
def dotZ (ws ns : List Int) : Int := ((ws.zip ns).map fun p => p.1 * p.2).sum

/-! ### vectors of ints -/
def vecD (ns : List Int) : D := .tuple (ns.map PyData.int)
theorem eqvAll_ints : ∀ as bs : List Int, PyData.eqvAll (as.map PyData.int) (bs.map PyData.int) = decide (as = bs)
  | [], [] => by simp [PyData.eqvAll]
  | [], _ :: _ => by simp [PyData.eqvAll]
  | _ :: _, [] => by simp [PyData.eqvAll]
  | a :: as, b :: bs => by
    have ih := eqvAll_ints as bs
    have e : PyData.eqv (.int a) (.int b) = decide (a = b) := by
      rw [Bool.eq_iff_iff]
      simp [PyData.eqv]
    simp only [List.map_cons, PyData.eqvAll, e, ih, List.cons.injEq]
    rw [Bool.eq_iff_iff]
    simp
theorem eqv_vec (as bs : List Int) : PyData.eqv (vecD as) (vecD bs) = decide (as = bs) := by
  unfold vecD
  simp only [PyData.eqv, eqvAll_ints]
theorem ints_fine' {ns : List Int} (h : ∀ x ∈ ns, x.natAbs < 10 ^ 50) : ∀ x ∈ ns.map PyData.int, Fine 0 0 x := fun x hx => by
  obtain ⟨n, hn, rfl⟩ := List.mem_map.mp hx
  exact fine_int (h n hn)
theorem vec_fine {ns : List Int} {m : Nat} (h : ∀ x ∈ ns, x.natAbs < 10 ^ 50) (hl : ns.length ≤ m) : Fine 1 m (vecD ns) := (fine_tuple (ints_fine' h) (n := m) (by rw [List.length_map]; exact hl)).mono (by omega) (by omega)
/-- the differences -/
def gapL (as bs : List Int) : List Int := (as.zip bs).map fun p => p.2 - p.1
theorem gapL_zero : ∀ {as bs : List Int}, as.length = bs.length → (∀ x ∈ gapL as bs, x = 0) → as = bs
  | [], [], _, _ => rfl
  | [], _ :: _, h, _ => nomatch h
  | _ :: _, [], h, _ => nomatch h
  | a :: as, b :: bs, h, k => by
    have e1 := k (b - a) (by unfold gapL; simp)
    have e2 := gapL_zero (as := as) (bs := bs) (by simpa using h) fun x hx => k x (by
      unfold gapL at hx ⊢
      rw [List.zip_cons_cons, List.map_cons]
      exact List.mem_cons_of_mem _ hx)
    have e3 : a = b := by omega
    rw [e3, e2]
/-- divided by the divisor of all, none but 1 is left -/
theorem share_one {ns : List Int} (hg : gcdL ns ≠ 0) : gcdL (ns.map fun n => n.fdiv (gcdL ns : Nat)) = 1 ∧ ∀ n ∈ ns, (n.fdiv (gcdL ns : Nat)).natAbs ≤ n.natAbs := by
  obtain ⟨c, hc⟩ : ∃ c, c = gcdL ns := ⟨_, rfl⟩
  rw [← hc] at hg ⊢
  have hd : ∀ n ∈ ns, c ∣ n.natAbs := fun n hn => hc ▸ (gcdF_dvd ns 0).2 n hn
  have q : ∀ n ∈ ns, (c : Int) * n.fdiv (c : Nat) = n := fun n hn => by
    rw [Int.fdiv_eq_ediv_of_nonneg _ (Int.natCast_nonneg c)]
    exact Int.mul_ediv_cancel' (Int.ofNat_dvd_left.mpr (hd n hn))
  have back : (ns.map fun n => n.fdiv (c : Nat)).map (fun n => (c : Int) * n) = ns := by
    rw [List.map_map]
    have : ∀ l : List Int, (∀ n ∈ l, (c : Int) * n.fdiv (c : Nat) = n) → l.map ((fun n => (c : Int) * n) ∘ fun n => n.fdiv (c : Nat)) = l := fun l => by
      induction l with
      | nil => intro _; rfl
      | cons x r ih =>
        intro hl
        rw [List.map_cons, ih fun n hn => hl n (List.mem_cons_of_mem _ hn)]
        show (c : Int) * x.fdiv (c : Nat) :: r = x :: r
        rw [hl x (List.mem_cons_self ..)]
    exact this ns q
  have sc := gcdF_scale c (ns.map fun n => n.fdiv (c : Nat)) 0
  rw [back, Nat.mul_zero] at sc
  have sc' : c = c * gcdL (ns.map fun n => n.fdiv (c : Nat)) := hc.trans sc
  have p : 0 < c := Nat.pos_of_ne_zero hg
  refine ⟨(Nat.eq_of_mul_eq_mul_left p (by rw [Nat.mul_one]; exact sc')).symm, fun n hn => ?_⟩
  have e := congrArg Int.natAbs (q n hn)
  rw [Int.natAbs_mul, Int.natAbs_natCast] at e
  have e3 : (n.fdiv (c : Nat)).natAbs ≤ c * (n.fdiv (c : Nat)).natAbs := Nat.le_mul_of_pos_left _ p
  omega
theorem gcdL_zero {ns : List Int} (h : gcdL ns = 0) : ∀ n ∈ ns, n = 0 := (gcdF_zero ns 0 h).2
theorem gcdL_le {ns : List Int} {m : Nat} (h : ∀ n ∈ ns, n.natAbs < m) : gcdL ns = 0 ∨ gcdL ns < m := by
  by_cases z : ∃ n ∈ ns, n ≠ 0
  · obtain ⟨n, hn, hz⟩ := z
    have := Nat.le_of_dvd (by omega) ((gcdF_dvd ns 0).2 n hn)
    have := h n hn
    have e : gcdL ns = gcdF 0 ns := rfl
    exact .inr (by omega)
  · refine .inl ?_
    have : ∀ l : List Int, (∀ n ∈ l, n = 0) → gcdF 0 l = 0 := fun l => by
      induction l with
      | nil => intro _; rfl
      | cons x r ih =>
        intro hl
        have e := hl x (List.mem_cons_self ..)
        subst e
        exact ih fun n hn => hl n (List.mem_cons_of_mem _ hn)
    exact this ns fun n hn => Classical.byContradiction fun k => z ⟨n, hn, k⟩
/-! ### Euclid's loop -/
abbrev eucT : Env' → T D := eBin oGt (eV 1) (eC (.int 0))
abbrev eucF : Env' → T Fl := sPar 0 1 (aCons (eV 1) (aCons (eBin oMod (eCb (o1 oInt) (aCons (eV 0) aNil)) (eV 1)) aNil))
theorem euc_end (n : Nat) (a : D) : whGo eucT eucF (n + 1) [.d a, .d (.int 0)] = .ret (.nx [.d a, .d (.int 0)]) := by
  rw [wh_S]
  simp
theorem euc_step (n a b : Nat) (hb : 0 < b) : whGo eucT eucF (n + 1) [.d (.int (a : Nat)), .d (.int (b : Nat))] = whGo eucT eucF n [.d (.int (b : Nat)), .d (.int ((a % b : Nat) : Int))] := by
  have e2 := fmod_nat a b
  have e3 : ¬ ((b : Nat) : Int) = 0 := by omega
  have e4 : (0 : Int) < (b : Nat) := by omega
  rw [wh_S]
  simp only [ev_bin, ev_VS, ev_V0, ev_C, T.ret_bind, ev_i2, T.lift]
  simp [e2, e3, e4, hb, Nat.ne_of_gt hb]
theorem euc : ∀ (k m a b : Nat), b < 2 ^ k → whGo eucT eucF (2 * k + 1 + m) [.d (.int (a : Nat)), .d (.int (b : Nat))] = .ret (.nx [.d (.int ((Nat.gcd a b : Nat) : Int)), .d (.int 0)])
  | 0, m, a, b, h => by
    have hb : b = 0 := by simpa using h
    subst hb
    rw [Nat.gcd_zero_right, show 2 * 0 + 1 + m = m + 1 by omega]
    exact euc_end m _
  | k + 1, m, a, b, h => by
    rw [show 2 * (k + 1) + 1 + m = (2 * k + 1 + m + 1) + 1 by omega]
    by_cases hb : b = 0
    · subst hb
      rw [Nat.gcd_zero_right]
      exact euc_end _ _
    · have hb0 : 0 < b := Nat.pos_of_ne_zero hb
      rw [euc_step _ a b hb0]
      have hlt := Nat.mod_lt a hb0
      by_cases hr : a % b = 0
      · rw [hr]
        have e : Nat.gcd a b = b := by rw [Nat.gcd_comm, Nat.gcd_rec, Nat.gcd_comm, hr, Nat.gcd_zero_right]
        rw [e]
        exact euc_end _ _
      · have hr0 : 0 < a % b := Nat.pos_of_ne_zero hr
        rw [euc_step _ b (a % b) hr0]
        have hs : b % (a % b) < 2 ^ k := by
          have h1 := Nat.mod_lt b hr0
          have h2 := Nat.div_add_mod b (a % b)
          have h3 : 1 ≤ b / (a % b) := (Nat.le_div_iff_mul_le hr0).mpr (by omega)
          have h4 : a % b ≤ (a % b) * (b / (a % b)) := Nat.le_mul_of_pos_right _ h3
          have h5 : 2 ^ (k + 1) = 2 * 2 ^ k := by rw [Nat.pow_succ, Nat.mul_comm]
          omega
        rw [euc k m (a % b) (b % (a % b)) hs]
        have e1 : Nat.gcd a b = Nat.gcd b (a % b) := by rw [Nat.gcd_comm, Nat.gcd_rec, Nat.gcd_comm]
        have e2 : Nat.gcd b (a % b) = Nat.gcd (a % b) (b % (a % b)) := by
          conv => lhs; rw [Nat.gcd_comm, Nat.gcd_rec, Nat.gcd_comm]
        rw [e1, e2]
end Wb

set_option Elab.async false
set_option linter.all false
set_option maxRecDepth 100000
set_option maxHeartbeats 4000000
/-! Wb, part 23: enumerate over a list or a tuple. -/
namespace Wb
open PySem PySem.Spec PyProof.Rows L2 RZ
open PySem.AutoSeq1 (wpAny_loadPart')
section
variable {prog : Program} {w : World} {A : Around} {E : Value → Shared → Prop} {s : Shared}
theorem enx_item {t : Bool} {c j l : Addr} {k : Nat} {xs : Array Value} {x old : Value} {Q : Value → Shared → Prop} (ec : IsEnum s.heap c j k old) (ij : ItOf t s.heap j l k) (ql : SqOf t s.heap l xs) (ex : xs[k]? = some x) (nj : c ≠ j)
    (q : ∀ h', IsEnumOut h' c j ((k : Int) + 1) x s.heap.objs.size → ItOf t h' j l (k + 1) → h'.get? s.heap.objs.size = some { cls := .type "tuple", data := .seq #[.int k s.toks, x] } → h'.objs.size = s.heap.objs.size + 1 →
      (∀ b o, b ≠ c → b ≠ j → s.heap.get? b = some o → h'.get? b = some o) → Q (.ref s.heap.objs.size) { s with heap := h', toks := s.toks + 1 }) :
    wpAny (model prog w) A (Builtin.«enumerate.__next__» ⟨[.ref c], []⟩) (fun r s' => ∃ v, r = .done (.ret v) ∧ Q v s') E s := by
  obtain ⟨hp, gn, d, tk, os⟩ := s
  show wpAny _ _ (field (.ref c) 2 >>= _) _ _ _; refine wpAny_bind (wpAny_field ec rfl (x := .ref j) rfl ?_)
  refine wpAny_bind (step_of ij ql ex fun g1 ij1 s1 => ?_); replace s1 : Heap.SameBut j hp g1 := s1
  have ec1 : IsEnum g1 c j k old := (s1.2 c nj).trans ec
  show wpAny _ _ (field (.ref c) 3 >>= _) _ _ ⟨g1, gn, d, tk, os⟩; refine wpAny_bind (wpAny_field ec1 rfl (x := rawInt k) rfl ?_)
  show wpAny _ _ (field (.ref c) 4 >>= _) _ _ ⟨g1, gn, d, tk, os⟩; refine wpAny_bind (wpAny_field ec1 rfl (x := .none) rfl ?_)
  show wpAny _ _ (mkInt k >>= _) _ _ ⟨g1, gn, d, tk, os⟩; refine wpAny_bind (wpAny_mkInt ?_)
  show wpAny _ _ (setField (.ref c) 3 (rawInt ((k : Int) + 1)) >>= _) _ _ ⟨g1, gn, d, tk + 1, os⟩
  refine wpAny_bind (wpAny_setField_rec ec1 (by simp) fun g2 ec2 s2 => ?_); replace s2 : Heap.SameBut c g1 g2 := s2
  replace ec2 : IsEnum g2 c j ((k : Int) + 1) old := ec2
  show wpAny _ _ (setField (.ref c) 4 .none >>= _) _ _ ⟨g2, gn, d, tk + 1, os⟩; refine wpAny_bind (wpAny_setField_rec ec2 (by simp) fun g3 ec3 s3 => ?_)
  replace s3 : Heap.SameBut c g2 g3 := s3; replace ec3 : IsEnum g3 c j ((k : Int) + 1) old := ec3
  show wpAny _ _ (newTuple [.int k tk, x] >>= _) _ _ ⟨g3, gn, d, tk + 1, os⟩; refine wpAny_bind (wpAny_newTuple ?_)
  have ec4 : IsEnum (g3.push { cls := .type "tuple", data := .seq #[.int k tk, x] }) c j ((k : Int) + 1) old := Heap.get?_push_of_some _ ec3
  generalize e4 : g3.push { cls := .type "tuple", data := .seq #[.int k tk, x] } = g4 at ec4
  have sz : g3.objs.size = hp.objs.size := by rw [s3.1, s2.1, s1.1]
  have clt : c < hp.objs.size := Heap.lt_size ec
  have new4 : g4.get? hp.objs.size = some { cls := .type "tuple", data := .seq #[.int k tk, x] } := by rw [← e4, ← sz]; exact Heap.get?_push_size _ rfl
  have sz4 : g4.objs.size = hp.objs.size + 1 := by rw [← e4, Heap.size_push, sz]
  have keep4 : ∀ b o, b ≠ c → b ≠ j → hp.get? b = some o → g4.get? b = some o := fun b o n1 n2 e => by
    rw [← e4]; exact Heap.get?_push_of_some _ (s3.extBut b o n1 (s2.extBut b o n1 (s1.extBut b o n2 e)))
  have ij4 : ItOf t g4 j l (k + 1) := by
    rw [← e4]; exact ((ij1.ext s2.extBut (Ne.symm nj)).ext s3.extBut (Ne.symm nj)).same fun o e => Heap.get?_push_of_some _ e
  show wpAny _ _ (Builtin.SmallTypes.ownedTupleIsFree (.ref c) >>= _) _ _ ⟨g4, gn, d, tk + 1, os⟩
  rw [sz]; clear e4 ec3 s3 ec2 s2 ec1 s1 ij1 sz g3 g2 g1
  refine wpAny_bind ?_; unfold Builtin.SmallTypes.ownedTupleIsFree; refine wpAny_bind (wpAny_field ec4 rfl (x := .none) rfl (wpAny_pure ?_))
  simp only [if_true]; refine wpAny_bind (wpAny_rule ?_); refine wpAny_bind (wpAny_field ec4 rfl (x := old) rfl ?_)
  refine wpAny_bind (wpAny_setField_rec ec4 (by simp) fun g5 ec5 s5 => ?_); replace s5 : Heap.SameBut c g4 g5 := s5
  replace ec5 : IsEnum g5 c j ((k : Int) + 1) x := ec5
  show wpAny _ _ (Builtin.SmallTypes.ownedTupleHandOut (.ref c) (.ref hp.objs.size) >>= _) _ _ ⟨g5, gn, d, tk + 1, os⟩; refine wpAny_bind ?_
  unfold Builtin.SmallTypes.ownedTupleHandOut; refine wpAny_bind (wpAny_setField_rec ec5 (by simp) fun g6 ec6 s6 => ?_)
  replace s6 : Heap.SameBut c g5 g6 := s6; replace ec6 : IsEnumOut g6 c j ((k : Int) + 1) x hp.objs.size := ec6
  refine wpAny_setField_rec ec6 (by simp) fun g7 ec7 s7 => ?_; replace s7 : Heap.SameBut c g6 g7 := s7
  replace ec7 : IsEnumOut g7 c j ((k : Int) + 1) x hp.objs.size := ec7
  refine wpAny_bind (wpAny_letGo (wpAny_pure ⟨_, rfl, q g7 ec7 ?_ ?_ ?_ ?_⟩))
  · exact ((ij4.ext s5.extBut (Ne.symm nj)).ext s6.extBut (Ne.symm nj)).ext s7.extBut (Ne.symm nj)
  · have n := Nat.ne_of_gt clt; exact s7.extBut _ _ n (s6.extBut _ _ n (s5.extBut _ _ n new4))
  · rw [s7.1, s6.1, s5.1, sz4]
  · exact fun b o n1 n2 e => s7.extBut b o n1 (s6.extBut b o n1 (s5.extBut b o n1 (keep4 b o n1 n2 e)))
theorem en_py {t : Bool} {c j l : Addr} {k : Nat} {xs : Array Value} {x old : Value} {Q : Option Value → Shared → Prop} (ec : IsEnum s.heap c j k old) (ij : ItOf t s.heap j l k) (ql : SqOf t s.heap l xs) (ex : xs[k]? = some x) (nj : c ≠ j)
    (q : ∀ h', IsEnumOut h' c j ((k : Int) + 1) x s.heap.objs.size → ItOf t h' j l (k + 1) → h'.get? s.heap.objs.size = some { cls := .type "tuple", data := .seq #[.int k s.toks, x] } → h'.objs.size = s.heap.objs.size + 1 →
      (∀ b o, b ≠ c → b ≠ j → s.heap.get? b = some o → h'.get? b = some o) → Q (some (.ref s.heap.objs.size)) { s with heap := h', toks := s.toks + 1 }) : wpAny (model prog w) A (pyNext (.ref c)) Q E s := by
  have ty : s.TypeIs (.ref c) "enumerate" := ⟨_, ec, rfl⟩
  unfold pyNext
  exact wpAny_bind (wpAny_attempt (wpAny_callSpecial?_slot (name := Str.ofString "__next__") ty F.slot_enumerate_next (wpAny_call_entry F.slot_enumerate_next ty F.entry_enumerate_next
    (enx_item ec ij ql ex nj fun h' e1 e2 e3 e4 e5 => wpAny_pure (q h' e1 e2 e3 e4 e5)) (F.args_enumerate_next_1 _))))
theorem en_py_end {t : Bool} {c j l : Addr} {k : Nat} {xs : Array Value} {old : Value} {Q : Option Value → Shared → Prop} (hh : A.handled = none) (ec : IsEnum s.heap c j k old) (ij : ItOf t s.heap j l k) (ql : SqOf t s.heap l xs) (ex : xs[k]? = none)
    (q : ∀ h', Heap.ExtBut j s.heap h' → Q none { s with heap := h' }) : wpAny (model prog w) A (pyNext (.ref c)) Q E s := by
  have ty : s.TypeIs (.ref c) "enumerate" := ⟨_, ec, rfl⟩
  unfold pyNext
  refine wpAny_bind (wpAny_attempt (wpAny_callSpecial?_slot (name := Str.ofString "__next__") ty F.slot_enumerate_next (wpAny_call_entry F.slot_enumerate_next ty F.entry_enumerate_next ?_ (F.args_enumerate_next_1 _))))
  show wpAny _ _ (field (.ref c) 2 >>= _) _ _ _; refine wpAny_bind (wpAny_field ec rfl (x := .ref j) rfl ?_)
  refine wpAny_bind (last_of hh ij ql ex fun h' r eb hr => ?_)
  obtain ⟨o, ho, hc⟩ := hr
  refine wpAny_bind (wpAny_isInstance (T := "StopIteration") (b := true) ⟨o, ho, hc⟩ isSubtype_stop ?_); exact wpAny_pure (q _ eb)
end
abbrev eg1 (t : Bool) (h : Heap) (l : Addr) : Heap := h.push (itO t l)
abbrev eg2 (t : Bool) (h : Heap) (l : Addr) : Heap := (eg1 t h l).push { cls := .type "enumerate", data := .fields #[.none, .bool false, .ref h.objs.size, rawInt 0, .none, .none] }
theorem emakeL (l : Addr) (xs : Array Value) (n : Nat) (dct : Option Addr) (sl : Array (Option Value)) :
    Meets (Builtin.«enumerate.__new__» ⟨[.type "enumerate", .ref l], []⟩) (fun _ R s => s.heap.get? l = some { cls := .type "tuple", dict := dct, data := .seq xs n, slots := sl } ∧ R (.ok (.ret (.ref (eg1 true s.heap l).objs.size))) { s with heap := eg2 true s.heap l }) :=
  .of_wp fun prog w A R s h => by
    obtain ⟨hp, gn, d, tk, os⟩ := s; obtain ⟨ol, h⟩ := h
    have sb := sub_enumerate
    have q : Heap.IsTuple (Shared.heap ⟨hp, gn, d, tk, os⟩) l xs := ⟨_, ol, rfl, n, rfl⟩
    wp_walk using wpAny_loadPart' ol
    refine wpAny_stack_any fun st => wpAny_pure ?_
    split
    · rename_i c _ _ _ _ _
      cases (c == Value.type "enumerate")
      · wp_walk using wpAny_loadPart' ol, wpAny_pyIter_tuple q
        exact ⟨_, rfl, h⟩
      · wp_walk using wpAny_loadPart' ol, wpAny_pyIter_tuple q
        exact ⟨_, rfl, h⟩
    · wp_walk using wpAny_loadPart' ol, wpAny_pyIter_tuple q
      exact ⟨_, rfl, h⟩
section
variable {prog : Program} {w : World} {A : Around} {E : Value → Shared → Prop} {s : Shared}
theorem ecall {t : Bool} {l : Addr} {xs : Array Value} {Q : Value → Shared → Prop} (ql : SqOf t s.heap l xs)
    (h : ∀ h', IsEnum h' (s.heap.objs.size + 1) s.heap.objs.size 0 .none → ItOf t h' s.heap.objs.size l 0 → h'.objs.size = s.heap.objs.size + 2 → (∀ b o, s.heap.get? b = some o → h'.get? b = some o) → Q (.ref (s.heap.objs.size + 1)) { s with heap := h' }) :
    wpAny (model prog w) A (call (.type "enumerate") [.ref l]) Q E s := by
  cases t
  · exact call_enumerate_list ql h
  · obtain ⟨⟨c, dct, dt, sl⟩, ho, hc, n, hd⟩ := ql
    replace hc : c = .type "tuple" := hc
    replace hd : dt = .seq xs n := hd
    subst hc hd
    refine callType_new F.called_enumerate (by decide) (F.typeCall_enumerate_1 _) (F.newCall_enumerate_1 _) (fun obj => F.args_object_init_2 obj _) F.entry_enumerate_new (emakeL l xs n dct sl) ⟨ho, ?_⟩
    have n1 : (eg1 true s.heap l).objs.size = s.heap.objs.size + 1 := Heap.size_push ..
    have n2 : (eg2 true s.heap l).objs.size = s.heap.objs.size + 2 := by rw [Heap.size_push, n1]
    have f2 : (eg2 true s.heap l).get? (eg1 true s.heap l).objs.size = some _ := Heap.get?_push_size _ rfl
    have f1 : (eg2 true s.heap l).get? s.heap.objs.size = some (itO true l) := Heap.get?_push_of_some _ (Heap.get?_push_size _ rfl)
    show _ ∧ _
    rw [n1] at f2 ⊢
    exact ⟨⟨_, f2, rfl⟩, h _ f2 (itO_of f1) n2 fun b o x => Heap.get?_push_of_some _ (Heap.get?_push_of_some _ x)⟩
end
def ItE (t : Bool) (K : PySem.W.Frag) (a : Addr) : It :=
  ⟨fun i H => ∃ (xs : List V) (x : V), SqV t K H a xs ∧ xs[i]? = some x, fun i H v H' => ∃ p x, v = .ref p ∧ H p = none ∧ H' = upd H p (.tup [.int (i : Nat), x]) ∧ ∀ xs, SqV t K H a xs → xs[i]? = some x,
    fun i H => ∃ xs : List V, SqV t K H a xs ∧ xs.length ≤ i⟩
theorem turnE {t : Bool} {P : Program} {w : World} {K : PySem.W.Frag} {elts : List Expr} {kk : Nat} {tpos : Pos} (a c j : Addr) :
    Turn P w K (.Tuple elts kk tpos) (ItE t K a) [c, j] c (fun i h => (∃ old, IsEnum h c j ((i : Nat) : Int) old) ∧ ItOf t h j a i ∧ c ≠ j) where
  mem := by simp
  obj := fun i h st b hb => by
    obtain ⟨⟨old, he⟩, ij, _⟩ := st
    obtain ⟨o, vs, e, d⟩ := ij.obj
    have e' : b = c ∨ b = j := by simpa using hb
    rcases e' with z | z
    · rw [z]; exact ⟨_, he, fun v q => nomatch q⟩
    · rw [z]; exact ⟨o, e, fun v q => by rw [d] at q; cases q⟩
  keep := fun i h h' st k => let ⟨⟨old, he⟩, ij, n⟩ := st; ⟨⟨old, k c (by simp) _ he⟩, ij.same fun o q => k j (by simp) o q, n⟩
  item := by
    intro X hP hw hK hc i pins s σ H E I hf st hg
    subst hP hw hK
    obtain ⟨⟨old, he⟩, ij, nj⟩ := st
    obtain ⟨xs, x, hq, hx⟩ := hg
    obtain ⟨us, ru, q1⟩ := hq.at I
    obtain ⟨u, hu, rx⟩ := ru.get hx
    have clt : c < s.heap.objs.size := Heap.lt_size he
    have jlt : j < s.heap.objs.size := by obtain ⟨_, _, e, _⟩ := ij.obj; exact Heap.lt_size e
    refine en_py he ij q1 (x := u) (by simpa using hu) nj fun h' ho ij' new' sz hk => ?_
    refine ⟨_, rfl, wpAny_letOwnedTupleGo_enum (s := { s with heap := h', toks := s.toks + 1 }) ho fun h2 he2 sb => ?_⟩
    have new2 : h2.get? s.heap.objs.size = some { cls := .type "tuple", data := .seq #[.int i s.toks, u] } := (sb.2 _ (Nat.ne_of_gt clt)).trans new'
    have ok : ObjOk X.prog X.w (upd H s.heap.objs.size (.tup [.int (i : Nat), x])) h2 s.heap.objs.size (.tup [.int (i : Nat), x]) :=
      ⟨by show 2 ≤ sizeLine; decide, [.int i s.toks, u], .cons ⟨_, rfl⟩ (.cons rx .nil), ⟨_, new2, rfl, _, rfl⟩⟩
    have I1 : Inv X pins σ (upd H s.heap.objs.size (.tup [.int (i : Nat), x])) { s with heap := h2, toks := s.toks + 1 } :=
      I.turnedNew (ch := [c, j]) (fun b ob nb q => (sb.2 b (fun z => nb (by simp [z]))).trans (hk b ob (fun z => nb (by simp [z])) (fun z => nb (by simp [z])) q)) hf (Nat.le_refl _) ok
    refine ⟨.ref s.heap.objs.size, _, I1, rfl, ⟨_, x, rfl, I.hok.fresh (Nat.le_refl _), rfl, fun ys hy => by rw [hy.inj I hq]; exact hx⟩, ⟨⟨u, ?_⟩, ij'.same fun o q => (sb.2 j (Ne.symm nj)).trans q, nj⟩, fun b hb => ?_⟩
    · have e1 : ((i + 1 : Nat) : Int) = (i : Int) + 1 := by omega
      rw [e1]; exact he2
    · have hb' : b < s.heap.objs.size := by
        have e' : b = c ∨ b = j := by simpa using hb
        rcases e' with z | z
        · rw [z]; exact clt
        · rw [z]; exact jlt
      rw [upd_ne (Nat.ne_of_lt hb')]
      exact (hf b hb).1
  done := by
    intro X hP hw hK hc i pins s σ H E I hf st hg
    subst hP hw hK
    obtain ⟨⟨old, he⟩, ij, nj⟩ := st
    obtain ⟨xs, hq, hx⟩ := hg
    obtain ⟨us, ru, q1⟩ := hq.at I
    obtain ⟨f0, f1, f2, f3, f4, f5⟩ := hf j (by simp)
    have hl := ru.length
    exact en_py_end (I.ok.hd hc) he ij q1 (by simp; omega) fun h' eb => ⟨rfl, I.turned (t' := s.toks) (fun b o nb q => eb b o nb q) f0 f1 f3 f4 f5⟩
  self := fun A i s Q E st h => let ⟨⟨_, he⟩, _⟩ := st; wpAny_pyIter_enum he h
def iEnumM (K : PySem.W.Frag) (ta : TA) : TI := fun σ H R => ta σ H fun vs H1 => ∃ t a xs, vs = [.ref a] ∧ SqV t K H1 a xs ∧ R (ItE t K a) H1
theorem pi_enumM {X : Cx} {e : Expr} {ta : TA} {p pos tpos : Pos} {elts : List Expr} {kk : Nat} (hg : Gl X "enumerate") (hm : X.mg "enumerate" = none) (ha : PA X [e] ta) (hs : starEach [e] X.env = [(false, eval e X.env)] := by rfl) :
    PI X (.Tuple elts kk tpos) (.Call (.Name "enumerate" p) [e] [] pos) (iEnumM X.K ta) := by
  refine ⟨fun pins s σ H R I h => Call_ (ld_blt I hg hm boot_enumerate (PyProof.Rows.callWith_type1 (thn (ha.run pos pins s σ H _ I h) fun us s1 ⟨vs, H1, I1, r1, q1⟩ => ?_) hs rfl))⟩
  obtain ⟨t, a, xs, ex, hq, q⟩ := q1
  subst ex
  cases r1 with
  | cons r rr =>
    cases rr
    cases r
    obtain ⟨us, ru, p1⟩ := hq.at I1
    refine ecall p1 fun h' he ij sz hk => wpAny_pyIter_enum he ?_
    have I2 : Inv X pins σ H1 { s1 with heap := h' } := I1.kept (t' := s1.toks) hk
    refine ⟨s1.heap.objs.size + 1, [s1.heap.objs.size + 1, s1.heap.objs.size], _, _, H1, rfl, I2, turnE a (s1.heap.objs.size + 1) s1.heap.objs.size, ⟨⟨.none, he⟩, ij, Nat.succ_ne_self _⟩, fun b hb => ?_, q⟩
    have e' : b = s1.heap.objs.size + 1 ∨ b = s1.heap.objs.size := by simpa using hb
    have hle : s1.heap.objs.size ≤ b := by
      rcases e' with z | z
      · rw [z]; exact Nat.le_add_right _ _
      · rw [z]; exact Nat.le_refl _
    exact I1.fpOk hle (I1.hok.fresh hle)
/-- what a turn gives: a new pair of its number and the item -/
def YNum (f : Nat → Option V) : Nat → Hp → V → Hp → Prop := fun i H v H' => ∃ p x, v = .ref p ∧ H p = none ∧ H' = upd H p (.tup [.int (i : Nat), x]) ∧ f i = some x
theorem walkE {t : Bool} {K : PySem.W.Frag} {a : Addr} {xs : List V} : Walk (ItE t K a) xs.length (fun H => SqV t K H a xs) (YNum fun i => xs[i]?) := by
  refine ⟨fun i _ hi q => ⟨xs, xs[i], q, by rw [List.getElem?_eq_getElem]⟩, fun _ q => ⟨xs, q, Nat.le_refl _⟩, fun i H v H' _ q y => ?_⟩
  obtain ⟨p, x, h1, h2, h3, h4⟩ := y
  exact ⟨p, x, h1, h2, h3, h4 xs q⟩
def numD : Nat → List D → List D
  | _, [] => []
  | i, d :: r => .tuple [.int (i : Nat), d] :: numD (i + 1) r
theorem numD_len : ∀ (i : Nat) (ds : List D), (numD i ds).length = ds.length
  | _, [] => rfl
  | i, d :: r => by simp [numD, numD_len (i + 1) r]
theorem numD_get : ∀ (i j : Nat) (ds : List D), (numD i ds)[j]? = ds[j]?.map fun d => .tuple [.int ((i + j : Nat) : Int), d]
  | _, _, [] => by simp [numD]
  | i, 0, d :: r => rfl
  | i, j + 1, d :: r => by
    show (numD (i + 1) r)[j]? = _
    rw [numD_get (i + 1) j r, show i + 1 + j = i + (j + 1) by omega]
    rfl
theorem gives_enumM {t : Bool} {K : PySem.W.Frag} {H0 : Hp} {a : Addr} {vs : List V} {ds : List D} (h : HasQ t H0 a vs) (hl : HasL H0 vs ds) : Gives (ItE t K a) (numD 0 ds) H0 := by
  have len : vs.length = (numD 0 ds).length := by rw [numD_len, hl.length]
  have wk := walkE (t := t) (K := K) (a := a) (xs := vs)
  rw [len] at wk
  refine ⟨_, _, wk, fun H1 e => h.sq e, fun i H1 x H2 d H0' hd e0 e1 y => ?_⟩
  obtain ⟨tp, u, rfl, hn, rfl, hu⟩ := y
  obtain ⟨d1, a1, a2⟩ := hl.get hu
  rw [numD_get, a1, Nat.zero_add] at hd
  cases hd
  exact .inr ⟨tp, [.int (i : Nat), u], [.int (i : Nat), d1], rfl, hn, rfl, rfl, .cons (.int _) (.cons (a2.mono e0) .nil)⟩
def oEnum : List Ar → T (List D)
  | [.d x] => match seqD x with
    | some (_, xs) => .ret (numD 0 xs)
    | none => .bad
  | _ => .bad
section
variable {X : Cx} {g : Ct} {a : Expr} {pos : Pos} {fs : Env' → T (List Ar)}
theorem HasAs.one1 {β : Box} {H0 : Hp} {vs : List V} {x : D} (h : HasAs β H0 vs [.d x]) : ∃ v, vs = [v] ∧ Has H0 v x := by
  cases h with
  | cons h r =>
    cases r
    exact ⟨_, rfl, h⟩
theorem i_enum {p tpos : Pos} {elts : List Expr} {kk : Nat} (hg : Gl X "enumerate") (hm : X.mg "enumerate" = none) (ha : PA X [a] (tA g fs)) (hs : starEach [a] X.env = [(false, eval a X.env)] := by rfl) :
    PI X (.Tuple elts kk tpos) (.Call (.Name "enumerate" p) [a] [] pos) (tI g (iArg oEnum fs)) :=
  (pi_enumM hg hm ha hs).imp fun σ H R ⟨β, H0, ρ, rr, q⟩ => tA_then (k := oEnum) rr q fun as vs H1 H2 st hv q1 => by
    unfold oEnum at q1
    split at q1
    · next x =>
      split at q1
      · next t xs ex =>
        obtain ⟨v, rfl, h1⟩ := hv.one1
        obtain ⟨a1, u1, rfl, k1, l1⟩ := seqD_has h1 ex
        exact ⟨t, _, _, rfl, k1.sq st.ext, q1 _ H1 H2 st (gives_enumM k1 l1)⟩
      · exact q1.elim
    · exact q1.elim
@[simp] theorem ev_enumT {xs : List D} : oEnum [.d (.tuple xs)] = .ret (numD 0 xs) := rfl
@[simp] theorem ev_enumL {xs : List D} : oEnum [.d (.list xs)] = .ret (numD 0 xs) := rfl
end
end Wb

set_option Elab.async false
set_option linter.all false
set_option maxRecDepth 100000
set_option maxHeartbeats 4000000
/-! Wb, part 24: dicts. -/
namespace Wb
open PySem PySem.Spec PyProof.Rows L2

/-! ### what a dict holds -/
def keyOf : D → Option Key
  | .int i => some (.inl i)
  | .str x => some (.inr x)
  | _ => none
theorem keyOf_keyD (k : Key) : keyOf (keyD k) = some k := by cases k <;> rfl
def lookK : List (D × D) → Key → Option D
  | [], _ => none
  | p :: r, k => if keyOf p.1 = some k then some p.2 else lookK r k
theorem HasK.look {H : Hp} (k : Key) : ∀ {kvs : List (Key × V)} {ds : List (D × D)}, HasK H kvs ds → (∀ d, lookK ds k = some d → ∃ v, valV kvs k = some v ∧ Has H v d) ∧ (lookK ds k = none → valV kvs k = none)
  | _, _, .nil => ⟨(fun _ z => nomatch z), fun _ => rfl⟩
  | _, _, .cons (k := k') (v := v) (d := d) h r => by
    obtain ⟨i1, i2⟩ := HasK.look k r
    by_cases e : k' = k
    · have e2 : keyOf (keyD k') = some k := by rw [keyOf_keyD, e]
      have e3 : ∀ ds', lookK ((keyD k', d) :: ds') k = some d := fun ds' => if_pos e2
      refine ⟨fun x hx => ?_, fun z => ?_⟩
      · rw [e3] at hx
        cases hx
        exact ⟨v, valV_pos e, h⟩
      · rw [e3] at z
        cases z
    · have e2 : ¬ keyOf (keyD k') = some k := fun z => by
        rw [keyOf_keyD] at z
        exact e (Option.some.inj z)
      have e3 : ∀ ds', lookK ((keyD k', d) :: ds') k = lookK ds' k := fun ds' => if_neg e2
      refine ⟨fun x hx => ?_, fun z => ?_⟩
      · rw [e3] at hx
        obtain ⟨u, h1, h2⟩ := i1 x hx
        exact ⟨u, by rw [valV_neg e]; exact h1, h2⟩
      · rw [e3] at z
        rw [valV_neg e]
        exact i2 z
theorem has_key {H0 : Hp} {v : V} {d : D} {k : Key} (h : Has H0 v d) (e : keyOf d = some k) : v = kV k := by
  cases h with
  | int i =>
    cases e
    rfl
  | str x =>
    cases e
    rfl
  | _ => cases e
/-- d[k] -/
def oDGet : D → D → T D
  | .dict kvs, x => match keyOf x with
    | some k => match lookK kvs k with
      | some v => .ret v
      | none => .bad
    | none => .bad
  | _, _ => .bad
/-- k in d -/
def oDIn : D → D → T D
  | x, .dict kvs => match keyOf x with
    | some k => .ret (.bool (lookK kvs k).isSome)
    | none => .bad
  | _, _ => .bad
def oDNotIn : D → D → T D
  | x, .dict kvs => match keyOf x with
    | some k => .ret (.bool (!(lookK kvs k).isSome))
    | none => .bad
  | _, _ => .bad
section
variable {X : Cx} {g : Ct} {a b : Expr} {f h : Env' → T D} {pos : Pos}
theorem r_dget (hu : X.A.units + 1 < cLine) (ha : PE X a (tE g f)) (hb : PE X b (tE g h)) (hs : NoSl b) : PE X (.Subscript a b pos) (tE g (eBin oDGet f h)) :=
  (pe_dget hu ha hb hs).imp fun σ H Q ⟨β, H0, ρ, rr, q⟩ => tE_then rr q fun d v H1 H2 st hv q1 => by
    have rr1 := rr.step st
    refine tE_then rr1 (wp_out st q1) fun d' v' H3 H4 st2 hv' q2 => ?_
    have q3 := wp_out st2 q2
    have hv2 := hv.mono st2.grow
    cases hv2 with
    | @dct p kvs ds h1 h2 =>
      have q4 : (match keyOf d' with
        | some k => match lookK ds k with
          | some v => T.ret v
          | none => .bad
        | none => .bad).wp (Out β H3 H4 Q) (g.X β H3 H4 σ) := q3
      split at q4
      · next k ek =>
        split at q4
        · next z ez =>
          obtain ⟨u, e1, e2⟩ := (h2.look k).1 z ez
          have ev := has_key hv' ek
          subst ev
          have dg := DGet.k (k := k) (st2.ext _ _ h1)
          rw [e1] at dg
          exact ⟨p, u, rfl, dg, out_ret st2.ext st2.ok st2.boxf e2 q4⟩
        · exact q4.elim
      · exact q4.elim
    | _ => exact q3.elim
theorem in_of {o : Bool → Bool} {op : D → D → T D} (hop : ∀ x kvs, op x (.dict kvs) = match keyOf x with
    | some k => .ret (.bool (o (lookK kvs k).isSome))
    | none => .bad) (hno : ∀ x y, (∀ kvs, y ≠ .dict kvs) → op x y = .bad) {σ : L2.St} {H : Hp} {Q : VK} (q : tE g (eBin op f h) σ H Q) :
    tE g f σ H fun y H1 => tE g h σ H1 fun x H2 => ∃ a r, x = .ref a ∧ DGet H2 a y r ∧ Q (.bl (o r.isSome)) H2 := by
  obtain ⟨β, H0, ρ, rr, q⟩ := q
  refine tE_then rr q fun d v H1 H2 st hv q1 => ?_
  have rr1 := rr.step st
  refine tE_then rr1 (wp_out st q1) fun d' v' H3 H4 st2 hv' q2 => ?_
  have q3 := wp_out st2 q2
  have hv2 := hv.mono st2.grow
  cases hv' with
  | @dct p kvs ds h1 h2 =>
    rw [hop] at q3
    split at q3
    · next k ek =>
      have ev := has_key hv2 ek
      subst ev
      have l := h2.look k
      have e : (valV kvs k).isSome = (lookK ds k).isSome := by
        cases hz : lookK ds k with
        | none =>
          rw [l.2 hz]
          rfl
        | some z =>
          obtain ⟨u, e1, _⟩ := l.1 z hz
          rw [e1]
          rfl
      refine ⟨p, valV kvs k, rfl, DGet.k (k := k) (st2.ext _ _ h1), ?_⟩
      rw [e]
      exact out_ret st2.ext st2.ok st2.boxf (.bl _) q3
    · exact q3.elim
  | _ =>
    rw [hno _ _ (fun _ z => by cases z)] at q3
    exact q3.elim
theorem r_din (hu : X.A.units + 1 < cLine) (ha : PE X a (tE g f)) (hb : PE X b (tE g h)) (h1 : behindInMarks .In b = false) : PE X (.Compare a [.In] [b] pos) (tE g (eBin oDIn f h)) :=
  (pe_cmp (pc_din hu ha hb) h1).imp fun _ _ _ q => in_of (o := id) (fun _ _ => rfl) (fun x y n => by cases y <;> first | rfl | exact (n _ rfl).elim) q
theorem r_dnotIn (hu : X.A.units + 1 < cLine) (ha : PE X a (tE g f)) (hb : PE X b (tE g h)) (h1 : behindInMarks .NotIn b = false) : PE X (.Compare a [.NotIn] [b] pos) (tE g (eBin oDNotIn f h)) :=
  (pe_cmp (pc_dnotin hu ha hb) h1).imp fun _ _ _ q => in_of (o := fun z => !z) (fun _ _ => rfl) (fun x y n => by cases y <;> first | rfl | exact (n _ rfl).elim) q
theorem q_din (hu : X.A.units + 1 < cLine) (ha : PE X a (tE g f)) (hb : PE X b (tE g h)) (h1 : behindInMarks .In b = false) : PT X (.Compare a [.In] [b] pos) (tT g (eBin oDIn f h)) :=
  (pt_cmp (pc_din hu ha hb) h1).imp fun σ H Q ⟨β, H0, ρ, rr, q⟩ => in_of (o := id) (op := oDIn) (Q := fun x H' => ∃ k, x = .bl k ∧ Q k H') (fun _ _ => rfl) (fun x y n => by cases y <;> first | rfl | exact (n _ rfl).elim) ⟨β, H0, ρ, rr, T.wp_mono (fun d hd v H1 H2 st hv => by
    obtain ⟨z, e, hq⟩ := hd
    subst e
    cases hv
    exact ⟨z, rfl, hq H1 H2 st⟩) (fun _ z => z) _ q⟩
theorem q_dnotIn (hu : X.A.units + 1 < cLine) (ha : PE X a (tE g f)) (hb : PE X b (tE g h)) (h1 : behindInMarks .NotIn b = false) : PT X (.Compare a [.NotIn] [b] pos) (tT g (eBin oDNotIn f h)) :=
  (pt_cmp (pc_dnotin hu ha hb) h1).imp fun σ H Q ⟨β, H0, ρ, rr, q⟩ => in_of (o := fun z => !z) (op := oDNotIn) (Q := fun x H' => ∃ k, x = .bl k ∧ Q k H') (fun _ _ => rfl) (fun x y n => by cases y <;> first | rfl | exact (n _ rfl).elim) ⟨β, H0, ρ, rr, T.wp_mono (fun d hd v H1 H2 st hv => by
    obtain ⟨z, e, hq⟩ := hd
    subst e
    cases hv
    exact ⟨z, rfl, hq H1 H2 st⟩) (fun _ z => z) _ q⟩
end
/-! ### a dict is written -/
def fsOf : List (Str × (Env' → T D)) → Env' → T (List Ar)
  | [] => aNil
  | p :: r => aCons p.2 (fsOf r)
def trsOf (g : Ct) : List (Str × (Env' → T D)) → List (TE × TE)
  | [] => []
  | p :: r => (tC (.str p.1), tE g p.2) :: trsOf g r
def mkDct (ks : List Str) : Option (List D) → T D
  | some ds => if ds.length = ks.length ∧ ks.Nodup ∧ ks.length ≤ 15 then .ret (.dict ((ks.map PyData.str).zip ds)) else .bad
  | none => .bad
def eDct (l : List (Str × (Env' → T D))) : Env' → T D := fun ρ => (fsOf l ρ).bind fun as => mkDct (l.map (·.1)) (dsOf as)
theorem pairs_of {g : Ct} : ∀ (l : List (Str × (Env' → T D))) {σ : L2.St} {H H0 : Hp} {β : Box} {ρ : Env'} {Q : List (V × V) → Hp → Prop}, Rel g.cad β g.ξ H0 ρ σ H →
    (fsOf l ρ).wp (fun as => ∀ vs H0' H', Stp β H0 H H0' H' → HasAs β H0' vs as → Q ((l.map fun p => V.str p.1).zip vs) H') (g.X β H0 H σ) → tPairs (trsOf g l) σ H Q
  | [], _, _, _, _, _, _, rr, q => q [] _ _ rr.refl .nil
  | p :: l, σ, H, H0, β, ρ, Q, rr, q => by
    show tE g p.2 σ H fun y H2 => tPairs (trsOf g l) σ H2 fun ps H3 => Q ((V.str p.1, y) :: ps) H3
    have q' : ((p.2 ρ).bind fun d => (fsOf l ρ).bind fun r => T.ret (Ar.d d :: r)).wp (fun as => ∀ vs H0' H', Stp β H0 H H0' H' → HasAs β H0' vs as → Q (((p :: l).map fun p => V.str p.1).zip vs) H') (g.X β H0 H σ) := q
    refine tE_then rr q' fun d v H1 H2 st hv q1 => ?_
    have q2 := T.wp_mono (fun (as : List Ar) (h : ∀ vs H0' H', Stp β H0 H H0' H' → HasAs β H0' vs as → Q (((p :: l).map fun p => V.str p.1).zip vs) H') vs H0' H' s e => h vs H0' H' (st.trans s) e) (fun x (h : g.X β H0 H σ x) => h.step st) _ q1
    refine pairs_of l (rr.step st) (T.wp_mono (fun as h vs H0' H' s e => ?_) (fun _ z => z) _ ((T.wp_bind _ _).mp q2))
    exact h (v :: vs) H0' H' s (.cons (hv.mono s.grow) e)
theorem mergeK_nodup : ∀ (kvs acc : List (Key × V)), (acc.map (·.1) ++ kvs.map (·.1)).Nodup → mergeK acc kvs = acc ++ kvs
  | [], acc, _ => by simp [mergeK]
  | kv :: r, acc, h => by
    have e : putK acc kv.1 kv.2 = acc ++ [kv] := by
      unfold putK
      rw [if_neg]
      intro z
      obtain ⟨p, hp, hk⟩ := List.any_eq_true.mp z
      rw [List.nodup_append] at h
      exact h.2.2 p.1 (List.mem_map.mpr ⟨p, hp, rfl⟩) kv.1 (by simp) (of_decide_eq_true hk)
    show mergeK (putK acc kv.1 kv.2) r = _
    rw [e, mergeK_nodup r (acc ++ [kv]) (by simpa using h)]
    simp
theorem hasK_zip {H : Hp} : ∀ {ks : List Str} {vs : List V} {ds : List D}, HasL H vs ds → HasK H ((ks.map Sum.inr).zip vs) ((ks.map PyData.str).zip ds)
  | [], _, _, _ => by simpa using HasK.nil
  | _ :: _, _, _, .nil => by simpa using HasK.nil
  | k :: ks, _, _, .cons h r => HasK.cons (k := .inr k) h (hasK_zip (ks := ks) r)
theorem zip_keys : ∀ (ks : List Str) (vs : List V), (ks.map V.str).zip vs = ((ks.map Sum.inr).zip vs).map (fun kv : Key × V => (kV kv.1, kv.2))
  | [], _ => rfl
  | _ :: _, [] => rfl
  | k :: ks, v :: vs => by
    have ih := zip_keys ks vs
    simp only [List.map_cons, List.zip_cons_cons] at ih ⊢
    rw [ih]
    rfl
theorem r_dct {X : Cx} {g : Ct} {keys : List (Option Expr)} {values : List Expr} {pos : Pos} {l : List (Str × (Env' → T D))} (h : PPs X pos keys values (trsOf g l)) (hall : keys.all (·.isSome) = true) (hl : keys.length = values.length) (h0 : keys ≠ [])
    (h15 : keys.length ≤ 15) : PE X (.Dict keys values pos) (tE g (eDct l)) := (pe_disp h hall hl h0 h15).imp fun σ H Q ⟨β, H0, ρ, rr, q⟩ p hp => by
  have hp0 : H0 p = none := rr.ext.free hp
  have nS : ¬ β.S p := fun z => by
    obtain ⟨u, w⟩ := β.here H p rr.ok z
    rw [hp] at w
    cases w
  have jk : Stp β H0 H H0 (upd H p (.dK [])) := rr.junk hp
  refine pairs_of l (rr.step jk) (T.wp_mono (fun as z vs H1 H2 st hv => ?_) (fun _ z => z.step jk) _ ((T.wp_bind _ _).mp q))
  obtain ⟨n1, k1⟩ := st.priv p _ upd_same hp0
  have hD := k1 nS
  refine ⟨hD, ?_⟩
  unfold mkDct at z
  split at z
  · next ds e =>
    split at z
    · next c =>
      have hd := hv.ds (dsOf_some e)
      have lv : vs.length = (l.map (·.1)).length := by rw [hd.length]; exact c.1
      refine ⟨((l.map (·.1)).map Sum.inr).zip vs, ?_, ?_, ?_⟩
      · rw [← zip_keys, List.map_map]
        rfl
      · rw [List.length_zip, List.length_map]
        have := c.2.2
        omega
      · have em : mergeK [] (((l.map (·.1)).map Sum.inr).zip vs) = ((l.map (·.1)).map Sum.inr).zip vs := by
          have := mergeK_nodup (((l.map (·.1)).map Sum.inr).zip vs) [] (by
            rw [List.map_nil, List.nil_append, List.map_fst_zip (by rw [List.length_map, lv]; exact Nat.le_refl _)]
            exact List.Pairwise.map _ (fun a b hab e => hab (Sum.inr.inj e)) c.2.1)
          simpa using this
        rw [em]
        have s1 : Stp β H0 H H1 H2 := jk.trans st
        have s2 := (s1.mine (o := .dK (((l.map (·.1)).map Sum.inr).zip vs)) hp n1 nS (fun φ z => by rw [hD] at z; cases z)).known hp n1 nS upd_same
        exact z (.ref p) _ _ s2 (.dct upd_same (HasK.mono (fun b u w => by
          rw [upd_ne (ne_of_none w n1)]
          exact w) (hasK_zip hd)))
    · exact z.elim
  · exact z.elim
end Wb

set_option Elab.async false
set_option linter.all false
set_option maxRecDepth 100000
set_option maxHeartbeats 4000000
/-! Wb, part 25: calls without arguments, reversed, isinstance of the error that is handled. -/
namespace Wb
open PySem PySem.Spec PyProof.Rows L2 RT

section
variable {β : Box} {ρ : Env'} {l : List (Str × (Env' → T D))} {p : Str × (Env' → T D)} {x : D} {ds : List D}
@[simp] theorem ev_dct : eDct l ρ = (fsOf l ρ).bind fun as => mkDct (l.map (·.1)) (dsOf as) := rfl
@[simp] theorem ev_fs0 : fsOf [] ρ = .ret [] := rfl
@[simp] theorem ev_fsS : fsOf (p :: l) ρ = (p.2 ρ).bind fun d => (fsOf l ρ).bind fun r => .ret (.d d :: r) := rfl
@[simp] theorem ev_mkd {ks : List Str} : mkDct ks (some ds) = if ds.length = ks.length ∧ ks.Nodup ∧ ks.length ≤ 15 then .ret (.dict ((ks.map PyData.str).zip ds)) else .bad := rfl
end
theorem r_cal0 {X : Cx} {g : Ct} {x : Str} {p pos : Pos} {j k n : Nat} {m : List Ar → T D} (C : Cal X.prog X.w X.K X.mg X.base g.cad x j n m) (hr : Room k X.A) (hjk : j ≤ k) (hgu : X.A.guards = some []) (hg : Gl X x) (tk : Takes X g.W)
    (hdb : (x == ("__debug__" : Str)) = false := by decide) : PE X (.Call (.Name x p) [] [] pos) (tE g (eCall n m aNil)) := by
  obtain ⟨fa, fd, ps, F, h1, h2, h3⟩ := C.ex
  exact r_call0 F (hr.mono hjk) hgu hg h1 h2 h3 tk hdb

/-! ### reversed -/
theorem walk_revT {K : PySem.W.Frag} {a : Addr} {xs : List V} : Walk (ItvT K a xs.length) xs.length (fun H => SqT K H a xs) (fun i H x H' => H' = H ∧ xs[xs.length - 1 - i]? = some x) :=
  ⟨fun i _ hi q => ⟨hi, xs, xs[xs.length - 1 - i]'(by omega), q, by simp [show xs.length - 1 - i < xs.length by omega]⟩, fun _ _ => Nat.le_refl _, fun _ _ _ _ _ q y => ⟨y.1, y.2 xs q⟩⟩
theorem rev_at {H0 H' : Hp} {vs : List V} {ds : List D} (hl : HasL H0 vs ds) (e : Same H0 H') {i : Nat} {x : V} {d : D} (hx : vs[vs.length - 1 - i]? = some x) (hd : ds.reverse[i]? = some d) : Has H' x d := by
  obtain ⟨d1, a1, a2⟩ := hl.get hx
  have hi : i < ds.length := by
    have := (List.getElem?_eq_some_iff.mp hd).1
    simpa using this
  rw [List.getElem?_reverse hi, ← hl.length, a1] at hd
  cases hd
  exact a2.mono e
theorem gives_rev {K : PySem.W.Frag} {H0 : Hp} {a : Addr} {vs : List V} {ds : List D} (h : H0 a = some (.lst vs)) (hl : HasL H0 vs ds) : Gives (Itv K a vs.length) ds.reverse H0 := by
  have wk := walk_rev (K := K) (a := a) (xs := vs)
  refine ⟨fun H => SqL K H a vs, fun i H x H' => H' = H ∧ vs[vs.length - 1 - i]? = some x, by
    have e : ds.reverse.length = vs.length := by rw [List.length_reverse, hl.length]
    rw [e]
    exact wk, fun H1 e => SqL.of (e _ _ h), fun i H1 x H2 d H0' hd e0 e1 y => .inl ⟨y.1, rev_at hl e0 y.2 hd⟩⟩
theorem gives_revT {K : PySem.W.Frag} {H0 : Hp} {a : Addr} {vs : List V} {ds : List D} (h : H0 a = some (.tup vs)) (hl : HasL H0 vs ds) : Gives (ItvT K a vs.length) ds.reverse H0 := by
  have wk := walk_revT (K := K) (a := a) (xs := vs)
  refine ⟨fun H => SqT K H a vs, fun i H x H' => H' = H ∧ vs[vs.length - 1 - i]? = some x, by
    have e : ds.reverse.length = vs.length := by rw [List.length_reverse, hl.length]
    rw [e]
    exact wk, fun H1 e => SqT.of (e _ _ h), fun i H1 x H2 d H0' hd e0 e1 y => .inl ⟨y.1, rev_at hl e0 y.2 hd⟩⟩
def oRev : D → T (List D)
  | .list ds => .ret ds.reverse
  | .tuple ds => .ret ds.reverse
  | _ => .bad
def iRev (f : Env' → T D) : Env' → T (List D) := fun ρ => (f ρ).bind oRev
@[simp] theorem ev_iRev {f : Env' → T D} {ρ : Env'} : Wb.iRev f ρ = (f ρ).bind oRev := rfl
@[simp] theorem ev_revT {ds : List D} : oRev (.tuple ds) = .ret ds.reverse := rfl
@[simp] theorem ev_revL {ds : List D} : oRev (.list ds) = .ret ds.reverse := rfl
theorem tE_thenL {g : Ct} {σ : L2.St} {H H0 : Hp} {β : Box} {ρ : Env'} {f : Env' → T D} {k : D → T (List D)} {P : List D → Prop} {Q : VK} (r : Rel g.cad β g.ξ H0 ρ σ H) (h : ((f ρ).bind k).wp P (g.X β H0 H σ))
    (hq : ∀ d v H0' H', Stp β H0 H H0' H' → Has H0' v d → (k d).wp P (g.X β H0 H σ) → Q v H') : tE g f σ H Q := tE_then r h hq
theorem i_rev {X : Cx} {g : Ct} {tg a : Expr} {f : Env' → T D} {p pos : Pos} (hg : Gl X "reversed") (hm : X.mg "reversed" = none) (ha : PE X a (tE g f)) (hs : starEach [a] X.env = (false, eval a X.env) :: starEach [] X.env := by rfl) :
    PI X tg (.Call (.Name "reversed" p) [a] [] pos) (tI g (Wb.iRev f)) :=
  (pi_revA hg hm ha hs).imp fun σ H R ⟨β, H0, ρ, rr, q⟩ => tE_then (k := oRev) rr q fun d v H1 H2 st hv q1 => by
    cases hv with
    | lst h1 h2 => exact ⟨_, _, rfl, .inl ⟨SqL.of (st.ext _ _ h1), q1 _ H1 H2 st (gives_rev h1 h2)⟩⟩
    | tup h1 h2 => exact ⟨_, _, rfl, .inr ⟨SqT.of (st.ext _ _ h1), q1 _ H1 H2 st (gives_revT h1 h2)⟩⟩
    | _ => exact q1.elim

/-! ### isinstance(e, C), isinstance(e, (C, ..)), e the error that is handled -/
/-- what a class of errors says of itself -/
structure ExcQ (K : PySem.W.Frag) (D : Addr) : Prop where
  hc : (PySem.W.clsIn K D).isSome = true
  hg : PySem.W.findIn K (.ref D) "__getattribute__" = some (some (.builtin "BaseException.__getattribute__"))
  hk : PySem.W.findIn K (.ref D) "__getattr__" = some none
  hs : PySem.W.subIn K (.ref D) (.type "BaseException") = some true
  ha : PySem.W.findIn K (.ref D) "__class__" = some (some (.builtin "object.__class__"))
  hn : PySem.W.specialIn K (.builtin "object.__class__") "__get__" = some (some (.builtin "getset_descriptor.__get__"))
  ht : PySem.W.takesIn K (.builtin "object.__class__") = some true
  hm : PySem.W.mroIn K D (.type "object") = some true
/-- the error's dict, if there is one, stands -/
def DictOk (H : Hp) : Option Addr → Prop
  | none => True
  | some dd => ∃ fs, H dd = some (.xd fs)
section
variable {X : Cx} {a C : Addr} {oe : Obj} {cls : Value} {dx : Option Addr} {pn : List (Addr × Obj)}
theorem inst_of {pins : List (Addr × Obj)} {σ : L2.St} {H : Hp} {s : Shared} (I : Inv (X.suite a ((a, oe) :: pn)) pins σ H s) (hz : Zc (.ref C) dx oe) (hf : ∃ vs, oe.data = .fields vs) (hd : DictOk H dx) : ∃ od, PySem.W.InstAt s.heap a oe C od := by
  obtain ⟨ha, _⟩ := I.pin (a, oe) (List.mem_append_left _ List.mem_cons_self)
  obtain ⟨vs, hv⟩ := hf
  have hn : PySem.W.notCls oe = true := by unfold PySem.W.notCls; rw [hv] <;> rfl
  cases dx with
  | none => exact ⟨none, ha, hz.1, hn, by rw [hz.2]; trivial⟩
  | some dd =>
    obtain ⟨fs, e⟩ := hd
    have hx : ObjOk X.prog X.w H s.heap dd (.xd fs) := I.hok dd _ e
    obtain ⟨mA, hns, hr⟩ := hx
    obtain ⟨od, ho, hl⟩ := lookIn_ns hns
    exact ⟨some od, ha, hz.1, hn, by rw [hz.2]; exact ho⟩
def rIs1 (K : PySem.W.Frag) (a : Addr) (cls : Value) (dx : Option Addr) (cv : Value) : List V → Hp → VK → Prop := fun xs H Q => ∃ (c : V) (D : Addr) (b : Bool), xs = [.ref a, c] ∧ (∀ u, RelV c u → u = cv) ∧ cls = .ref D ∧ ExcQ K D ∧ DictOk H dx ∧ PySem.W.kitOne K (.ref D) cv = some b ∧ Q (.bl b) H
theorem call_is1 {cv : Value} (hz : Zc cls dx oe) (hf : ∃ vs, oe.data = .fields vs) : CallR (X.suite a ((a, oe) :: pn)) (.builtin "isinstance") (rIs1 X.K a cls dx cv) := by
  intro pins s σ H xs us Q I r h
  obtain ⟨c, D, b, rfl, hcv, ec, Z, hd, e, q⟩ := h
  subst ec
  obtain ⟨u1, u2, rfl, r1, r2⟩ := vals2 r
  cases (show u1 = Value.ref a from r1)
  have e2 := hcv _ r2
  subst e2
  obtain ⟨od, J⟩ := inst_of I hz hf hd
  exact PySem.W.kia_one (PySem.W.kitx_exc Z.hc Z.hg Z.hk Z.hs Z.ha Z.hn Z.ht Z.hm) I.kIn J e (fun z => nomatch z) fun tk => ⟨.bl b, H, I.kept (t' := tk) fun _ _ z => z, rfl, q⟩
def rIsN (K : PySem.W.Frag) (a : Addr) (cls : Value) (dx : Option Addr) : List V → Hp → VK → Prop := fun xs H Q => ∃ (tp : Addr) (cs : List V) (us : List Value) (D : Addr) (b : Bool), xs = [.ref a, .ref tp] ∧ H tp = some (.tup cs) ∧ Paired ClsV cs us ∧ cls = .ref D ∧ ExcQ K D ∧ DictOk H dx ∧ PySem.W.kitAny K (.ref D) us = some b ∧ Q (.bl b) H
theorem call_isN (hz : Zc cls dx oe) (hf : ∃ vs, oe.data = .fields vs) : CallR (X.suite a ((a, oe) :: pn)) (.builtin "isinstance") (rIsN X.K a cls dx) := by
  intro pins s σ H xs us Q I r h
  obtain ⟨tp, cs, ws, D, b, rfl, hT, k, ec, Z, hd, e, q⟩ := h
  subst ec
  obtain ⟨u1, u2, rfl, r1, r2⟩ := vals2 r
  cases (show u1 = Value.ref a from r1)
  cases (show u2 = Value.ref tp from r2)
  obtain ⟨od, J⟩ := inst_of I hz hf hd
  obtain ⟨_, its, rv, o, h1, h2, n, h3⟩ := (show ObjOk X.prog X.w H s.heap tp (.tup cs) from I.hok tp _ hT)
  have e3 := ClsV.all k rv
  subst e3
  obtain ⟨oc, od', dt, sl⟩ := o
  simp only at h2 h3
  subst h2 h3
  exact PySem.W.kia_tup (PySem.W.kitx_exc Z.hc Z.hg Z.hk Z.hs Z.ha Z.hn Z.ht Z.hm) I.kIn J h1 e (fun z => nomatch z) fun tk => ⟨.bl b, H, I.kept (t' := tk) fun _ _ z => z, rfl, q⟩
end
/-- is the error of the class, by the class's name -/
def eIsE (i : Nat) (cm : Str → Option Bool) : Env' → T D := fun ρ => match ρ[i]? with
  | some (.ex x) => match cm x.cls with
    | some b => .ret (.bool b)
    | none => .bad
  | _ => .bad
section
variable {X : Cx} {g : Ct} {i : Nat} {a : Addr} {oe : Obj} {cls : Value} {dx : Option Addr} {pn : List (Addr × Obj)} {x : Str} {p p1 pos : Pos} {c : Expr} {cm : Str → Option Bool}
theorem ex_slot {β : Box} {H0 H : Hp} {σ : L2.St} {ρ : Env'} {P : D → Prop} {E : Exn → Prop} (r : Rel g.cad β g.ξ H0 ρ σ H) (hxi : g.ξ = some (a, cls, dx)) (q : (eIsE i cm ρ).wp P E) :
    ∃ y C b, σ[i]? = some (some (.ref a)) ∧ g.cad y = some C ∧ cls = .ref C ∧ cm y = some b ∧ DictOk H dx ∧ P (.bool b) := by
  unfold eIsE at q
  split at q
  · next y hy =>
    split at q
    · next b hb =>
      have hl : i < σ.length := by
        rw [← r.len]
        exact (List.getElem?_eq_some_iff.mp hy).1
      obtain ⟨a', c', dx', e1, e2, he⟩ := r.sl i _ _ hy (List.getElem?_eq_getElem hl)
      rw [hxi] at e1
      cases e1
      obtain ⟨⟨C, hC, ec⟩, hdd⟩ := he
      refine ⟨y.cls, C, b, by rw [List.getElem?_eq_getElem hl, e2], hC, ec, hb, ?_, q⟩
      rcases hdd with ⟨_, hn⟩ | ⟨dd, vs, ed, hx, _⟩
      · rw [hn]
        trivial
      · rw [ed]
        exact ⟨_, r.ext _ _ hx⟩
    · exact q.elim
  · exact q.elim
theorem r_is1 {v : V} {cv : Value} (hq : ∀ y C, g.cad y = some C → ExcQ X.K C) (hk : ∀ y C b, g.cad y = some C → cm y = some b → PySem.W.kitOne X.K (.ref C) cv = some b) (hxi : g.ξ = some (a, cls, dx)) (hz : Zc cls dx oe) (hf : ∃ vs, oe.data = .fields vs)
    (hg : Gl (X.suite a ((a, oe) :: pn)) "isinstance") (hm : X.mg "isinstance" = none) (hp : PE (X.suite a ((a, oe) :: pn)) (.Name x p) (tVar i)) (hc : PE (X.suite a ((a, oe) :: pn)) c (tC v)) (hcv : ∀ u, RelV v u → u = cv)
    (hs : starEach [.Name x p, c] X.env = (false, eval (.Name x p) X.env) :: starEach [c] X.env := by rfl) (hs2 : starEach [c] X.env = (false, eval c X.env) :: starEach [] X.env := by rfl) (hpl : (backTo pos (starEach [c] X.env)).any (·.1) = false := by rfl) :
    PE (X.suite a ((a, oe) :: pn)) (.Call (.Name "isinstance" p1) [.Name x p, c] [] pos) (tE g (eIsE i cm)) :=
  (pe_callB (call_is1 (cv := cv) hz hf) hg hm (by decide +kernel) (pa_cons hp (pa_cons hc pa_nil hs2) hs) (by decide) (by decide) hs hpl).imp fun σ H Q ⟨β, H0, ρ, r, q⟩ => by
    obtain ⟨y, C, b, e1, hC, ec, hb, hd, q1⟩ := ex_slot r hxi q
    exact ⟨.ref a, e1, v, C, b, rfl, hcv, ec, hq y C hC, hd, hk y C b hC hb, q1 _ H0 H r.refl (.bl b)⟩
theorem r_isN {tcs : TA} {cs : List V} {us : List Value} (hq : ∀ y C, g.cad y = some C → ExcQ X.K C) (hk : ∀ y C b, g.cad y = some C → cm y = some b → PySem.W.kitAny X.K (.ref C) us = some b) (hxi : g.ξ = some (a, cls, dx)) (hz : Zc cls dx oe) (hf : ∃ vs, oe.data = .fields vs)
    (hg : Gl (X.suite a ((a, oe) :: pn)) "isinstance") (hm : X.mg "isinstance" = none) (hp : PE (X.suite a ((a, oe) :: pn)) (.Name x p) (tVar i)) (hc : PE (X.suite a ((a, oe) :: pn)) c (tTup tcs)) (hct : ∀ σ H (Q : List V → Hp → Prop), Q cs H → tcs σ H Q) (hlen : cs.length ≤ 100) (hcv : Paired ClsV cs us)
    (hs : starEach [.Name x p, c] X.env = (false, eval (.Name x p) X.env) :: starEach [c] X.env := by rfl) (hs2 : starEach [c] X.env = (false, eval c X.env) :: starEach [] X.env := by rfl) (hpl : (backTo pos (starEach [c] X.env)).any (·.1) = false := by rfl) :
    PE (X.suite a ((a, oe) :: pn)) (.Call (.Name "isinstance" p1) [.Name x p, c] [] pos) (tE g (eIsE i cm)) :=
  (pe_callB (call_isN hz hf) hg hm (by decide +kernel) (pa_cons hp (pa_cons hc pa_nil hs2) hs) (by decide) (by decide) hs hpl).imp fun σ H Q ⟨β, H0, ρ, r, q⟩ => by
    obtain ⟨y, C, b, e1, hC, ec, hb, hd, q1⟩ := ex_slot r hxi q
    refine ⟨.ref a, e1, hct _ _ _ ⟨lim_line (by omega), fun tp htp => ?_⟩⟩
    have hd' : DictOk (upd H tp (.tup cs)) dx := by
      cases dx with
      | none => trivial
      | some dd =>
        obtain ⟨fs, e⟩ := hd
        exact ⟨fs, by rw [upd_ne (ne_of_none e htp)]; exact e⟩
    exact ⟨tp, cs, us, C, b, rfl, upd_same, hcv, ec, hq y C hC, hd', hk y C b hC hb, q1 _ H0 _ (r.junk htp) (.bl b)⟩
end
theorem look_all {l : List (Str × Addr)} {P : Addr → Prop} (h : ∀ p ∈ l, P p.2) (x : Str) (C : Addr) (e : l.lookup x = some C) : P C := by
  induction l with
  | nil => cases e
  | cons p l ih =>
    rw [List.lookup_cons] at e
    cases q : x == p.1 with
    | true =>
      rw [q] at e
      cases e
      exact h p (List.mem_cons_self ..)
    | false =>
      rw [q] at e
      exact ih (fun p' hp => h p' (List.mem_cons_of_mem _ hp)) e
theorem cm_gen {l : List (Str × Addr × Bool)} {P : Addr → Bool → Prop} (h : ∀ p ∈ l, P p.2.1 p.2.2) (x : Str) (C : Addr) (b : Bool) (h1 : (l.map fun p => (p.1, p.2.1)).lookup x = some C) (h2 : (l.map fun p => (p.1, p.2.2)).lookup x = some b) : P C b := by
  induction l with
  | nil => cases h1
  | cons p l ih =>
    rw [List.map_cons, List.lookup_cons] at h1 h2
    cases q : x == p.1 with
    | true =>
      rw [q] at h1 h2
      cases h1
      cases h2
      exact h p (List.mem_cons_self ..)
    | false =>
      rw [q] at h1 h2
      exact ih (fun p' hp => h p' (List.mem_cons_of_mem _ hp)) h1 h2
/-- a def that is not called -/
theorem FnG.none {P : Program} {w : World} {K : PySem.W.Frag} {mg : Str → Option Value} {base : Heap} {cad : Cad} {k : Nat} {fa : Addr} {fd : FuncData} {ps : List Str} : FnG P w K mg base k fa fd ps (spD cad ps.length fun _ => .bad) :=
  ⟨fun _ _ _ _ h => h.1, fun _ _ _ _ _ _ _ _ _ _ _ _ _ _ h => by
    obtain ⟨_, _, _, _, _, _, _, _, _, q⟩ := h
    exact q.elim⟩
end Wb

set_option Elab.async false
set_option linter.all false
set_option maxRecDepth 100000
set_option maxHeartbeats 4000000
/-! Wb, part 26: x[::-1] of a tuple or a list. -/
namespace Wb
open PySem PySem.Spec PyProof.Rows L2 HT
section
variable {prog : Program} {w : World} {A : Around} {E : Value → Shared → Prop} {s : Shared}
theorem places_rev (n : Nat) : Builtin.Slice.slicePlaces ((n : Int) - 1) (-1) (-1) = n := by
  unfold Builtin.Slice.slicePlaces
  have h1 : ¬ ((-1 : Int) > 0) := by omega
  rw [if_neg h1]
  have e : -(-1 : Int) = 1 := by omega
  simp only [e, Int.ediv_one]
  split <;> omega
theorem sliceApplied_rev {sl : Addr} {vl vu vs : Value} {n : Nat} {Q : Int × Int × Nat → Shared → Prop} (hs : s.heap.IsSliceOf sl vl vu vs) (pl : IsPart vl none) (pu : IsPart vu none) (ps : IsPart vs (some (-1)))
    (h : Q ((n : Int) - 1, -1, n) s) : wpAny (model prog w) A (Builtin.Slice.sliceApplied (.ref sl) (pure (n : Int))) Q E s := by
  obtain ⟨os, hos, hcs, hds⟩ := id hs
  unfold Builtin.Slice.sliceApplied Builtin.Slice.sliceFields
  refine wpAny_bind (wpAny_bind (wpAny_field hos hds (x := vl) rfl (wpAny_bind (wpAny_field hos hds (x := vu) rfl (wpAny_bind (wpAny_field hos hds (x := vs) rfl (wpAny_pure ?_)))))))
  refine wpAny_bind (slicePart_ ps ?_)
  show wpAny _ _ (if ((-1 : Int) == 0) = true then _ else _) _ _ s
  rw [if_neg (by decide)]
  refine wpAny_bind (slicePart_ pl (wpAny_bind (slicePart_ pu (wpAny_bind (wpAny_pure ?_)))))
  show wpAny _ _ (pure ((n : Int) - 1, (-1 : Int), Builtin.Slice.slicePlaces ((n : Int) - 1) (-1) (-1))) _ _ s
  rw [places_rev]
  exact wpAny_pure h
theorem pick_back (xs : List Value) : ∀ k : Nat, k ≤ xs.length → ((List.range k).filterMap fun (m : Nat) => xs[(((xs.length : Nat) : Int) - 1 + (m : Int) * -1).toNat]?) = xs.reverse.take k
  | 0, _ => by simp
  | k + 1, h => by
    rw [List.range_succ, List.filterMap_append, pick_back xs k (by omega)]
    have e : (((xs.length : Nat) : Int) - 1 + (k : Int) * -1).toNat = xs.length - 1 - k := by omega
    have hk : xs.length - 1 - k < xs.length := by omega
    rw [List.take_succ, List.getElem?_reverse (by omega)]
    congr 1
    simp only [List.filterMap_cons, List.filterMap_nil, e, List.getElem?_eq_getElem hk]
    rfl
theorem pick_rev (xs : Array Value) : ((List.range xs.size).filterMap fun (m : Nat) => xs[(((xs.size : Nat) : Int) - 1 + (m : Int) * -1).toNat]?).toArray = xs.toList.reverse.toArray := by
  have h := pick_back xs.toList xs.toList.length (Nat.le_refl _)
  have e : xs.toList.reverse.take xs.toList.length = xs.toList.reverse := by rw [List.take_of_length_le (by simp)]
  rw [e] at h
  rw [← h]
  simp
theorem getItem_tuple_rev {t sl : Addr} {items : Array Value} {vl vu vs : Value} {Q : Value → Shared → Prop} (ht : IsTup s.heap t items) (hs : s.heap.IsSliceOf sl vl vu vs) (pl : IsPart vl none) (pu : IsPart vu none) (ps : IsPart vs (some (-1)))
    (h : Q (.ref s.heap.objs.size) { s with heap := s.heap.push { cls := .type "tuple", data := .seq items.toList.reverse.toArray } })
    (hsz : items.size ≤ sizeLine) : wpAny (model prog w) A (getItem (.ref t) (.ref sl)) Q E s := by
  have htake : sizeOk (.seq items.toList.reverse.toArray) := by
    show items.toList.reverse.toArray.size ≤ sizeLine
    rw [List.size_toArray, List.length_reverse, Array.length_toList]
    omega
  obtain ⟨os, hos, hcs, hds⟩ := id hs
  have hTs : s.TypeIs (.ref sl) "slice" := ⟨os, hos, hcs⟩
  unfold getItem
  try with_reducible refine wpAny_holding ?_
  first | refine wpAny_bind (wpAny_pure ?_) | skip
  refine wpAny_bind (wpAny_sequenceKey ht.typeIs (by decide) ?_)
  refine wpAny_bind (wpAny_callSpecial?_slot (name := Str.ofString "__getitem__") ht.typeIs PyProof.Rows.slot_tuple_getitem
    (wpAny_call_entry PyProof.Rows.slot_tuple_getitem ht.typeIs entry_tuple_getitem ?_ (args_tuple_getitem _ _)))
  show wpAny _ _ (Builtin.Tuple.tupleItemsOf (.ref t) >>= _) _ _ s
  refine wpAny_bind (tupleItemsOf_ ht ?_)
  refine wpAny_bind (wpAny_typeOf hTs ?_)
  rw [if_pos (by decide)]
  refine wpAny_bind (sliceApplied_rev hs pl pu ps ?_)
  have hno : ¬ ((((items.size : Int) - 1) == 0 && (-1 : Int) == 1 && items.size == items.size) = true) := by
    rw [show ((-1 : Int) == 1) = false from rfl]
    simp
  show wpAny _ _ (if (((items.size : Int) - 1) == 0 && (-1 : Int) == 1 && items.size == items.size) = true then _ else _) _ _ s
  rw [if_neg hno, pick_rev]
  first
    | exact wpAny_bind (m := Builtin.Tuple.tupleExact _) (wpAny_newObj_type (wpAny_pure ⟨_, rfl, wpAny_pure h⟩) htake)
    | exact wpAny_bind (m := Builtin.Tuple.tupleExact _) (wpAny_newObj_type (wpAny_bind (wpAny_pure (wpAny_pure ⟨_, rfl, wpAny_pure h⟩))) htake)
    | exact wpAny_bind (wpAny_bind (m := Builtin.Tuple.tupleExact _) (wpAny_newObj_type (wpAny_pure (wpAny_pure ⟨_, rfl, wpAny_pure h⟩)) htake))
    | exact wpAny_bind (wpAny_bind (m := Builtin.Tuple.tupleExact _) (wpAny_newObj_type (wpAny_pure ⟨_, rfl, wpAny_pure h⟩) htake))
end
section
variable {X : Cx}
def tRevA (K : PySem.W.Frag) (te : TE) : TE := fun σ H Q => te σ H fun x H1 =>
  (∃ a xs, x = .ref a ∧ SqL K H1 a xs ∧ ∀ p, H1 p = none → Q (.ref p) (upd H1 p (.lst xs.reverse))) ∨
  (∃ a xs, x = .ref a ∧ SqT K H1 a xs ∧ ∀ p, H1 p = none → Q (.ref p) (upd H1 p (.tup xs.reverse)))
theorem pe_revA {e : Expr} {te : TE} {k : Nat} {p1 p2 p3 pos : Pos} (he : PE X e te) : PE X (.Subscript e (.Slice none none (some (.UnaryOp .USub (.Constant (.int 1) k p1) p2)) p3) pos) (tRevA X.K te) := by
  refine ⟨fun pins s σ H Q I h => ?_⟩
  refine Subscript_ (thn (he.run pins s σ H _ I h) fun v s1 ⟨x, H1, I1, r1, q1⟩ => ?_)
  have hst : PO X (some (.UnaryOp .USub (.Constant (.int 1) k p1) p2)) (tPart (tUn (rU fun i => .int (-i)) (tC (.int 1)))) := po_some (pe_un un_neg pe_int)
  refine wpAny_Slice (thn (po_none.run pins s1 σ H1 (fun o H2 => o = none ∧ H2 = H1) I1 ⟨rfl, rfl⟩) fun vl s2 ⟨l, H2, I2, pl, el, e2⟩ => ?_)
  subst el e2
  refine thn (po_none.run pins s2 σ H2 (fun o H3 => o = none ∧ H3 = H2) I2 ⟨rfl, rfl⟩) fun vu s3 ⟨u, H3, I3, pu, eu, e3⟩ => ?_
  subst eu e3
  refine thn (hst.run pins s3 σ H3 (fun o H4 => o = some (-1) ∧ H4 = H3) I3 ⟨1, rfl, -1, rfl, rfl, rfl⟩) fun vs s4 ⟨o, H4, I4, ps, eo, e4⟩ => ?_
  subst eo e4
  have I5 : Inv X pins σ H4 { s4 with heap := s4.heap.push { cls := .type "slice", data := .fields #[vl, vu, vs] } } := I4.kept (t' := s4.toks) fun b ob q => Heap.get?_push_of_some _ q
  rcases q1 with ⟨a, xs, ex, hx, q⟩ | ⟨a, xs, ex, hx, q⟩
  · subst ex
    cases r1
    obtain ⟨its, r, ht, hz⟩ := I5.list hx
    have hlen := r.length
    show wpAny (model X.prog X.w) X.A (subscriptTail e (.Slice none none (some (.UnaryOp .USub (.Constant (.int 1) k p1) p2)) p3) (.ref a) (.ref s4.heap.objs.size)) (EP X pins σ Q) X.xe { s4 with heap := s4.heap.push { cls := .type "slice", data := .fields #[vl, vu, vs] } }
    refine tail_any (ops := [.ref a, .ref s4.heap.objs.size]) ht.isList.typeIs (PySem.slot_list_getitem.lookup) ?_ (by with_unfolding_all rfl)
    refine wpAny_getItem_list_slice ht.isList (Heap.IsSliceOf.new _ vl vu vs) pl pu ps (by decide) ?_ (by rw [List.size_toArray]; omega)
    rw [PySem.W.krv_pick]
    refine ⟨.ref _, _, I5.laid (t' := s4.toks) (o := .lst xs.reverse) (fun b ob q => Heap.get?_push_of_some _ q) (Nat.le_refl _) ?_, rfl, q _ (I5.hok.fresh (Nat.le_refl _))⟩
    exact ⟨by rw [List.length_reverse]; exact hz, _, 0, r.reverse, Heap.get?_push_size _ rfl⟩
  · subst ex
    cases r1
    obtain ⟨its, r, ht, hz⟩ := I5.tuple hx
    have hlen := r.length
    show wpAny (model X.prog X.w) X.A (subscriptTail e (.Slice none none (some (.UnaryOp .USub (.Constant (.int 1) k p1) p2)) p3) (.ref a) (.ref s4.heap.objs.size)) (EP X pins σ Q) X.xe { s4 with heap := s4.heap.push { cls := .type "slice", data := .fields #[vl, vu, vs] } }
    refine tail_any (ops := [.ref a, .ref s4.heap.objs.size]) ht.typeIs (PyProof.Rows.slot_tuple_getitem.lookup) ?_ (by with_unfolding_all rfl)
    refine getItem_tuple_rev ht (Heap.IsSliceOf.new _ vl vu vs) pl pu ps ?_ (by rw [List.size_toArray]; omega)
    refine ⟨.ref _, _, I5.laid (t' := s4.toks) (o := .tup xs.reverse) (fun b ob q => Heap.get?_push_of_some _ q) (Nat.le_refl _) ?_, rfl, q _ (I5.hok.fresh (Nat.le_refl _))⟩
    exact ⟨by rw [List.length_reverse]; exact hz, _, r.reverse, IsTup.new _ _⟩
end

theorem HasL.rev {H : Hp} : ∀ {vs : List V} {ds : List D}, HasL H vs ds → HasL H vs.reverse ds.reverse
  | _, _, .nil => .nil
  | _, _, .cons h r => by
    rw [List.reverse_cons, List.reverse_cons]
    exact (HasL.rev r).append (.cons h .nil)
def oRevS : D → T D
  | .list xs => .ret (.list xs.reverse)
  | .tuple xs => .ret (.tuple xs.reverse)
  | _ => .bad
def eRevS (f : Env' → T D) : Env' → T D := fun ρ => (f ρ).bind oRevS
theorem r_revS {X : Cx} {g : Ct} {f : Env' → T D} {a : Expr} {k : Nat} {p1 p2 p3 pos : Pos} (ha : PE X a (tE g f)) : PE X (.Subscript a (.Slice none none (some (.UnaryOp .USub (.Constant (.int 1) k p1) p2)) p3) pos) (tE g (eRevS f)) :=
  (pe_revA ha).imp fun σ H Q ⟨β, H0, ρ, rr, q⟩ => tE_then rr q fun d v H1 H2 st hv q1 => by
    cases hv with
    | lst h1 h2 => exact .inl ⟨_, _, rfl, SqL.of (st.ext _ _ h1), fun p hp => wp_out st q1 (.ref p) _ _ (Stp.new st.ext st.ok st.boxf hp) (.lst upd_same (upd_has (st.ext.free hp) h2.rev))⟩
    | tup h1 h2 => exact .inr ⟨_, _, rfl, SqT.of (st.ext _ _ h1), fun p hp => wp_out st q1 (.ref p) _ _ (Stp.new st.ext st.ok st.boxf hp) (.tup upd_same (upd_has (st.ext.free hp) h2.rev))⟩
    | _ => exact q1.elim
@[simp] theorem ev_revS {f : Env' → T D} {ρ : Env'} : eRevS f ρ = (f ρ).bind oRevS := rfl
@[simp] theorem oRevS_list {xs : List D} : oRevS (.list xs) = .ret (.list xs.reverse) := rfl
@[simp] theorem oRevS_tup {xs : List D} : oRevS (.tuple xs) = .ret (.tuple xs.reverse) := rfl

/-! ### list.count -/
def rCntD (K : PySem.W.Frag) : V → List V → Hp → VK → Prop := fun x xs H Q => ∃ (a : Addr) (y : V) (d : PyData) (ds : List PyData), x = V.ref a ∧ xs = [y] ∧ Dp K H (V.ref a) (.list ds) ∧ Dp K H y d ∧
  SeqAt.shaped (.list ds) = true ∧ SeqAt.shaped d = true ∧ Q (.int ((ds.countP fun z => PyData.eqv z d : Nat) : Int)) H
theorem mt_countD {X : Cx} (hu : X.A.units + 65 < cLine) : MtR X "list.count" (rCntD X.K) := by
  intro pins s σ H x xs v us Q I rx rxs h
  obtain ⟨a, y, d, ds, rfl, rfl, hl, hy, sl, sd, q⟩ := h
  cases rx
  cases rxs with
  | cons ry rt =>
    rename_i uy ut
    cases rt
    obtain ⟨bs, r1⟩ := Dp.reads I d y uy hy ry
    have hxs : PyData.canLayAll0 ds = true := SeqAt.canLay_of_shaped sl
    have hroom : X.A.units + 1 + min (PyData.depthAll ds) d.depth < cLine := room_in_shaped sd hu
    cases hl with
    | lst hs ha =>
      obtain ⟨its, rv, ⟨⟨cls, dd, data, sls⟩, n, ho, hc, hdn, hdt⟩, hlen⟩ := I.list hs
      simp only at hc hdt
      subst hc hdt
      obtain ⟨as, h4⟩ := Dp.readsAll I ds _ its ha rv
      have hmap : its.map (SeqAt.readOf s.heap) = ds := SeqAt.readsAll_map ds its as hxs h4
      refine call_meets PySem.F.slot_list_count ⟨_, ho, rfl⟩ PySem.F.entry_list_count (PySem.F.args_list_count_2 _ _)
        (SeqAt.list_countAt a its.toArray n dd sls uy (fun u => PyData.eqv (SeqAt.readOf s.heap u) d)) ⟨ho, SeqAt.items_eqAt (vs := its.toArray) (show ReadsAll s.heap its.toArray.toList ds as from h4) r1 hxs (SeqAt.canLay_of_shaped sd) hroom, ?_⟩
      have ec : its.toArray.toList.countP (fun u => PyData.eqv (SeqAt.readOf s.heap u) d) = ds.countP fun z => PyData.eqv z d := by
        rw [← hmap, List.countP_map]
        rfl
      rw [ec]
      exact ⟨.int _, H, I.tok _, ⟨_, rfl⟩, q⟩
def oCnt (x y : D) : T D := match x with
  | .list ds => if (cEq y && cEq (.list ds)) = true then .ret (.int ((ds.countP fun z => PyData.eqv z y : Nat) : Int)) else .bad
  | _ => .bad
def kCnt (h : Env' → T D) (ρ : Env') : D → T D
  | .list ds => (h ρ).bind fun y => oCnt (.list ds) y
  | _ => .bad
def eCnt (f h : Env' → T D) : Env' → T D := fun ρ => (f ρ).bind fun x => kCnt h ρ x
theorem r_cnt {X : Cx} {g : Ct} {f h : Env' → T D} {a e : Expr} {apos pos : Pos} (hu : X.A.units + 65 < cLine) (ha : PE X a (tE g f)) (hb : PE X e (tE g h))
    (hbase : attributeBase a "count" X.env (eval a X.env) = eval a X.env := by rfl)
    (hfew : ((backTo pos (starEach [e] X.env)).all (fun x => !x.1) && (backToKw pos (keywordEach [] X.env)).all (fun x => x.1.isSome)
      && decide ([e].length + ([] : List Keyword).length + (if ([] : List Keyword).isEmpty then 0 else 1) < 30)) = true := by rfl)
    (hline : (apos.endLine == pos.line) = true := by rfl) (hs : starEach [e] X.env = (false, eval e X.env) :: starEach [] X.env := by rfl) (hplain : (backTo pos (starEach [] X.env)).any (·.1) = false := by rfl) :
    PE X (.Call (.Attribute a "count" apos) [e] [] pos) (tE g (eCnt f h)) :=
  (pe_bm PySem.F.plainAttrs_list PySem.F.slot_list_count PySem.F.type_list_count (mt_countD hu) ha (pa_cons hb pa_nil hs) hbase hfew hline hs hplain).imp fun σ H Q ⟨β, H0, ρ, rr, q⟩ => tE_then rr q fun d v H1 H2 st hv q1 => by
    have rr1 := rr.step st
    cases hv with
    | @lst a xs ds h1 h2 =>
      refine ⟨.inl ⟨rfl, _, SqL.of (st.ext _ _ h1)⟩, ?_⟩
      refine tE_then rr1 (wp_out st q1) fun d' v' H3 H4 st2 hv' q2 => ?_
      have q2 : (if (cEq d' && cEq (.list ds)) = true then T.ret (PyData.int ((ds.countP fun z => PyData.eqv z d' : Nat) : Int)) else .bad).wp _ _ := q2
      split at q2
      · next c =>
        rw [Bool.and_eq_true] at c
        obtain ⟨a1, a2⟩ := cEq_of c.1
        obtain ⟨b1, b2⟩ := cEq_of c.2
        exact ⟨_, _, d', ds, rfl, rfl, (Has.lst (st2.grow _ _ h1) (h2.mono st2.grow)).dp st2.ext b1, hv'.dp st2.ext a1, b2, a2, out_ret st2.ext st2.ok st2.boxf (.int _) (wp_out st2 q2)⟩
      · exact q2.elim
    | _ => exact q1.elim
@[simp] theorem ev_cnt {f h : Env' → T D} {ρ : Env'} : eCnt f h ρ = (f ρ).bind fun x => kCnt h ρ x := rfl
@[simp] theorem kCnt_list {h : Env' → T D} {ρ : Env'} {ds : List D} : kCnt h ρ (.list ds) = (h ρ).bind fun y => oCnt (.list ds) y := rfl
@[simp] theorem oCnt_list {ds : List D} {y : D} : oCnt (.list ds) y = if (cEq y && cEq (.list ds)) = true then .ret (.int ((ds.countP fun z => PyData.eqv z y : Nat) : Int)) else .bad := rfl
theorem pe_cls {X : Cx} {x : Str} {a : Addr} {pos : Pos} (hg : Gl X x) (hm : X.mg x = some (.ref a)) (hdb : (x == ("__debug__" : Str)) = false := by decide) : PE X (.Name x pos) (tC (.ref a)) :=
  pe_glob (v := .ref a) (u := .ref a) hg hm rfl hdb
end Wb

set_option Elab.async false
set_option linter.all false
set_option maxRecDepth 100000
set_option maxHeartbeats 4000000
/-! Wb, part 27: a list of one's own out of two lists; dicts of the module, texts to numbers. -/
namespace Wb
open PySem PySem.Spec PyProof.Rows L2

def oCatL (x y : D) : T (List D) := match x with
  | .list xs => match y with
    | .list ys => if xs.length + ys.length ≤ 1000000 then .ret (xs ++ ys) else .bad
    | _ => .bad
  | _ => .bad
def lAdd (f h : Env' → T D) : Env' → T (List D) := fun ρ => (f ρ).bind fun x => (h ρ).bind fun y => oCatL x y
@[simp] theorem oCatL_list {xs ys : List D} : oCatL (.list xs) (.list ys) = if xs.length + ys.length ≤ 1000000 then .ret (xs ++ ys) else .bad := rfl
@[simp] theorem ev_lAdd {f h : Env' → T D} {ρ : Env'} : lAdd f h ρ = (f ρ).bind fun x => (h ρ).bind fun y => oCatL x y := rfl
section
variable {X : Cx} {g : Ct} {a b : Expr} {f h : Env' → T D} {pos : Pos} {st : Stmt}
theorem s_ownCat {i : Nat} (hs : PS X st (tAsg (tOp rCat (tE g f) (tE g h)) (gName i))) : PS X st (tS g (sOwn i (lAdd f h))) := hs.imp fun E σ H ⟨β, A, B, C, H0, ρ, r, q⟩ => by
  unfold sOwn lAdd at q
  rw [T.lift_bind] at q
  refine tE_lift r q fun d v H1 H2 s hv q1 => ?_
  rw [T.lift_bind] at q1
  have r1 := r.step s
  refine tE_lift r1 q1 fun d' v' H3 H4 s2 hv' q2 => ?_
  have r2 := r1.step s2
  have hv2 := hv.mono s2.grow
  cases hv2 with
  | @lst p xs ds h1 h2 =>
    cases hv' with
    | @lst p' ys es h3 h4 =>
      have q2 : (((if ds.length + es.length ≤ 1000000 then T.ret (ds ++ es) else T.bad : T (List D))).lift ρ fun ds => .ret (Fl.nx (ρ.set i (.own ds)))).wp (FlOut g β A B C E) noE := q2
      by_cases z : ds.length + es.length ≤ 1000000
      · rw [if_pos z] at q2
        have l1 := h2.length
        have l2 := h4.length
        refine ⟨p, p', xs, ys, rfl, rfl, s2.ext _ _ h1, s2.ext _ _ h3, lim_line (by omega), fun p2 hp => ?_⟩
        obtain ⟨f1, f2, f3, f4⟩ := r2.fresh hp
        have r3 := r2.step (r2.rel.junk (o := .lst (xs ++ ys)) hp)
        exact q2 _ H3 _ (r3.setOwn f1 upd_same (h2.append h4) f2 f3 fun j ys q _ a b => f4 j ys q a b)
      · rw [if_neg z] at q2
        exact q2.elim
    | _ => exact q2.elim
  | _ => exact q2.elim
end

/-! ### a dict of the module -/
def EntI : List DictEntry → List (Str × Int) → Prop
  | [], [] => True
  | e :: r, p :: s => (∃ t, e.key = .str p.1 t) ∧ (∃ t, e.val = .int p.2 t) ∧ EntI r s
  | _, _ => False
structure KdI (K : PySem.W.Frag) (w : World) (d : Addr) (kvs : List (Str × Int)) : Prop where
  ex : ∃ es n, K.lookup d = some ⟨.type "dict", none, .dict es n, #[]⟩ ∧ PySem.W.KeysLit w.params es.toList ∧ EntI es.toList kvs
  low : (d == sysModules) = false
theorem EntI.find (z : Str) : ∀ {es : List DictEntry} {kvs : List (Str × Int)}, EntI es kvs →
    (match es.find? (·.key.isStr z) with
      | some e => (some (some e.val) : Option (Option Value))
      | none => if es.any (·.refKey) then none else some none) = (match kvs.lookup z with
      | some i => (match es.find? (·.key.isStr z) with | some e => some (some e.val) | none => none)
      | none => some none) ∧ (∀ i, kvs.lookup z = some i → ∃ e t, es.find? (·.key.isStr z) = some e ∧ e.val = .int i t) ∧ es.any (·.refKey) = false
  | [], [], _ => ⟨rfl, (fun _ h => by cases h), rfl⟩
  | e :: r, p :: s, ⟨⟨t, h1⟩, ⟨u, h2⟩, h3⟩ => by
    obtain ⟨i1, i2, i3⟩ := EntI.find z h3
    have ek : e.key.isStr z = (z == p.1) := by
      rw [h1]
      show (p.1 == z) = (z == p.1)
      exact Bool.eq_iff_iff.mpr ⟨fun q => by rw [beq_iff_eq] at q ⊢; exact q.symm, fun q => by rw [beq_iff_eq] at q ⊢; exact q.symm⟩
    have rk : e.refKey = false := by
      unfold DictEntry.refKey
      rw [h1]
    have an : (e :: r).any (·.refKey) = false := by simp [rk, i3]
    cases hz : z == p.1 with
    | true =>
      have ek' : e.key.isStr z = true := ek.trans hz
      have f1 : (e :: r).find? (·.key.isStr z) = some e := by simp [List.find?, ek']
      have f2 : (p :: s).lookup z = some p.2 := by
        obtain ⟨p1, p2⟩ := p
        simp only [List.lookup]
        simp only at hz
        rw [hz]
      refine ⟨by rw [f1, f2], fun i hi => ?_, an⟩
      rw [f2] at hi
      cases hi
      exact ⟨e, u, f1, h2⟩
    | false =>
      have ek' : e.key.isStr z = false := ek.trans hz
      have f1 : (e :: r).find? (·.key.isStr z) = r.find? (·.key.isStr z) := by simp [List.find?, ek']
      have f2 : (p :: s).lookup z = s.lookup z := by
        obtain ⟨p1, p2⟩ := p
        simp only [List.lookup]
        simp only at hz
        rw [hz]
      rw [f1, f2, an]
      rw [i3] at i1
      exact ⟨i1, i2, rfl⟩
theorem KdI.ns {K : PySem.W.Frag} {w : World} {d : Addr} {kvs : List (Str × Int)} (h : KdI K w d kvs) (z : Str) :
    (kvs.lookup z = none → PySem.W.nsIn K d z = some none) ∧ ∀ i, kvs.lookup z = some i → ∃ t, PySem.W.nsIn K d z = some (some (.int i t)) := by
  obtain ⟨es, n, h1, h2, h3⟩ := h.ex
  obtain ⟨i1, i2, i3⟩ := EntI.find z h3
  have e : PySem.W.nsIn K d z = (match es.toList.find? (·.key.isStr z) with
      | some e => some (some e.val)
      | none => if es.toList.any (·.refKey) then none else some none) := by
    unfold PySem.W.nsIn
    simp only [h1]
    cases es.toList.find? (·.key.isStr z) <;> rfl
  refine ⟨fun q => ?_, fun i q => ?_⟩
  · rw [e, i1, q]
    all_goals rfl
  · obtain ⟨en, t, f1, f2⟩ := i2 i q
    refine ⟨t, ?_⟩
    rw [e, f1]
    show some (some en.val) = _
    rw [f2]
/-- x in the dict -/
def oKIn (kvs : List (Str × Int)) : D → T D
  | .str z => .ret (.bool (kvs.lookup z).isSome)
  | _ => .bad
def oKNotIn (kvs : List (Str × Int)) : D → T D
  | .str z => .ret (.bool (!(kvs.lookup z).isSome))
  | _ => .bad
/-- d[x] -/
def oKGet (kvs : List (Str × Int)) : D → T D
  | .str z => match kvs.lookup z with
    | some i => .ret (.int i)
    | none => .bad
  | _ => .bad
section
variable {X : Cx} {g : Ct} {a b : Expr} {f h : Env' → T D} {pos p : Pos} {x : Str} {d : Addr} {kvs : List (Str × Int)}
theorem KdI.kd (h : KdI X.K X.w d kvs) : ∃ es n, L2.KDict X.K X.w d es n := by
  obtain ⟨es, n, h1, h2, h3⟩ := h.ex
  exact ⟨es, n, h1, h2, h.low⟩
theorem r_kin (D : KdI X.K X.w d kvs) (hg : Gl X x) (hm : X.mg x = some (.ref d)) (ha : PE X a (tE g f)) (hdb : (x == ("__debug__" : Str)) = false := by decide) : PE X (.Compare a [.In] [.Name x p] pos) (tE g (eUn (oKIn kvs) f)) := by
  obtain ⟨es, n, K⟩ := D.kd
  refine (pe_cmpR (op_in_kd K) ha (pe_glob (v := .ref d) hg hm rfl hdb) rfl).imp fun σ H Q ⟨β, H0, ρ, rr, q⟩ => tE_then rr q fun dd v H1 H2 st hv q1 => ?_
  cases hv with
  | str z =>
    obtain ⟨n1, n2⟩ := D.ns z
    have q1 : (T.ret (PyData.bool (kvs.lookup z).isSome)).wp (Out β H0 H Q) (g.X β H0 H σ) := q1
    cases e : kvs.lookup z with
    | none =>
      rw [e] at q1
      exact ⟨z, none, rfl, rfl, n1 e, q1 (.bl false) H1 H2 st (.bl _)⟩
    | some i =>
      rw [e] at q1
      obtain ⟨t, n3⟩ := n2 i e
      exact ⟨z, _, rfl, rfl, n3, q1 (.bl true) H1 H2 st (.bl _)⟩
  | _ => exact q1.elim
theorem q_kin (D : KdI X.K X.w d kvs) (hg : Gl X x) (hm : X.mg x = some (.ref d)) (ha : PE X a (tE g f)) (hdb : (x == ("__debug__" : Str)) = false := by decide) : PT X (.Compare a [.In] [.Name x p] pos) (tT g (eUn (oKIn kvs) f)) := by
  obtain ⟨es, n, K⟩ := D.kd
  refine (pt_cmpR (op_in_kd K) ha (pe_glob (v := .ref d) hg hm rfl hdb) rfl).imp fun σ H Q ⟨β, H0, ρ, rr, q⟩ => tE_then (P := outB β H0 H Q) rr q fun dd v H1 H2 st hv q1 => ?_
  cases hv with
  | str z =>
    obtain ⟨n1, n2⟩ := D.ns z
    have q1 : (T.ret (PyData.bool (kvs.lookup z).isSome)).wp (outB β H0 H Q) (g.X β H0 H σ) := q1
    cases e : kvs.lookup z with
    | none =>
      rw [e] at q1
      obtain ⟨b, eb, hq⟩ := q1
      cases eb
      exact ⟨z, none, rfl, rfl, n1 e, _, rfl, hq H1 H2 st⟩
    | some i =>
      rw [e] at q1
      obtain ⟨t, n3⟩ := n2 i e
      obtain ⟨b, eb, hq⟩ := q1
      cases eb
      exact ⟨z, _, rfl, rfl, n3, _, rfl, hq H1 H2 st⟩
  | _ => exact q1.elim
theorem r_kget (D : KdI X.K X.w d kvs) (hg : Gl X x) (hm : X.mg x = some (.ref d)) (ha : PE X a (tE g f)) (hs : PlainIx a) (hdb : (x == ("__debug__" : Str)) = false := by decide) : PE X (.Subscript (.Name x p) a pos) (tE g (eUn (oKGet kvs) f)) := by
  obtain ⟨es, n, h1, h2, h3⟩ := D.ex
  refine (pe_ix ix_kdict (pe_glob (v := .ref d) hg hm rfl hdb) ha hs).imp fun σ H Q ⟨β, H0, ρ, rr, q⟩ => tE_then rr q fun dd v H1 H2 st hv q1 => ?_
  cases hv with
  | str z =>
    have q1 : (match kvs.lookup z with | some i => T.ret (PyData.int i) | none => .bad).wp (Out β H0 H Q) (g.X β H0 H σ) := q1
    cases e : kvs.lookup z with
    | none =>
      rw [e] at q1
      exact q1.elim
    | some i =>
      rw [e] at q1
      obtain ⟨t, n3⟩ := (D.ns z).2 i e
      exact ⟨d, z, .int i, rfl, rfl, ⟨es, n, _, h1, h2, n3, ⟨_, rfl⟩⟩, q1 (.int i) H1 H2 st (.int _)⟩
  | _ => exact q1.elim
end
@[simp] theorem oKIn_str {kvs : List (Str × Int)} {z : Str} : oKIn kvs (.str z) = .ret (.bool (kvs.lookup z).isSome) := rfl
@[simp] theorem oKGet_str {kvs : List (Str × Int)} {z : Str} : oKGet kvs (.str z) = (match kvs.lookup z with | some i => .ret (.int i) | none => .bad) := rfl
end Wb

set_option Elab.async false
set_option linter.all false
set_option maxRecDepth 100000
set_option maxHeartbeats 4000000
/-! Wb, part 28: == and != with an empty tuple or list, whatever the other one holds. -/
namespace Wb
open PySem PySem.Spec PyProof.Rows L2

/-- two tuples or two lists, the second one empty -/
def rNil (K : PySem.W.Frag) (f : Bool → Bool) : R2 := fun x y H Q => ∃ a b xs, x = .ref a ∧ y = .ref b ∧ ((SqT K H a xs ∧ SqT K H b []) ∨ (SqL K H a xs ∧ SqL K H b [])) ∧ Q (.bl (f xs.isEmpty)) H
theorem nil_case {X : Cx} {pins : List (Addr × Obj)} {s : Shared} {σ : L2.St} {H : Hp} (I : Inv X pins σ H s) {a b : Addr} {xs : List V} (h : (SqT X.K H a xs ∧ SqT X.K H b []) ∨ (SqL X.K H a xs ∧ SqL X.K H b [])) :
    ∃ its : List Value, its.isEmpty = xs.isEmpty ∧ ((s.heap.IsTuple a its.toArray ∧ s.heap.IsTuple b #[]) ∨ (s.heap.IsList a its.toArray ∧ s.heap.IsList b #[])) := by
  rcases h with ⟨h1, h2⟩ | ⟨h1, h2⟩
  · obtain ⟨its, r1, p1, _⟩ := I.tuple h1
    obtain ⟨its2, r2, p2, _⟩ := I.tuple h2
    cases r2
    obtain ⟨o, e1, e2, n, e3⟩ := p1
    obtain ⟨o', f1, f2, n', f3⟩ := p2
    refine ⟨its, ?_, .inl ⟨⟨o, e1, e2, n, e3⟩, ⟨o', f1, f2, n', f3⟩⟩⟩
    cases r1 <;> rfl
  · obtain ⟨its, r1, p1, _⟩ := I.list h1
    obtain ⟨its2, r2, p2, _⟩ := I.list h2
    cases r2
    refine ⟨its, ?_, .inr ⟨p1.isList, p2.isList⟩⟩
    cases r1 <;> rfl
theorem op_eqNil {X : Cx} (hu : X.A.units + 64 < cLine) : OpR X (compareOp .Eq) (rNil X.K id) := by
  intro pins s σ H x y v u Q I rx ry h
  obtain ⟨a, b, xs, rfl, rfl, hh, q⟩ := h
  cases (show v = Value.ref a from rx)
  cases (show u = Value.ref b from ry)
  obtain ⟨its, ei, hi⟩ := nil_case I hh
  rw [← ei] at q
  have hu' : X.A.units < cLine := by omega
  rcases hi with ⟨h1, h2⟩ | ⟨h1, h2⟩
  · have r := SeqAt.RcAt.tuples (A := X.A) (s := s) (e := fun _ => true) h1 h2 hu' (fun j j1 j2 => absurd j2 (by simp))
    have eb : ((List.range (min its.toArray.size (#[] : Array Value).size)).all (fun _ => true) && its.toArray.size == (#[] : Array Value).size) = its.isEmpty := by
      cases its <;> simp
    rw [eb] at r
    exact r X.prog X.w _ _ ⟨.bl its.isEmpty, H, I, rfl, q⟩
  · cases its with
    | nil =>
      have r := SeqAt.RcAt.lists (A := X.A) (s := s) (e := fun _ => true) h1 h2 rfl hu' (fun j j1 j2 => absurd j2 (by simp))
      have eb : (List.range (([] : List Value).toArray.size)).all (fun _ => true) = true := by simp
      rw [eb] at r
      exact r X.prog X.w _ _ ⟨.bl true, H, I, rfl, q⟩
    | cons z zs =>
      have r := SeqAt.RcAt.lists_lengths (A := X.A) (s := s) h1 h2 (by simp) hu'
      exact r X.prog X.w _ _ ⟨.bl false, H, I, rfl, q⟩
theorem op_neNil {X : Cx} (hu : X.A.units + 64 < cLine) : OpR X (compareOp .NotEq) (rNil X.K not) := by
  intro pins s σ H x y v u Q I rx ry h
  obtain ⟨a, b, xs, rfl, rfl, hh, q⟩ := h
  cases (show v = Value.ref a from rx)
  cases (show u = Value.ref b from ry)
  obtain ⟨its, ei, hi⟩ := nil_case I hh
  rw [← ei] at q
  have hu' : X.A.units < cLine := by omega
  rcases hi with ⟨h1, h2⟩ | ⟨h1, h2⟩
  · have r := SeqAt.RcNeAt.tuples (A := X.A) (s := s) (e := fun _ => true) h1 h2 hu' (fun j j1 j2 => absurd j2 (by simp))
    have eb : ((List.range (min its.toArray.size (#[] : Array Value).size)).all (fun _ => true) && its.toArray.size == (#[] : Array Value).size) = its.isEmpty := by
      cases its <;> simp
    rw [eb] at r
    exact r X.prog X.w _ _ ⟨.bl (!its.isEmpty), H, I, rfl, q⟩
  · cases its with
    | nil =>
      have r := SeqAt.RcNeAt.lists (A := X.A) (s := s) (e := fun _ => true) h1 h2 rfl hu' (fun j j1 j2 => absurd j2 (by simp))
      have eb : (List.range (([] : List Value).toArray.size)).all (fun _ => true) = true := by simp
      rw [eb] at r
      exact r X.prog X.w _ _ ⟨.bl false, H, I, rfl, q⟩
    | cons z zs =>
      have r := SeqAt.RcNeAt.lists_lengths (A := X.A) (s := s) h1 h2 (by simp) hu'
      exact r X.prog X.w _ _ ⟨.bl true, H, I, rfl, q⟩
def oEqN (x y : D) : T D := match x, y with
  | .tuple xs, .tuple [] => .ret (.bool xs.isEmpty)
  | .list xs, .list [] => .ret (.bool xs.isEmpty)
  | x, y => oEq x y
def oNeN (x y : D) : T D := match x, y with
  | .tuple xs, .tuple [] => .ret (.bool (!xs.isEmpty))
  | .list xs, .list [] => .ret (.bool (!xs.isEmpty))
  | x, y => oNe x y
def rEqN (K : PySem.W.Frag) : R2 := fun x y H Q => rNil K id x y H Q ∨ (rEq x y H Q ∨ rEqD K x y H Q)
def rNeN (K : PySem.W.Frag) : R2 := fun x y H Q => rNil K not x y H Q ∨ (rNe x y H Q ∨ rNeD K x y H Q)
theorem op_eqN {X : Cx} (hu : X.A.units + 64 < cLine) : OpR X (compareOp .Eq) (rEqN X.K) := opOr (op_eqNil hu) (op_eqW hu)
theorem op_neN {X : Cx} (hu : X.A.units + 64 < cLine) : OpR X (compareOp .NotEq) (rNeN X.K) := opOr (op_neNil hu) (op_neW hu)
theorem d_eqN {K : PySem.W.Frag} : OpD (rEqN K) oEqN := by
  intro β H0 H v w x y Q E e ok bf hv hw q
  unfold oEqN at q
  split at q
  · cases hv with
    | tup h1 h2 =>
      cases hw with
      | tup h3 h4 =>
        cases h4
        refine .inl ⟨_, _, _, rfl, rfl, .inl ⟨SqT.of (e _ _ h1), SqT.of (e _ _ h3)⟩, ?_⟩
        rw [h2.isEmpty]
        exact out_ret e ok bf (.bl _) q
  · cases hv with
    | lst h1 h2 =>
      cases hw with
      | lst h3 h4 =>
        cases h4
        refine .inl ⟨_, _, _, rfl, rfl, .inr ⟨SqL.of (e _ _ h1), SqL.of (e _ _ h3)⟩, ?_⟩
        rw [h2.isEmpty]
        exact out_ret e ok bf (.bl _) q
  · exact .inr (d_eq e ok bf hv hw q)
theorem d_neN {K : PySem.W.Frag} : OpD (rNeN K) oNeN := by
  intro β H0 H v w x y Q E e ok bf hv hw q
  unfold oNeN at q
  split at q
  · cases hv with
    | tup h1 h2 =>
      cases hw with
      | tup h3 h4 =>
        cases h4
        refine .inl ⟨_, _, _, rfl, rfl, .inl ⟨SqT.of (e _ _ h1), SqT.of (e _ _ h3)⟩, ?_⟩
        rw [h2.isEmpty]
        exact out_ret e ok bf (.bl _) q
  · cases hv with
    | lst h1 h2 =>
      cases hw with
      | lst h3 h4 =>
        cases h4
        refine .inl ⟨_, _, _, rfl, rfl, .inr ⟨SqL.of (e _ _ h1), SqL.of (e _ _ h3)⟩, ?_⟩
        rw [h2.isEmpty]
        exact out_ret e ok bf (.bl _) q
  · exact .inr (d_ne e ok bf hv hw q)
@[simp] theorem oEqN_tup {xs : List D} : oEqN (.tuple xs) (.tuple []) = .ret (.bool xs.isEmpty) := rfl
@[simp] theorem oEqN_lst {xs : List D} : oEqN (.list xs) (.list []) = .ret (.bool xs.isEmpty) := rfl
@[simp] theorem oNeN_tup {xs : List D} : oNeN (.tuple xs) (.tuple []) = .ret (.bool (!xs.isEmpty)) := rfl
@[simp] theorem oNeN_lst {xs : List D} : oNeN (.list xs) (.list []) = .ret (.bool (!xs.isEmpty)) := rfl
end Wb

set_option Elab.async false
set_option linter.all false
set_option maxRecDepth 100000
set_option maxHeartbeats 4000000
/-! Wb, part 29: a tuple many times, also the empty one and not at all. -/
namespace Wb
open PySem PySem.Spec PyProof.Rows L2

theorem tuple_mulS (l : Addr) (items : Array Value) (n : Nat) (dd : Option Addr) (sl : Array (Option Value)) (x : Int) (u : Tok) (c0 : (decide (x < -(2 ^ 63)) || decide (x ≥ 2 ^ 63)) = false) (c1 : (items.isEmpty || x == 1) = true) :
    Meets (Builtin.«tuple.__mul__» ⟨[.ref l, .int x u], []⟩) (fun _ R s => s.heap.get? l = some { cls := .type "tuple", dict := dd, data := .seq items n, slots := sl } ∧ R (.ok (.ret (Value.ref l))) s) :=
  .of_wp fun prog w A R s h => by
    obtain ⟨hp, g, d, tk, os⟩ := s
    obtain ⟨hl, h⟩ := h
    have f1 := AutoSeq1.idx_int
    wp_walk using wpAny_loadPart' hl
    repeat (first
      | (refine wpAny_ite_false (decide_eq_false (by rw [c0]; exact Bool.false_ne_true)) ?_; wp_walk using wpAny_loadPart' hl)
      | (refine wpAny_ite_true (decide_eq_true c1) ?_; wp_walk using wpAny_loadPart' hl))
    exact ⟨_, rfl, h⟩
theorem tuple_mulZ (l : Addr) (items : Array Value) (n : Nat) (dd : Option Addr) (sl : Array (Option Value)) (x : Int) (u : Tok) (c0 : (decide (x < -(2 ^ 63)) || decide (x ≥ 2 ^ 63)) = false) (c1 : (items.isEmpty || x == 1) = false) (c2 : (decide (x ≤ 0) || items.isEmpty) = true) :
    Meets (Builtin.«tuple.__mul__» ⟨[.ref l, .int x u], []⟩) (fun _ R s => s.heap.get? l = some { cls := .type "tuple", dict := dd, data := .seq items n, slots := sl } ∧
      R (.ok (.ret (Value.ref s.heap.objs.size))) { s with heap := s.heap.push { cls := Value.type "tuple", data := Data.seq #[] }, toks := s.toks }) :=
  .of_wp fun prog w A R s h => by
    obtain ⟨hp, g, d, tk, os⟩ := s
    obtain ⟨hl, h⟩ := h
    have f1 := AutoSeq1.idx_int
    wp_walk using wpAny_loadPart' hl
    repeat (first
      | (refine wpAny_ite_false (decide_eq_false (by rw [c0]; exact Bool.false_ne_true)) ?_; wp_walk using wpAny_loadPart' hl)
      | (refine wpAny_ite_false (decide_eq_false (by rw [c1]; exact Bool.false_ne_true)) ?_; wp_walk using wpAny_loadPart' hl)
      | (refine wpAny_ite_true (decide_eq_true c2) ?_; wp_walk using wpAny_loadPart' hl))
    exact ⟨_, rfl, h⟩
/-- t * k of the empty tuple, or once: the same tuple; not at all: an empty one -/
def rRepS (K : PySem.W.Frag) : R2 := fun x y H Q => ∃ l k xs, x = .ref l ∧ y = .int k ∧ SqT K H l xs ∧ -(2 ^ 63) ≤ k ∧ k < 2 ^ 63 ∧ (((xs = [] ∨ k = 1) ∧ Q (.ref l) H) ∨ (xs ≠ [] ∧ k ≤ 0 ∧ ∀ p, H p = none → Q (.ref p) (upd H p (.tup []))))
theorem op_repS {X : Cx} : OpR X (binaryOp .Mult) (rRepS X.K) := by
  intro pins s σ H x y v u Q I rx ry h
  obtain ⟨l, k, xs, rfl, rfl, hT, h1, h2, hc⟩ := h
  cases rx
  obtain ⟨t, rfl⟩ := ry
  obtain ⟨its, r, ⟨⟨cls, dd, data, sl⟩, ho, hc', n, hd⟩, hs⟩ := I.tuple hT
  simp only at hc' hd
  subst hc' hd
  have c0 : (decide (k < -(2 ^ 63)) || decide (k ≥ 2 ^ 63)) = false := by
    rw [decide_eq_false (by omega), decide_eq_false (by omega)] <;> rfl
  rcases hc with ⟨hk, q⟩ | ⟨hn, hk, q⟩
  · have c1 : (its.toArray.isEmpty || k == 1) = true := by
      rcases hk with rfl | rfl
      · cases r
        rfl
      · simp
    exact wpAny_binaryOp_repeat_ref (T := "tuple") (U := "int") (by decide) ⟨_, ho, rfl⟩ (fun s' => typeIs_int s' k t) noFill_tuple_mul F.fills_int_mul F.slot_int_rmul repeat_tuple F.slot_int_index.lookup
      (call_meets F.slot_int_rmul (typeIs_int s k t) F.entry_int_rmul (F.args_int_rmul_2 _ _) (int_rmul_tuple k t l its.toArray n dd sl)
        ⟨ho, rfl, ⟨_, ho, rfl⟩, call_meets F.slot_tuple_mul ⟨_, ho, rfl⟩ F.entry_tuple_mul (F.args_tuple_mul_2 _ _) (tuple_mulS l its.toArray n dd sl k t c0 c1) ⟨ho, ⟨.ref l, H, I, rfl, q⟩⟩⟩)
  · have hi : its.toArray.isEmpty = false := by
      cases r with
      | nil => exact absurd rfl hn
      | cons a b => rfl
    have c1 : (its.toArray.isEmpty || k == 1) = false := by
      rw [hi, Bool.false_or]
      exact beq_eq_false_iff_ne.mpr (by omega)
    have c2 : (decide (k ≤ 0) || its.toArray.isEmpty) = true := by
      rw [decide_eq_true hk]
      rfl
    refine wpAny_binaryOp_repeat_ref (T := "tuple") (U := "int") (by decide) ⟨_, ho, rfl⟩ (fun s' => typeIs_int s' k t) noFill_tuple_mul F.fills_int_mul F.slot_int_rmul repeat_tuple F.slot_int_index.lookup
      (call_meets F.slot_int_rmul (typeIs_int s k t) F.entry_int_rmul (F.args_int_rmul_2 _ _) (int_rmul_tuple k t l its.toArray n dd sl)
        ⟨ho, rfl, ⟨_, ho, rfl⟩, call_meets F.slot_tuple_mul ⟨_, ho, rfl⟩ F.entry_tuple_mul (F.args_tuple_mul_2 _ _) (tuple_mulZ l its.toArray n dd sl k t c0 c1 c2) ⟨ho, ?_⟩⟩)
    refine ⟨.ref s.heap.objs.size, _, I.laid (t' := s.toks) (o := .tup []) (fun b ob q => Heap.get?_push_of_some _ q) (Nat.le_refl _) ?_, rfl, q _ (I.hok.fresh (Nat.le_refl _))⟩
    exact ⟨by simp, _, .nil, IsTup.new _ _⟩
def oMulE : D → D → T D
  | .tuple xs, .int k => if xs = [] ∨ k = 1 then (if -(2 ^ 63) ≤ k ∧ k < 2 ^ 63 then .ret (.tuple xs) else .bad)
    else if k ≤ 0 then (if -(2 ^ 63) ≤ k then .ret (.tuple []) else .bad) else oMul (.tuple xs) (.int k)
  | x, y => oMul x y
def rMulE (K : PySem.W.Frag) : R2 := fun x y H Q => rRepS K x y H Q ∨ rMulD K x y H Q
theorem op_mulE {X : Cx} : OpR X (binaryOp .Mult) (rMulE X.K) := opOr op_repS op_mulD
theorem d_mulE {K : PySem.W.Frag} : OpD (rMulE K) oMulE := by
  intro β H0 H v w x y Q E e ok bf hv hw q
  unfold oMulE at q
  split at q
  · next xs k =>
    cases hv with
    | tup h1 h2 =>
      cases hw with
      | int _ =>
        split at q
        · next c =>
          split at q
          · next b =>
            refine .inl ⟨_, k, _, rfl, rfl, SqT.of (e _ _ h1), b.1, b.2, .inl ⟨?_, out_ret e ok bf (.tup h1 h2) q⟩⟩
            rcases c with rfl | c
            · cases h2
              exact .inl rfl
            · exact .inr c
          · exact q.elim
        · next c =>
          split at q
          · next c2 =>
            split at q
            · next b =>
              refine .inl ⟨_, k, _, rfl, rfl, SqT.of (e _ _ h1), b, by omega, .inr ⟨?_, c2, fun p hp => ?_⟩⟩
              · intro z
                subst z
                cases h2
                exact c (.inl rfl)
              · exact out_tup e ok bf hp .nil q
            · exact q.elim
          · exact .inr (d_mul e ok bf (.tup h1 h2) (.int _) q)
  · exact .inr (d_mul e ok bf hv hw q)
@[simp] theorem oMulE_int {i j : Int} : oMulE (.int i) (.int j) = oMul (.int i) (.int j) := rfl
@[simp] theorem oMulE_lst {xs : List D} {y : D} : oMulE (.list xs) y = oMul (.list xs) y := rfl
theorem oMulE_tup {xs : List D} {k : Nat} (h2 : 2 ≤ k) (h : k ≤ 1000) (hl : xs.length ≤ 1000) : oMulE (.tuple xs) (.int (k : Nat)) = .ret (.tuple (List.replicate k xs).flatten) := by
  show (if xs = [] ∨ ((k : Nat) : Int) = 1 then (if -(2 ^ 63) ≤ ((k : Nat) : Int) ∧ ((k : Nat) : Int) < 2 ^ 63 then T.ret (PyData.tuple xs) else .bad)
    else if ((k : Nat) : Int) ≤ 0 then (if -(2 ^ 63) ≤ ((k : Nat) : Int) then .ret (.tuple []) else .bad) else oMul (.tuple xs) (.int (k : Nat))) = _
  by_cases e : xs = []
  · subst e
    rw [if_pos (.inl rfl), if_pos ⟨by omega, by omega⟩]
    simp
  · have n1 : ¬ (xs = [] ∨ ((k : Nat) : Int) = 1) := by
      rintro (z | z)
      · exact e z
      · omega
    rw [if_neg n1, if_neg (by omega)]
    show (if xs ≠ [] ∧ 2 ≤ ((k : Nat) : Int) ∧ ((k : Nat) : Int) ≤ 1000 ∧ xs.length ≤ 1000 then T.ret (PyData.tuple (List.replicate ((k : Nat) : Int).toNat xs).flatten) else .bad) = _
    rw [if_pos ⟨e, by omega, by omega, hl⟩]
    rfl
end Wb

set_option Elab.async false
set_option linter.all false
set_option maxRecDepth 100000
set_option maxHeartbeats 4000000
/-! Wb, part 30: data by depth and bulk, dicts too: what bending does. -/
namespace Wb
open PySem PySem.Spec PyProof.Rows L2

/-- all is short, of depth k and bulk b at most -/
structure Ti (k b : Nat) (d : D) : Prop where
  tid : tid d = true
  dep : d.depth ≤ k
  blk : d.bulk ≤ b
structure TiL (k b : Nat) (xs : List D) : Prop where
  tid : xs.all Wb.tid = true
  dep : PyData.depthAll xs ≤ k
  blk : PyData.bulkAll xs ≤ b
theorem Ti.mono {k b k' b' : Nat} {d : D} (h : Ti k b d) (hk : k ≤ k') (hb : b ≤ b') : Ti k' b' d := ⟨h.tid, Nat.le_trans h.dep hk, Nat.le_trans h.blk hb⟩
theorem TiL.mono {k b k' b' : Nat} {d : List D} (h : TiL k b d) (hk : k ≤ k') (hb : b ≤ b') : TiL k' b' d := ⟨h.tid, Nat.le_trans h.dep hk, Nat.le_trans h.blk hb⟩
def tiB (k b : Nat) (d : D) : Bool := tid d && decide (d.depth ≤ k) && decide (d.bulk ≤ b)
theorem ti_by {k b : Nat} {d : D} (h : tiB k b d = true) : Ti k b d := by
  unfold tiB at h
  simp only [Bool.and_eq_true, decide_eq_true_eq] at h
  exact ⟨h.1.1, h.1.2, h.2⟩
theorem ti_int {i : Int} (h : i.natAbs < 10 ^ 50) : Ti 0 0 (.int i) := ⟨tid_int h, Nat.le_refl _, Nat.le_refl _⟩
theorem ti_bool {b : Bool} : Ti 0 0 (.bool b) := ⟨rfl, Nat.le_refl _, Nat.le_refl _⟩
theorem ti_none : Ti 0 0 .none := ⟨rfl, Nat.le_refl _, Nat.le_refl _⟩
theorem Fine.ti {k b : Nat} {d : D} (h : Fine k b d) : Ti k b d := ⟨h.tid, h.dep, h.blk⟩
theorem Ti.rep {k b : Nat} {d : D} (h : Ti k b d) (hk : k ≤ 60) (hb : b ≤ 100000) : okRep d = true := okRep_of h.tid (Nat.le_trans h.blk hb) (Nat.le_trans h.dep hk)
theorem ti_tuple {k b : Nat} {xs : List D} (h : TiL k b xs) : Ti (k + 1) b (.tuple xs) := ⟨by rw [tid_tuple]; exact h.tid, by have := h.dep; simp only [PyData.depth]; omega, by simp only [PyData.bulk]; exact h.blk⟩
theorem ti_list {k b : Nat} {xs : List D} (h : TiL k b xs) : Ti (k + 1) b (.list xs) := ⟨by rw [tid_list]; exact h.tid, by have := h.dep; simp only [PyData.depth]; omega, by simp only [PyData.bulk]; exact h.blk⟩
theorem Ti.items {k b : Nat} {xs : List D} (h : Ti k b (.tuple xs)) : TiL (k - 1) b xs ∧ 1 ≤ k := by
  obtain ⟨h1, h2, h3⟩ := h
  rw [tid_tuple] at h1
  simp only [PyData.depth] at h2
  simp only [PyData.bulk] at h3
  exact ⟨⟨h1, by omega, h3⟩, by omega⟩
theorem Ti.itemsL {k b : Nat} {xs : List D} (h : Ti k b (.list xs)) : TiL (k - 1) b xs ∧ 1 ≤ k := by
  obtain ⟨h1, h2, h3⟩ := h
  rw [tid_list] at h1
  simp only [PyData.depth] at h2
  simp only [PyData.bulk] at h3
  exact ⟨⟨h1, by omega, h3⟩, by omega⟩
theorem tiL_nil {k b : Nat} : TiL k b [] := ⟨rfl, by simp [PyData.depthAll], by simp [PyData.bulkAll]⟩
theorem TiL.cons {k b k' b' : Nat} {x : D} {xs : List D} (h : Ti k b x) (r : TiL k' b' xs) : TiL (max k k') (b + 1 + b') (x :: xs) := by
  obtain ⟨h1, h2, h3⟩ := h
  obtain ⟨r1, r2, r3⟩ := r
  refine ⟨by simp [h1, r1], ?_, ?_⟩
  · simp only [PyData.depthAll]
    omega
  · simp only [PyData.bulkAll]
    omega
theorem TiL.head {k b : Nat} {x : D} {xs : List D} (h : TiL k b (x :: xs)) : Ti k b x ∧ TiL k b xs ∧ x.bulk + 1 + PyData.bulkAll xs ≤ b := by
  obtain ⟨h1, h2, h3⟩ := h
  simp only [List.all_cons, Bool.and_eq_true] at h1
  simp only [PyData.depthAll] at h2
  simp only [PyData.bulkAll] at h3
  exact ⟨⟨h1.1, by omega, by omega⟩, ⟨h1.2, by omega, by omega⟩, h3⟩
theorem TiL.one {k b : Nat} {x : D} (h : Ti k b x) : TiL k (b + 1) [x] := (TiL.cons h (tiL_nil (k := 0) (b := 0))).mono (by omega) (by omega)
theorem bulkAll_append : ∀ xs ys : List D, PyData.bulkAll (xs ++ ys) = PyData.bulkAll xs + PyData.bulkAll ys
  | [], ys => by simp [PyData.bulkAll]
  | x :: r, ys => by
    simp only [List.cons_append, PyData.bulkAll, bulkAll_append r ys]
    omega
theorem depthAll_append : ∀ xs ys : List D, PyData.depthAll (xs ++ ys) = max (PyData.depthAll xs) (PyData.depthAll ys)
  | [], ys => by simp [PyData.depthAll]
  | x :: r, ys => by
    simp only [List.cons_append, PyData.depthAll, depthAll_append r ys]
    omega
theorem TiL.app {k b k' b' : Nat} {xs ys : List D} (h : TiL k b xs) (r : TiL k' b' ys) : TiL (max k k') (b + b') (xs ++ ys) := by
  obtain ⟨h1, h2, h3⟩ := h
  obtain ⟨r1, r2, r3⟩ := r
  refine ⟨by simp only [List.all_append, h1, r1, Bool.and_self], ?_, ?_⟩
  · rw [depthAll_append]
    omega
  · rw [bulkAll_append]
    omega
theorem TiL.of_app {k b : Nat} {xs ys : List D} (h : TiL k b (xs ++ ys)) : TiL k b xs ∧ TiL k b ys ∧ PyData.bulkAll xs + PyData.bulkAll ys ≤ b := by
  obtain ⟨h1, h2, h3⟩ := h
  rw [List.all_append, Bool.and_eq_true] at h1
  rw [depthAll_append] at h2
  rw [bulkAll_append] at h3
  exact ⟨⟨h1.1, by omega, by omega⟩, ⟨h1.2, by omega, by omega⟩, h3⟩
theorem TiL.take {k b : Nat} {xs : List D} (n : Nat) (h : TiL k b xs) : TiL k b (xs.take n) := by
  have e := List.take_append_drop n xs
  rw [← e] at h
  exact h.of_app.1
theorem TiL.drop {k b : Nat} {xs : List D} (n : Nat) (h : TiL k b xs) : TiL k b (xs.drop n) := by
  have e := List.take_append_drop n xs
  rw [← e] at h
  exact h.of_app.2.1
theorem TiL.cut {k b : Nat} {xs : List D} {lo hi : Option Int} (h : TiL k b xs) : TiL k b (cutD xs lo hi) := by
  unfold cutD
  exact (h.drop _).take _
theorem TiL.mem {k b : Nat} : ∀ {xs : List D} {x : D}, TiL k b xs → x ∈ xs → Ti k b x
  | y :: r, x, h, m => by
    obtain ⟨h1, h2, _⟩ := h.head
    rcases List.mem_cons.mp m with e | e
    · subst e
      exact h1
    · exact h2.mem e
theorem bulkAll_rev : ∀ xs : List D, PyData.bulkAll xs.reverse = PyData.bulkAll xs
  | [] => rfl
  | x :: r => by
    rw [List.reverse_cons, bulkAll_append, bulkAll_rev r]
    simp only [PyData.bulkAll]
    omega
theorem depthAll_rev : ∀ xs : List D, PyData.depthAll xs.reverse = PyData.depthAll xs
  | [] => rfl
  | x :: r => by
    rw [List.reverse_cons, depthAll_append, depthAll_rev r]
    simp only [PyData.depthAll]
    omega
theorem TiL.rev {k b : Nat} {xs : List D} (h : TiL k b xs) : TiL k b xs.reverse := ⟨by rw [List.all_reverse]; exact h.tid, by rw [depthAll_rev]; exact h.dep, by rw [bulkAll_rev]; exact h.blk⟩
theorem TiL.len {k b : Nat} : ∀ {xs : List D}, TiL k b xs → xs.length ≤ b
  | [], _ => Nat.zero_le _
  | x :: r, h => by
    obtain ⟨_, h2, h3⟩ := h.head
    have : TiL k (PyData.bulkAll r) r := ⟨h2.tid, h2.dep, Nat.le_refl _⟩
    have := this.len
    simp only [List.length_cons]
    omega
theorem TiL.times {k b : Nat} {xs : List D} (h : TiL k b xs) : ∀ n : Nat, TiL k (n * b) (List.replicate n xs).flatten
  | 0 => by simpa using (tiL_nil (k := k) (b := 0 * b))
  | n + 1 => by
    rw [List.replicate_succ, List.flatten_cons]
    exact (h.app (h.times n)).mono (by omega) (by rw [Nat.succ_mul]; omega)
/-- an item and what stands around it -/
theorem TiL.split {k b : Nat} {xs : List D} (h : TiL k b xs) {j : Nat} (hj : j < xs.length) : ∃ b1 b2 b3, TiL k b1 (xs.take j) ∧ Ti k b2 xs[j] ∧ TiL k b3 (xs.drop (j + 1)) ∧ b1 + b2 + 1 + b3 ≤ b := by
  have e : xs = xs.take j ++ xs[j] :: xs.drop (j + 1) := by
    rw [← List.drop_eq_getElem_cons hj, List.take_append_drop]
  rw [e] at h
  obtain ⟨h1, h2, h3⟩ := h.of_app
  obtain ⟨h4, h5, h6⟩ := h2.head
  simp only [PyData.bulkAll] at h3
  exact ⟨_, _, _, ⟨h1.tid, h1.dep, Nat.le_refl _⟩, ⟨h4.tid, h4.dep, Nat.le_refl _⟩, ⟨h5.tid, h5.dep, Nat.le_refl _⟩, by omega⟩
theorem TiL.ints {ns : List Int} (h : ∀ n ∈ ns, n.natAbs < 10 ^ 50) : TiL 0 ns.length (ns.map PyData.int) := by
  induction ns with
  | nil => exact tiL_nil
  | cons n r ih =>
    have h1 := ti_int (h n (List.mem_cons_self ..))
    have h2 := ih fun m hm => h m (List.mem_cons_of_mem _ hm)
    exact (TiL.cons h1 h2).mono (by omega) (by simp only [List.length_cons]; omega)
theorem cutD_pre {xs : List D} {j : Nat} (h : j ≤ xs.length) : cutD xs none (some (j : Nat)) = xs.take j := by
  unfold cutD
  have e : HT.sIx xs.length xs.length (some ((j : Nat) : Int)) = j := by
    simp only [HT.sIx]
    rw [if_neg (by omega)]
    omega
  have e0 : HT.sIx xs.length 0 none = 0 := rfl
  rw [e, e0]
  simp
theorem cutD_suf {xs : List D} {j : Nat} (h : j ≤ xs.length) : cutD xs (some (j : Nat)) none = xs.drop j := by
  unfold cutD
  have e : HT.sIx xs.length 0 (some ((j : Nat) : Int)) = j := by
    simp only [HT.sIx]
    rw [if_neg (by omega)]
    omega
  have e0 : HT.sIx xs.length xs.length none = xs.length := rfl
  rw [e, e0]
  exact List.take_of_length_le (by simp)
@[simp] theorem oTruth_tup {xs : List D} : oTruth (.tuple xs) = .ret (.bool (!xs.isEmpty)) := rfl
@[simp] theorem oTruth_lst {xs : List D} : oTruth (.list xs) = .ret (.bool (!xs.isEmpty)) := rfl
@[simp] theorem oTruth_none : oTruth .none = .ret (.bool false) := rfl
@[simp] theorem oTruth_bool {b : Bool} : oTruth (.bool b) = .ret (.bool b) := rfl
@[simp] theorem oTruth_int {i : Int} : oTruth (.int i) = .ret (.bool (i != 0)) := rfl
@[simp] theorem isaX_tuple_none  : isaD "tuple" (.none) = false := rfl
@[simp] theorem isaX_tuple_bool {b : Bool} : isaD "tuple" (.bool b) = false := rfl
@[simp] theorem isaX_tuple_int {i : Int} : isaD "tuple" (.int i) = false := rfl
@[simp] theorem isaX_tuple_str {z : Str} : isaD "tuple" (.str z) = false := rfl
@[simp] theorem isaX_tuple_list {xs : List D} : isaD "tuple" (.list xs) = false := rfl
@[simp] theorem isaX_tuple_tuple {xs : List D} : isaD "tuple" (.tuple xs) = true := rfl
@[simp] theorem isaX_tuple_dict {kvs : List (D × D)} : isaD "tuple" (.dict kvs) = false := rfl
@[simp] theorem isaX_str_none  : isaD "str" (.none) = false := rfl
@[simp] theorem isaX_str_bool {b : Bool} : isaD "str" (.bool b) = false := rfl
@[simp] theorem isaX_str_int {i : Int} : isaD "str" (.int i) = false := rfl
@[simp] theorem isaX_str_str {z : Str} : isaD "str" (.str z) = true := rfl
@[simp] theorem isaX_str_list {xs : List D} : isaD "str" (.list xs) = false := rfl
@[simp] theorem isaX_str_tuple {xs : List D} : isaD "str" (.tuple xs) = false := rfl
@[simp] theorem isaX_str_dict {kvs : List (D × D)} : isaD "str" (.dict kvs) = false := rfl
@[simp] theorem isaX_int_none  : isaD "int" (.none) = false := rfl
@[simp] theorem isaX_int_bool {b : Bool} : isaD "int" (.bool b) = true := rfl
@[simp] theorem isaX_int_int {i : Int} : isaD "int" (.int i) = true := rfl
@[simp] theorem isaX_int_str {z : Str} : isaD "int" (.str z) = false := rfl
@[simp] theorem isaX_int_list {xs : List D} : isaD "int" (.list xs) = false := rfl
@[simp] theorem isaX_int_tuple {xs : List D} : isaD "int" (.tuple xs) = false := rfl
@[simp] theorem isaX_int_dict {kvs : List (D × D)} : isaD "int" (.dict kvs) = false := rfl
@[simp] theorem isaX_bool_none  : isaD "bool" (.none) = false := rfl
@[simp] theorem isaX_bool_bool {b : Bool} : isaD "bool" (.bool b) = true := rfl
@[simp] theorem isaX_bool_int {i : Int} : isaD "bool" (.int i) = false := rfl
@[simp] theorem isaX_bool_str {z : Str} : isaD "bool" (.str z) = false := rfl
@[simp] theorem isaX_bool_list {xs : List D} : isaD "bool" (.list xs) = false := rfl
@[simp] theorem isaX_bool_tuple {xs : List D} : isaD "bool" (.tuple xs) = false := rfl
@[simp] theorem isaX_bool_dict {kvs : List (D × D)} : isaD "bool" (.dict kvs) = false := rfl
@[simp] theorem isaX_list_none  : isaD "list" (.none) = false := rfl
@[simp] theorem isaX_list_bool {b : Bool} : isaD "list" (.bool b) = false := rfl
@[simp] theorem isaX_list_int {i : Int} : isaD "list" (.int i) = false := rfl
@[simp] theorem isaX_list_str {z : Str} : isaD "list" (.str z) = false := rfl
@[simp] theorem isaX_list_list {xs : List D} : isaD "list" (.list xs) = true := rfl
@[simp] theorem isaX_list_tuple {xs : List D} : isaD "list" (.tuple xs) = false := rfl
@[simp] theorem isaX_list_dict {kvs : List (D × D)} : isaD "list" (.dict kvs) = false := rfl
@[simp] theorem isaX_dict_none  : isaD "dict" (.none) = false := rfl
@[simp] theorem isaX_dict_bool {b : Bool} : isaD "dict" (.bool b) = false := rfl
@[simp] theorem isaX_dict_int {i : Int} : isaD "dict" (.int i) = false := rfl
@[simp] theorem isaX_dict_str {z : Str} : isaD "dict" (.str z) = false := rfl
@[simp] theorem isaX_dict_list {xs : List D} : isaD "dict" (.list xs) = false := rfl
@[simp] theorem isaX_dict_tuple {xs : List D} : isaD "dict" (.tuple xs) = false := rfl
@[simp] theorem isaX_dict_dict {kvs : List (D × D)} : isaD "dict" (.dict kvs) = true := rfl
@[simp] theorem ev_Unp {bd : D → Env' → Option Env'} {f : Env' → T D} {ρ : Env'} : sUnp bd f ρ = (f ρ).lift ρ fun d => match bd d ρ with
  | some ρ' => .ret (.nx ρ')
  | none => .bad := rfl
@[simp] theorem isN_none  : oIsN (.none) .none = .ret (.bool true) := rfl
@[simp] theorem notN_none  : oNotN (.none) .none = .ret (.bool false) := rfl
@[simp] theorem isN_bool {b : Bool} : oIsN (.bool b) .none = .ret (.bool false) := rfl
@[simp] theorem notN_bool {b : Bool} : oNotN (.bool b) .none = .ret (.bool true) := rfl
@[simp] theorem isN_int {i : Int} : oIsN (.int i) .none = .ret (.bool false) := rfl
@[simp] theorem notN_int {i : Int} : oNotN (.int i) .none = .ret (.bool true) := rfl
@[simp] theorem isN_str {z : Str} : oIsN (.str z) .none = .ret (.bool false) := rfl
@[simp] theorem notN_str {z : Str} : oNotN (.str z) .none = .ret (.bool true) := rfl
@[simp] theorem isN_list {xs : List D} : oIsN (.list xs) .none = .ret (.bool false) := rfl
@[simp] theorem notN_list {xs : List D} : oNotN (.list xs) .none = .ret (.bool true) := rfl
@[simp] theorem isN_tuple {xs : List D} : oIsN (.tuple xs) .none = .ret (.bool false) := rfl
@[simp] theorem notN_tuple {xs : List D} : oNotN (.tuple xs) .none = .ret (.bool true) := rfl
@[simp] theorem isN_dict {kvs : List (D × D)} : oIsN (.dict kvs) .none = .ret (.bool false) := rfl
@[simp] theorem notN_dict {kvs : List (D × D)} : oNotN (.dict kvs) .none = .ret (.bool true) := rfl
theorem rangeD_succ (i n : Nat) : rangeD (i : Nat) (n + 1) = .int (i : Nat) :: rangeD ((i + 1 : Nat) : Int) n := by
  simp [rangeD, List.range_succ_eq_map]
  intro a _
  omega
end Wb

set_option Elab.async false
set_option linter.all false
set_option maxRecDepth 100000
set_option maxHeartbeats 4000000
/-! Wb, part 31: reckoning with lists of one's own. -/
namespace Wb
open PySem PySem.Spec PyProof.Rows L2
section
variable {i : Nat} {f : Env' → T D} {F : Env' → T Fl} {ρ : Env'} {fs : Env' → T (List Ar)} {gs : Env' → T (List D)}
@[simp] theorem ev_Own : sOwn i gs ρ = (gs ρ).lift ρ fun ds => .ret (.nx (ρ.set i (.own ds))) := rfl
def mkOwn : Option (List D) → T (List D)
  | some ds => if ds.length ≤ 1000000 then .ret ds else .bad
  | none => .bad
@[simp] theorem mkOwn_s {ds : List D} : mkOwn (some ds) = if ds.length ≤ 1000000 then .ret ds else .bad := rfl
@[simp] theorem ev_lLst : lLst fs ρ = (fs ρ).bind fun as => mkOwn (dsOf as) := by
  unfold lLst
  congr 1
def frK (i : Nat) (F : Env' → T Fl) (ρ : Env') : Option Sl → T Fl
  | some (.own xs) => F (ρ.set i (.d (.list xs)))
  | _ => F ρ
@[simp] theorem frK_own {xs : List D} : frK i F ρ (some (.own xs)) = F (ρ.set i (.d (.list xs))) := rfl
@[simp] theorem frK_d {x : D} : frK i F ρ (some (.d x)) = F ρ := rfl
@[simp] theorem ev_Frz : sFrz i F ρ = frK i F ρ ρ[i]? := by
  unfold sFrz frK
  rfl
def apK (i : Nat) (f : Env' → T D) (ρ : Env') : Option Sl → T Fl
  | some (.own xs) => (f ρ).lift ρ fun d => if xs.length < 1000000 then .ret (.nx (ρ.set i (.own (xs ++ [d])))) else .bad
  | _ => .bad
@[simp] theorem apK_own {xs : List D} : apK i f ρ (some (.own xs)) = (f ρ).lift ρ fun d => if xs.length < 1000000 then .ret (.nx (ρ.set i (.own (xs ++ [d])))) else .bad := rfl
@[simp] theorem ev_App : sApp i f ρ = apK i f ρ ρ[i]? := by
  unfold sApp apK
  rfl
def exL (i : Nat) (ρ : Env') (xs : List D) : D → T Fl
  | .list ys => if xs.length + ys.length ≤ 1000000 then .ret (.nx (ρ.set i (.own (xs ++ ys)))) else .bad
  | _ => .bad
@[simp] theorem exL_list {xs ys : List D} : exL i ρ xs (.list ys) = if xs.length + ys.length ≤ 1000000 then .ret (.nx (ρ.set i (.own (xs ++ ys)))) else .bad := rfl
def exK (i : Nat) (f : Env' → T D) (ρ : Env') : Option Sl → T Fl
  | some (.own xs) => (f ρ).lift ρ (exL i ρ xs)
  | _ => .bad
@[simp] theorem exK_own {xs : List D} : exK i f ρ (some (.own xs)) = (f ρ).lift ρ (exL i ρ xs) := rfl
@[simp] theorem ev_Ext : sExt i f ρ = exK i f ρ ρ[i]? := by
  unfold sExt exK
  cases ρ[i]? with
  | none => rfl
  | some s => cases s <;> rfl
end
end Wb

set_option Elab.async false
set_option linter.all false
set_option maxRecDepth 100000
set_option maxHeartbeats 4000000
/-! Wb, part 32: zip over three things, each a list or a tuple. -/
namespace Wb
open PySem PySem.Spec PyProof.Rows L2 RZ

theorem dr_of {prog : Program} {w : World} {A : Around} {t : Bool} (hh : A.handled = none) (it l : Addr) (hne : l ≠ it) (items : Array Value) :
    Draws prog w A it [it, l] items.size (fun i v => items[i]? = some v) (fun i h => ItOf t h it l i ∧ SqOf t h l items) := by
  cases t
  · exact Draws.list hh it l hne items
  · exact Draws.tuple hh it l hne items
structure Z3At (t1 t2 t3 : Bool) (h : Heap) (z a b j1 j2 j3 l1 l2 l3 : Addr) (k : Nat) : Prop where
  zz : IsZip h z a b .none
  pa : IsTupOf3 h a (.ref j1) (.ref j2) (.ref j3)
  pb : ∃ u v r, IsTupOf3 h b u v r
  i1 : ItOf t1 h j1 l1 k
  i2 : ItOf t2 h j2 l2 k
  i3 : ItOf t3 h j3 l3 k
def It3 (t1 t2 t3 : Bool) (K : PySem.W.Frag) (a b c : Addr) : It :=
  ⟨fun i H => ∃ (xs ys zs : List V) (x y z : V), SqV t1 K H a xs ∧ SqV t2 K H b ys ∧ SqV t3 K H c zs ∧ xs[i]? = some x ∧ ys[i]? = some y ∧ zs[i]? = some z,
    fun i H v H' => ∃ p x y z, v = .ref p ∧ H p = none ∧ H' = upd H p (.tup [x, y, z]) ∧ (∀ xs, SqV t1 K H a xs → xs[i]? = some x) ∧ (∀ ys, SqV t2 K H b ys → ys[i]? = some y) ∧ ∀ zs, SqV t3 K H c zs → zs[i]? = some z,
    fun i H => ∃ xs ys zs : List V, SqV t1 K H a xs ∧ SqV t2 K H b ys ∧ SqV t3 K H c zs ∧ i = min (min xs.length ys.length) zs.length⟩
theorem turn3 {t1 t2 t3 : Bool} {P : Program} {w : World} {K : PySem.W.Frag} {elts : List Expr} {kk : Nat} {tpos : Pos} {l1 l2 l3 z a b j1 j2 j3 : Addr} (D : ZipSep3 z a b j1 j2 j3 [j1, l1] [j2, l2] [j3, l3]) (n1 : l1 ≠ j1) (n2 : l2 ≠ j2) (n3 : l3 ≠ j3) :
    Turn P w K (.Tuple elts kk tpos) (It3 t1 t2 t3 K l1 l2 l3) [z, a, b, j1, j2, j3] z (fun i h => Z3At t1 t2 t3 h z a b j1 j2 j3 l1 l2 l3 i) where
  mem := by simp
  obj := fun i h Z c hc => by
    have e : c = z ∨ c = a ∨ c = b ∨ c = j1 ∨ c = j2 ∨ c = j3 := by simpa using hc
    obtain ⟨zz, pa, ⟨u, v, r, pb⟩, i1, i2, i3⟩ := Z
    obtain ⟨o1, v1, e1, d1⟩ := i1.obj
    obtain ⟨o2, v2, e2, d2⟩ := i2.obj
    obtain ⟨o3, v3, e3, d3⟩ := i3.obj
    rcases e with n | n | n | n | n | n
    · rw [n]; exact ⟨_, zz, fun v q => nomatch q⟩
    · rw [n]; exact ⟨_, pa, fun v q => nomatch q⟩
    · rw [n]; exact ⟨_, pb, fun v q => nomatch q⟩
    · rw [n]; exact ⟨o1, e1, fun v q => by rw [d1] at q; cases q⟩
    · rw [n]; exact ⟨o2, e2, fun v q => by rw [d2] at q; cases q⟩
    · rw [n]; exact ⟨o3, e3, fun v q => by rw [d3] at q; cases q⟩
  keep := fun i h h' Z k => by
    obtain ⟨zz, pa, ⟨u, v, r, pb⟩, i1, i2, i3⟩ := Z
    exact ⟨k z (by simp) _ zz, k a (by simp) _ pa, ⟨u, v, r, k b (by simp) _ pb⟩, i1.same fun o q => k j1 (by simp) o q, i2.same fun o q => k j2 (by simp) o q, i3.same fun o q => k j3 (by simp) o q⟩
  item := by
    intro X hP hw hK hc i pins s σ H E I hf Z hg
    subst hP hw hK
    obtain ⟨xs, ys, zs, x, y, z', hqx, hqy, hqz, hx, hy, hz⟩ := hg
    obtain ⟨us, ru, q1⟩ := hqx.at I
    obtain ⟨ws, rw', q2⟩ := hqy.at I
    obtain ⟨vs, rv', q3⟩ := hqz.at I
    have hh : X.A.in1.handled = none := I.ok.hd hc
    have G := GoesN.zip3 (prog := X.prog) (w := X.w) (A := X.A) (elts := elts) (x1 := kk) (pos := tpos) D (dr_of (t := t1) hh j1 l1 n1 us.toArray) (dr_of (t := t2) hh j2 l2 n2 ws.toArray) (dr_of (t := t3) hh j3 l3 n3 vs.toArray)
    obtain ⟨lx, _⟩ := List.getElem?_eq_some_iff.mp hx
    obtain ⟨ly, _⟩ := List.getElem?_eq_some_iff.mp hy
    obtain ⟨lz, _⟩ := List.getElem?_eq_some_iff.mp hz
    have e1 := ru.length
    have e2 := rw'.length
    have e3 := rv'.length
    refine G.goes i s _ E (by simp only [List.size_toArray]; omega) ⟨Z.zz, Z.pa, Z.pb, ⟨Z.i1, q1⟩, ⟨Z.i2, q2⟩, ⟨Z.i3, q3⟩⟩ ?_
    rintro v h' tk ⟨T, u1, u2, u3, rfl, hT, p1, p2, p3, isT⟩ ⟨zz', pa', pb', ⟨k1, _⟩, ⟨k2, _⟩, ⟨k3, _⟩⟩ hk htk
    obtain ⟨u1', hu1, rx⟩ := ru.get hx
    obtain ⟨u2', hu2, ry⟩ := rw'.get hy
    obtain ⟨u3', hu3, rz⟩ := rv'.get hz
    have f1 : u1' = u1 := by
      have : us[i]? = some u1 := by simpa using p1
      rw [hu1] at this
      exact Option.some.inj this
    have f2 : u2' = u2 := by
      have : ws[i]? = some u2 := by simpa using p2
      rw [hu2] at this
      exact Option.some.inj this
    have f3 : u3' = u3 := by
      have : vs[i]? = some u3 := by simpa using p3
      rw [hu3] at this
      exact Option.some.inj this
    subst f1 f2 f3
    obtain ⟨o, ho, hc', n, hd⟩ := isT
    have ok : ObjOk X.prog X.w (upd H T (.tup [x, y, z'])) h' T (.tup [x, y, z']) :=
      ⟨by show 3 ≤ sizeLine; decide, [u1', u2', u3'], .cons rx (.cons ry (.cons rz .nil)), ⟨o, ho, hc', n, hd⟩⟩
    have I1 : Inv X pins σ (upd H T (.tup [x, y, z'])) { s with heap := h', toks := tk } := by
      refine I.turnedNew (t' := tk) (ch := [z, a, b, j1, j2, j3]) (fun c o nb q => ?_) hf hT ok
      refine hk c o (fun m => nb ?_) q
      simp only [List.mem_cons, List.not_mem_nil, or_false] at m ⊢
      rcases m with m | m | m | m | m <;> simp [m]
    refine ⟨.ref T, _, I1, rfl, ⟨T, x, y, z', rfl, I.hok.fresh hT, rfl, fun l hl => by rw [hl.inj I hqx]; exact hx, fun l hl => by rw [hl.inj I hqy]; exact hy, fun l hl => by rw [hl.inj I hqz]; exact hz⟩, ⟨zz', pa', pb', k1, k2, k3⟩, fun c hcm => ?_⟩
    have clt : c < s.heap.objs.size := by
      have e : c = z ∨ c = a ∨ c = b ∨ c = j1 ∨ c = j2 ∨ c = j3 := by simpa using hcm
      obtain ⟨zz, pa, ⟨_, _, _, pb⟩, i1, i2, i3⟩ := Z
      obtain ⟨o1, v1, e1, _⟩ := i1.obj
      obtain ⟨o2, v2, e2, _⟩ := i2.obj
      obtain ⟨o3, v3, e3, _⟩ := i3.obj
      rcases e with n | n | n | n | n | n
      · rw [n]; exact Heap.lt_size zz
      · rw [n]; exact Heap.lt_size pa
      · rw [n]; exact Heap.lt_size pb
      · rw [n]; exact Heap.lt_size e1
      · rw [n]; exact Heap.lt_size e2
      · rw [n]; exact Heap.lt_size e3
    rw [upd_ne (Nat.ne_of_lt (Nat.lt_of_lt_of_le clt hT))]
    exact (hf c hcm).1
  done := by
    intro X hP hw hK hc i pins s σ H E I hf Z hg
    subst hP hw hK
    obtain ⟨xs, ys, zs, hqx, hqy, hqz, he⟩ := hg
    obtain ⟨us, ru, q1⟩ := hqx.at I
    obtain ⟨ws, rw', q2⟩ := hqy.at I
    obtain ⟨vs, rv', q3⟩ := hqz.at I
    have hh : X.A.in1.handled = none := I.ok.hd hc
    have G := GoesN.zip3 (prog := X.prog) (w := X.w) (A := X.A) (elts := elts) (x1 := kk) (pos := tpos) D (dr_of (t := t1) hh j1 l1 n1 us.toArray) (dr_of (t := t2) hh j2 l2 n2 ws.toArray) (dr_of (t := t3) hh j3 l3 n3 vs.toArray)
    have e1 := ru.length
    have e2 := rw'.length
    have e3 := rv'.length
    have en : i = min (min us.toArray.size ws.toArray.size) vs.toArray.size := by simp only [List.size_toArray]; omega
    subst en
    refine G.stops s _ E ⟨Z.zz, Z.pa, Z.pb, ⟨Z.i1, q1⟩, ⟨Z.i2, q2⟩, ⟨Z.i3, q3⟩⟩ fun h' tk hk htk => ?_
    refine I.turnedL (t' := tk) (ch := [z, a, b, j1, j2, j3]) (fun c o nb q => hk c o (fun m => nb ?_) q) hf
    simp only [List.mem_cons, List.not_mem_nil, or_false] at m ⊢
    rcases m with m | m | m | m | m <;> simp [m]
  self := fun A i s Q E Z h => wpAny_pyIter_zip Z.zz h
def iZip3 (K : PySem.W.Frag) (ta : TA) : TI := fun σ H R => ta σ H fun vs H1 => ∃ t1 t2 t3 a b c xs ys zs, vs = [.ref a, .ref b, .ref c] ∧ SqV t1 K H1 a xs ∧ SqV t2 K H1 b ys ∧ SqV t3 K H1 c zs ∧ R (It3 t1 t2 t3 K a b c) H1
theorem beg_of {t : Bool} (l : Addr) (items : Array Value) : Begins (.ref l) (itO t l) (fun h => SqOf t h l items) := by
  cases t
  · exact begins_list l items
  · exact begins_tuple l items
theorem pi_zip3 {X : Cx} {e e2 e3 : Expr} {ta : TA} {p pos tpos : Pos} {elts : List Expr} {kk : Nat} (hg : Gl X "zip") (hm : X.mg "zip" = none) (ha : PA X [e, e2, e3] ta)
    (hs : starEach [e, e2, e3] X.env = (false, eval e X.env) :: starEach [e2, e3] X.env := by rfl) (hpl : (backTo pos (starEach [e2, e3] X.env)).any (·.1) = false := by rfl) : PI X (.Tuple elts kk tpos) (.Call (.Name "zip" p) [e, e2, e3] [] pos) (iZip3 X.K ta) := by
  refine ⟨fun pins s σ H R I h => Call_ (ld_blt I hg hm PyProof.Rows.boot_zip (PyProof.Rows.callWith_type1 (thn (ha.run pos pins s σ H _ I h) fun us s1 ⟨vs, H1, I1, r1, q1⟩ => ?_) hs hpl))⟩
  obtain ⟨t1, t2, t3, a, b, c, xs, ys, zs, ex, hqx, hqy, hqz, q⟩ := q1
  subst ex
  cases r1 with
  | cons r rr =>
    cases rr with
    | cons r' rr =>
      cases rr with
      | cons r'' rr =>
        cases rr
        cases r
        cases r'
        cases r''
        obtain ⟨us, ru, p1⟩ := hqx.at I1
        obtain ⟨ws, rw', p2⟩ := hqy.at I1
        obtain ⟨ls, rl', p3⟩ := hqz.at I1
        obtain ⟨o1, e1⟩ := p1.obj
        obtain ⟨o2, e2⟩ := p2.obj
        obtain ⟨o3, e3⟩ := p3.obj
        have la := Heap.lt_size e1
        have lb := Heap.lt_size e2
        have lc := Heap.lt_size e3
        refine zip_begins3 (beg_of (t := t1) a us.toArray) (beg_of (t := t2) b ws.toArray) (beg_of (t := t3) c ls.toArray) p1 p2 p3 fun h' hz ha' hb' g1 g2 g3 sz hk => wpAny_pyIter_zip hz ?_
        have I2 : Inv X pins σ H1 { s1 with heap := h' } := I1.kept (t' := s1.toks) hk
        obtain ⟨N, hN⟩ : ∃ N : Nat, s1.heap.objs.size = N := ⟨_, rfl⟩
        rw [hN] at hz ha' hb' g1 g2 g3 sz la lb lc ⊢
        have S := zip_sep3 (N := N) (fp1 := [a]) (fp2 := [b]) (fp3 := [c]) (by simpa using la) (by simpa using lb) (by simpa using lc)
        have n1 : a ≠ N := fun z => by
          rw [z] at la
          exact absurd la (Nat.lt_irrefl _)
        have n2 : b ≠ N + 1 := fun z => by
          rw [z] at lb
          exact absurd (Nat.lt_of_succ_lt lb) (Nat.lt_irrefl _)
        have n3 : c ≠ N + 2 := fun z => by
          rw [z] at lc
          exact absurd (Nat.lt_of_succ_lt (Nat.lt_of_succ_lt lc)) (Nat.lt_irrefl _)
        refine ⟨N + 5, [N + 5, N + 3, N + 4, N, N + 1, N + 2], _, _, H1, rfl, I2, turn3 (t1 := t1) (t2 := t2) (t3 := t3) S n1 n2 n3, ⟨hz, ha', ⟨_, _, _, hb'⟩, itO_of g1, itO_of g2, itO_of g3⟩, fun d hd => ?_, q⟩
        have hle : s1.heap.objs.size ≤ d := by
          rw [hN]
          have e' : d = N + 5 ∨ d = N + 3 ∨ d = N + 4 ∨ d = N ∨ d = N + 1 ∨ d = N + 2 := by simpa using hd
          have m : ∀ k : Nat, N ≤ N + k := fun k => Nat.le_add_right _ k
          rcases e' with n | n | n | n | n | n
          · rw [n]; exact m 5
          · rw [n]; exact m 3
          · rw [n]; exact m 4
          · rw [n]; exact m 0
          · rw [n]; exact m 1
          · rw [n]; exact m 2
        exact I1.fpOk hle (I1.hok.fresh hle)
theorem walk3 {t1 t2 t3 : Bool} {K : PySem.W.Frag} {a b c : Addr} {xs ys zs : List V} {n : Nat} (hn : n = min (min xs.length ys.length) zs.length) : Walk (It3 t1 t2 t3 K a b c) n (fun H => SqV t1 K H a xs ∧ SqV t2 K H b ys ∧ SqV t3 K H c zs)
    (fun i H v H' => ∃ p x y z, v = .ref p ∧ H p = none ∧ H' = upd H p (.tup [x, y, z]) ∧ xs[i]? = some x ∧ ys[i]? = some y ∧ zs[i]? = some z) := by
  subst hn
  refine ⟨fun i _ hi q => ?_, fun _ q => ⟨xs, ys, zs, q.1, q.2.1, q.2.2, rfl⟩, fun i H v H' _ q y => ?_⟩
  · exact ⟨xs, ys, zs, xs[i]'(by omega), ys[i]'(by omega), zs[i]'(by omega), q.1, q.2.1, q.2.2, by rw [List.getElem?_eq_getElem], by rw [List.getElem?_eq_getElem], by rw [List.getElem?_eq_getElem]⟩
  · obtain ⟨tp, x, z, r, h1, h2, h3, h4, h5, h6⟩ := y
    exact ⟨tp, x, z, r, h1, h2, h3, h4 xs q.1, h5 ys q.2.1, h6 zs q.2.2⟩
def zip3D : List D → List D → List D → List D
  | x :: xs, y :: ys, z :: zs => .tuple [x, y, z] :: zip3D xs ys zs
  | _, _, _ => []
theorem zip3D_len : ∀ (xs ys zs : List D), (zip3D xs ys zs).length = min (min xs.length ys.length) zs.length
  | [], ys, zs => by simp [zip3D]
  | _ :: _, [], zs => by simp [zip3D]
  | _ :: _, _ :: _, [] => by simp [zip3D]
  | x :: xs, y :: ys, z :: zs => by
    simp only [zip3D, List.length_cons, zip3D_len xs ys zs]
    omega
theorem zip3D_get : ∀ (xs ys zs : List D) (i : Nat) (x y z : D), xs[i]? = some x → ys[i]? = some y → zs[i]? = some z → (zip3D xs ys zs)[i]? = some (.tuple [x, y, z])
  | [], ys, zs, i, x, y, z, h, _, _ => by simp at h
  | _ :: _, [], zs, i, x, y, z, _, h, _ => by simp at h
  | _ :: _, _ :: _, [], i, x, y, z, _, _, h => by simp at h
  | a :: xs, b :: ys, c :: zs, 0, x, y, z, h1, h2, h3 => by
    simp only [List.getElem?_cons_zero, Option.some.injEq] at h1 h2 h3
    subst h1 h2 h3
    rfl
  | a :: xs, b :: ys, c :: zs, i + 1, x, y, z, h1, h2, h3 => by
    simp only [List.getElem?_cons_succ] at h1 h2 h3
    simp only [zip3D, List.getElem?_cons_succ]
    exact zip3D_get xs ys zs i x y z h1 h2 h3
theorem gives_zip3 {t1 t2 t3 : Bool} {K : PySem.W.Frag} {H0 : Hp} {a b c : Addr} {vs ws us : List V} {ds es fs : List D} (h : HasQ t1 H0 a vs) (hl : HasL H0 vs ds) (h' : HasQ t2 H0 b ws) (hl' : HasL H0 ws es) (h'' : HasQ t3 H0 c us) (hl'' : HasL H0 us fs) :
    Gives (It3 t1 t2 t3 K a b c) (zip3D ds es fs) H0 := by
  refine ⟨_, _, walk3 (K := K) (a := a) (b := b) (c := c) (xs := vs) (ys := ws) (zs := us) (by rw [zip3D_len, hl.length, hl'.length, hl''.length]), fun H1 e => ⟨h.sq e, h'.sq e, h''.sq e⟩, fun i H1 x H2 d H0' hd e0 e1 y => ?_⟩
  obtain ⟨tp, u, w, r, rfl, hn, rfl, hu, hw, hr⟩ := y
  obtain ⟨d1, a1, a2⟩ := hl.get hu
  obtain ⟨d2, b1, b2⟩ := hl'.get hw
  obtain ⟨d3, c1, c2⟩ := hl''.get hr
  have e2 := zip3D_get ds es fs i d1 d2 d3 a1 b1 c1
  rw [hd] at e2
  cases e2
  exact .inr ⟨tp, [u, w, r], [d1, d2, d3], rfl, hn, rfl, rfl, .cons (a2.mono e0) (.cons (b2.mono e0) (.cons (c2.mono e0) .nil))⟩
def oZip3 : List Ar → T (List D)
  | [.d x, .d y, .d z] => match seqD x, seqD y, seqD z with
    | some (_, xs), some (_, ys), some (_, zs) => .ret (zip3D xs ys zs)
    | _, _, _ => .bad
  | _ => .bad
theorem HasAs.three {β : Box} {H0 : Hp} {vs : List V} {x y z : D} (h : HasAs β H0 vs [.d x, .d y, .d z]) : ∃ u v w, vs = [u, v, w] ∧ Has H0 u x ∧ Has H0 v y ∧ Has H0 w z := by
  cases h with
  | cons h1 r =>
    cases r with
    | cons h2 r =>
      cases r with
      | cons h3 r =>
        cases r
        exact ⟨_, _, _, rfl, h1, h2, h3⟩
section
variable {X : Cx} {g : Ct} {a b c : Expr} {pos : Pos} {fs : Env' → T (List Ar)}
theorem i_zip3 {p tpos : Pos} {elts : List Expr} {kk : Nat} (hg : Gl X "zip") (hm : X.mg "zip" = none) (ha : PA X [a, b, c] (tA g fs)) (hs : starEach [a, b, c] X.env = (false, eval a X.env) :: starEach [b, c] X.env := by rfl) (hpl : (backTo pos (starEach [b, c] X.env)).any (·.1) = false := by rfl) :
    PI X (.Tuple elts kk tpos) (.Call (.Name "zip" p) [a, b, c] [] pos) (tI g (iArg oZip3 fs)) :=
  (pi_zip3 hg hm ha hs hpl).imp fun σ H R ⟨β, H0, ρ, rr, q⟩ => tA_then (k := oZip3) rr q fun as vs H1 H2 st hv q1 => by
    unfold oZip3 at q1
    split at q1
    · next x y z =>
      split at q1
      · next t1 xs t2 ys t3 zs ex ey ez =>
        obtain ⟨v, w, u, rfl, h1, h2, h3⟩ := hv.three
        obtain ⟨a1, u1, rfl, k1, l1⟩ := seqD_has h1 ex
        obtain ⟨a2, u2, rfl, k2, l2⟩ := seqD_has h2 ey
        obtain ⟨a3, u3, rfl, k3, l3⟩ := seqD_has h3 ez
        exact ⟨t1, t2, t3, _, _, _, _, _, _, rfl, k1.sq st.ext, k2.sq st.ext, k3.sq st.ext, q1 _ H1 H2 st (gives_zip3 k1 l1 k2 l2 k3 l3)⟩
      · exact q1.elim
    · exact q1.elim
end
@[simp] theorem ev_zip3TTT {xs ys zs : List D} : oZip3 [.d (.tuple xs), .d (.tuple ys), .d (.tuple zs)] = .ret (zip3D xs ys zs) := rfl
@[simp] theorem ev_zip3LTL {xs ys zs : List D} : oZip3 [.d (.list xs), .d (.tuple ys), .d (.list zs)] = .ret (zip3D xs ys zs) := rfl
@[simp] theorem ev_zip3TTL {xs ys zs : List D} : oZip3 [.d (.tuple xs), .d (.tuple ys), .d (.list zs)] = .ret (zip3D xs ys zs) := rfl
@[simp] theorem ev_zip3LTT {xs ys zs : List D} : oZip3 [.d (.list xs), .d (.tuple ys), .d (.tuple zs)] = .ret (zip3D xs ys zs) := rfl
end Wb

set_option Elab.async false
set_option linter.all false
set_option maxRecDepth 100000
set_option maxHeartbeats 4000000
/-! Wb, part 33: xs[i] = v of a list of one's own; min and max of two numbers; range as a list. -/
namespace Wb
open PySem PySem.Spec PyProof.Rows L2

def putI (k : Nat) (ρ : Env') (xs : List D) (d : D) : D → T Fl
  | .int z => match ixN xs.length z with
    | some j => .ret (.nx (ρ.set k (.own (xs.set j d))))
    | none => .bad
  | _ => .bad
def putK (k : Nat) (fi fv : Env' → T D) (ρ : Env') : Option Sl → T Fl
  | some (.own xs) => (fv ρ).lift ρ fun d => (fi ρ).lift ρ (putI k ρ xs d)
  | _ => .bad
def sPut (k : Nat) (fi fv : Env' → T D) : Env' → T Fl := fun ρ => putK k fi fv ρ ρ[k]?
@[simp] theorem ev_Put {k : Nat} {fi fv : Env' → T D} {ρ : Env'} : sPut k fi fv ρ = putK k fi fv ρ ρ[k]? := rfl
@[simp] theorem putK_own {k : Nat} {fi fv : Env' → T D} {ρ : Env'} {xs : List D} : putK k fi fv ρ (some (.own xs)) = (fv ρ).lift ρ fun d => (fi ρ).lift ρ (putI k ρ xs d) := rfl
theorem putI_nat {k : Nat} {ρ : Env'} {xs : List D} {d : D} {j : Nat} (h : j < xs.length) : putI k ρ xs d (.int (j : Nat)) = .ret (.nx (ρ.set k (.own (xs.set j d)))) := by
  have e : ixN xs.length ((j : Nat) : Int) = some j := by
    unfold ixN
    rw [if_pos (by omega), if_pos (by omega)]
    rfl
  show (match ixN xs.length ((j : Nat) : Int) with
    | some j => T.ret (Fl.nx (ρ.set k (.own (xs.set j d))))
    | none => .bad) = _
  rw [e]
section
variable {X : Cx} {g : Ct} {fi fv : Env' → T D} {st : Stmt}
theorem s_put {k : Nat} (hs : PS X st (tAsg (tE g fv) (gSub (tVar k) (tE g fi) rSetL))) : PS X st (tS g (sPut k fi fv)) := hs.imp fun E σ H ⟨β, A, B, C, H0, ρ, r, q⟩ => by
  unfold sPut at q
  cases hx : ρ[k]? with
  | none =>
    rw [hx] at q
    exact q.elim
  | some sl =>
    rw [hx] at q
    cases sl with
    | own xs =>
      obtain ⟨p, vs, e1, e2, e3⟩ := own_at r hx
      refine tE_lift r q fun d v H1 H2 s hv q1 => ?_
      have r1 := r.step s
      refine ⟨.ref p, e1, ?_⟩
      refine tE_lift r1 q1 fun i w H3 H4 s2 hw q2 => ?_
      have r2 := r1.step s2
      cases hw with
      | int z =>
        obtain ⟨p', vs', e1', e2', e3'⟩ := own_at r2 hx
        rw [e1] at e1'
        cases e1'
        have q2 : (match ixN xs.length z with
          | some j => T.ret (Fl.nx (ρ.set k (.own (xs.set j d))))
          | none => .bad).wp (FlOut g β A B C E) noE := q2
        cases hj : ixN xs.length z with
        | none =>
          rw [hj] at q2
          exact q2.elim
        | some j =>
          rw [hj] at q2
          exact ⟨p, vs', z, j, rfl, rfl, e2', by rw [e3'.length]; exact hj, q2 _ H3 _ (r2.chg hx e1 (HasL.set (hv.mono s2.grow) j e3'))⟩
      | _ => exact q2.elim
    | _ => exact q.elim
end
/-! ### min, max -/
def oMax2 : List Ar → T D
  | [.d (.int i), .d (.int j)] => .ret (.int (if j > i then j else i))
  | _ => .bad
def oMin2 : List Ar → T D
  | [.d (.int i), .d (.int j)] => .ret (.int (if j < i then j else i))
  | _ => .bad
theorem d_max2 : CaD (fun xs H Q => ∃ i j, xs = [.int i, .int j] ∧ Q (.int (if j > i then j else i)) H) oMax2 := by
  intro β H0 H vs as Q E e ok bf hv q
  unfold oMax2 at q
  split at q
  · obtain ⟨v, w, rfl, h1, h2⟩ := hv.two
    cases h1
    cases h2
    exact ⟨_, _, rfl, out_ret e ok bf (.int _) q⟩
  · exact q.elim
theorem d_min2 : CaD (fun xs H Q => ∃ i j, xs = [.int i, .int j] ∧ Q (.int (if j < i then j else i)) H) oMin2 := by
  intro β H0 H vs as Q E e ok bf hv q
  unfold oMin2 at q
  split at q
  · obtain ⟨v, w, rfl, h1, h2⟩ := hv.two
    cases h1
    cases h2
    exact ⟨_, _, rfl, out_ret e ok bf (.int _) q⟩
  · exact q.elim
@[simp] theorem oMax2_i {i j : Int} : oMax2 [.d (.int i), .d (.int j)] = .ret (.int (if j > i then j else i)) := rfl
@[simp] theorem oMin2_i {i j : Int} : oMin2 [.d (.int i), .d (.int j)] = .ret (.int (if j < i then j else i)) := rfl
@[simp] theorem ev_Drop {f : Env' → T D} {ρ : Env'} : sDrop f ρ = (f ρ).lift ρ fun _ => .ret (.nx ρ) := rfl
end Wb

set_option Elab.async false
set_option linter.all false
set_option maxRecDepth 100000
set_option maxHeartbeats 4000000
/-! Wb, part 34: what a list of one's own holds is read. -/
namespace Wb
open PySem PySem.Spec PyProof.Rows L2

def oixI (xs : List D) : D → T D
  | .int z => match atI xs z with
    | some d => .ret d
    | none => .bad
  | _ => .bad
def oixK (fi : Env' → T D) (ρ : Env') : Option Sl → T D
  | some (.own xs) => (fi ρ).bind (oixI xs)
  | _ => .bad
/-- xs[i] -/
def eOIx (k : Nat) (fi : Env' → T D) : Env' → T D := fun ρ => oixK fi ρ ρ[k]?
@[simp] theorem ev_OIx {k : Nat} {fi : Env' → T D} {ρ : Env'} : eOIx k fi ρ = oixK fi ρ ρ[k]? := rfl
@[simp] theorem oixK_own {fi : Env' → T D} {ρ : Env'} {xs : List D} : oixK fi ρ (some (.own xs)) = (fi ρ).bind (oixI xs) := rfl
theorem oixI_nat {xs : List D} {j : Nat} {d : D} (h : xs[j]? = some d) : oixI xs (.int (j : Nat)) = .ret d := by
  show (match atI xs ((j : Nat) : Int) with
    | some d => T.ret d
    | none => .bad) = _
  rw [atI_nat h]
def olenK : Option Sl → T D
  | some (.own xs) => .ret (.int xs.length)
  | _ => .bad
/-- len(xs) -/
def eOLen (k : Nat) : Env' → T D := fun ρ => olenK ρ[k]?
@[simp] theorem ev_OLen {k : Nat} {ρ : Env'} : eOLen k ρ = olenK ρ[k]? := rfl
@[simp] theorem olenK_own {xs : List D} : olenK (some (.own xs)) = .ret (.int xs.length) := rfl
theorem own_rel {cad : Cad} {β : Box} {ξ : Xi} {H0 H : Hp} {ρ : Env'} {σ : L2.St} (r : Rel cad β ξ H0 ρ σ H) {i : Nat} {xs : List D} (hi : ρ[i]? = some (.own xs)) :
    ∃ p vs, σ[i]? = some (some (.ref p)) ∧ H p = some (.lst vs) ∧ HasL H0 vs xs := by
  have hl : i < σ.length := by
    rw [← r.len]
    exact (List.getElem?_eq_some_iff.mp hi).1
  obtain ⟨p, vs, e1, e2, e3, _⟩ := r.sl i _ _ hi (List.getElem?_eq_getElem hl)
  exact ⟨p, vs, by rw [List.getElem?_eq_getElem hl, e1], e2, e3⟩
section
variable {X : Cx} {g : Ct} {fi : Env' → T D} {i : Expr} {x : Str} {p pos : Pos}
theorem r_oix {k : Nat} (hp : PE X (.Name x p) (tVar k)) (hi : PE X i (tE g fi)) (hs : PlainIx i) : PE X (.Subscript (.Name x p) i pos) (tE g (eOIx k fi)) :=
  (pe_ix ix_list hp hi hs).imp fun σ H Q ⟨β, H0, ρ, r, q⟩ => by
    unfold eOIx at q
    cases hx : ρ[k]? with
    | none =>
      rw [hx] at q
      exact q.elim
    | some sl =>
      rw [hx] at q
      cases sl with
      | own xs =>
        obtain ⟨a, vs, e1, e2, e3⟩ := own_rel r hx
        refine ⟨.ref a, e1, ?_⟩
        refine tE_then r q fun d v H1 H2 st hv q1 => ?_
        have r1 := r.step st
        obtain ⟨a', vs', e1', e2', e3'⟩ := own_rel r1 hx
        rw [e1] at e1'
        cases e1'
        cases hv with
        | int z =>
          have q1 : (match atI xs z with
            | some d => T.ret d
            | none => .bad).wp (Out β H0 H Q) (g.X β H0 H σ) := q1
          cases ha : atI xs z with
          | none =>
            rw [ha] at q1
            exact q1.elim
          | some d =>
            rw [ha] at q1
            obtain ⟨j, hj, hd⟩ := Option.bind_eq_some_iff.mp ha
            obtain ⟨w, hw, hh⟩ := e3'.getD hd
            refine ⟨a, vs', z, w, rfl, rfl, SqL.of e2', ?_, q1 w H1 H2 st hh⟩
            unfold atI
            rw [e3'.length, hj]
            exact hw
        | _ => exact q1.elim
      | _ => exact q.elim
theorem r_olen {k : Nat} {lp : Pos} (hg : Gl X "len") (hm : X.mg "len" = none) (hp : PE X (.Name x p) (tVar k)) (he : starEach [.Name x p] X.env = (false, eval (.Name x p) X.env) :: starEach [] X.env := by rfl)
    (hpl : (backTo pos (starEach [] X.env)).any (·.1) = false := by rfl) : PE X (.Call (.Name "len" lp) [.Name x p] [] pos) (tE g (eOLen k)) :=
  (pe_callB call_len_seq hg hm (by decide +kernel) (pa_cons hp pa_nil he) (by decide) (by decide) he hpl).imp fun σ H Q ⟨β, H0, ρ, r, q⟩ => by
    unfold eOLen at q
    cases hx : ρ[k]? with
    | none =>
      rw [hx] at q
      exact q.elim
    | some sl =>
      rw [hx] at q
      cases sl with
      | own xs =>
        obtain ⟨a, vs, e1, e2, e3⟩ := own_rel r hx
        refine ⟨.ref a, e1, a, vs, rfl, .inl (SqL.of e2), ?_⟩
        rw [e3.length]
        exact q (.int _) H0 H r.refl (.int _)
      | _ => exact q.elim
end
end Wb

set_option Elab.async false
set_option linter.all false
set_option maxRecDepth 100000
set_option maxHeartbeats 4000000
/-! Wb, part 35: flows as data. -/
namespace Wb
open PySem PySem.Spec PyProof.Rows L2

abbrev Rd := Nat × List Int
abbrev Ru := Str × List Rd
def readD (r : Rd) : D := .tuple [.int (r.1 : Nat), vecD r.2]
def ruleD (r : Ru) : D := .tuple (.str r.1 :: r.2.map readD)
def rulesD (rs : List Ru) : D := .tuple (rs.map ruleD)
def flowD (n : Nat) (rs : List Ru) : D := .tuple [.int (n : Nat), rulesD rs]
theorem flow_0 (n : Nat) (rs : List Ru) : oIx (flowD n rs) (.int 0) = .ret (.int (n : Nat)) := ixT_at (j := 0) rfl
theorem flow_1 (n : Nat) (rs : List Ru) : oIx (flowD n rs) (.int 1) = .ret (rulesD rs) := ixT_at (j := 1) rfl
theorem rules_at {rs : List Ru} {p : Nat} {r : Ru} (h : rs[p]? = some r) : oIx (rulesD rs) (.int (p : Nat)) = .ret (ruleD r) := ixT_at (by rw [List.getElem?_map, h]; rfl)
theorem rule_0 (r : Ru) : oIx (ruleD r) (.int 0) = .ret (.str r.1) := ixT_at (j := 0) rfl
theorem rule_at {r : Ru} {k : Nat} {x : Rd} (h : r.2[k]? = some x) : oIx (ruleD r) (.int ((k : Int) + 1)) = .ret (readD x) := by
  have e : ((k : Int) + 1) = ((k + 1 : Nat) : Int) := by simp
  rw [e]
  exact ixT_at (by rw [List.getElem?_cons_succ, List.getElem?_map, h]; rfl)
theorem read_0 (x : Rd) : oIx (readD x) (.int 0) = .ret (.int (x.1 : Nat)) := ixT_at (j := 0) rfl
theorem read_1 (x : Rd) : oIx (readD x) (.int 1) = .ret (vecD x.2) := ixT_at (j := 1) rfl
theorem rules_len (rs : List Ru) : oLen [.d (rulesD rs)] = .ret (.int (rs.length : Nat)) := by simp [rulesD]
theorem rule_len (r : Ru) : oLen [.d (ruleD r)] = .ret (.int ((r.2.length : Int) + 1)) := by simp [ruleD]
theorem vec_len (ns : List Int) : oLen [.d (vecD ns)] = .ret (.int (ns.length : Nat)) := by simp [vecD]
/-- a flow: its dims, its rules -/
structure WF (n : Nat) (rs : List Ru) : Prop where
  n2 : 2 ≤ n
  n3 : n ≤ 3
  r1 : 1 ≤ rs.length
  r6 : rs.length ≤ 6
  k1 : ∀ r ∈ rs, 1 ≤ r.2.length
  k3 : ∀ r ∈ rs, r.2.length ≤ 3
  kd : ∀ r ∈ rs, tiB 0 5 (.str r.1) = true
  src : ∀ r ∈ rs, ∀ x ∈ r.2, x.1 < rs.length
  dl : ∀ r ∈ rs, ∀ x ∈ r.2, x.2.length = n
  db : ∀ r ∈ rs, ∀ x ∈ r.2, ∀ z ∈ x.2, z.natAbs ≤ 4
theorem ti_allL {k b : Nat} : ∀ {xs : List D}, (∀ x ∈ xs, Ti k b x) → TiL k ((b + 1) * xs.length) xs
  | [], _ => tiL_nil
  | x :: r, h => by
    have h1 := h x (List.mem_cons_self ..)
    have h2 := ti_allL fun y hy => h y (List.mem_cons_of_mem _ hy)
    refine (TiL.cons h1 h2).mono (by omega) ?_
    rw [List.length_cons, Nat.mul_add, Nat.mul_one]
    omega
section
variable {n : Nat} {rs : List Ru}
theorem WF.ti_read (h : WF n rs) {r : Ru} (hr : r ∈ rs) {x : Rd} (hx : x ∈ r.2) : Ti 2 5 (readD x) := by
  have h1 := h.src r hr x hx
  have h2 := h.dl r hr x hx
  have h3 := h.db r hr x hx
  have h4 := h.r6
  have h5 := h.n3
  exact (ti_tuple (TiL.cons (ti_int (i := (x.1 : Nat)) (by omega)) (TiL.one (ti_tuple (TiL.ints fun z hz => by have := h3 z hz; omega))))).mono (by omega) (by omega)
theorem WF.ti_rule (h : WF n rs) {r : Ru} (hr : r ∈ rs) : Ti 3 24 (ruleD r) := by
  have h1 := ti_allL (xs := r.2.map readD) (k := 2) (b := 5) fun y hy => by
    obtain ⟨x, hx, rfl⟩ := List.mem_map.mp hy
    exact h.ti_read hr hx
  have h2 := h.k3 r hr
  rw [List.length_map] at h1
  exact (ti_tuple (TiL.cons (ti_by (h.kd r hr)) h1)).mono (by omega) (by omega)
theorem WF.ti_rules (h : WF n rs) : TiL 3 150 (rs.map ruleD) := by
  have h1 := ti_allL (xs := rs.map ruleD) (k := 3) (b := 24) fun y hy => by
    obtain ⟨x, hx, rfl⟩ := List.mem_map.mp hy
    exact h.ti_rule hx
  have h2 := h.r6
  rw [List.length_map] at h1
  exact h1.mono (by omega) (by omega)
theorem WF.ti_flow (h : WF n rs) : Ti 5 152 (flowD n rs) := by
  have h1 := h.n3
  exact (ti_tuple (TiL.cons (ti_int (i := (n : Nat)) (by omega)) (TiL.one (ti_tuple h.ti_rules)))).mono (by omega) (by omega)
end
/-! ### reads told by plane and operand -/
abbrev Ri := Nat × Nat
def riD (r : Ri) : D := .tuple [.int (r.1 : Nat), .int (r.2 : Nat)]
/-- the read that is told, if there is one -/
def rdAt (rs : List Ru) (r : Ri) : Option Rd := (rs[r.1]?).bind fun u => u.2[r.2]?
def natOf : D → Option Nat
  | .int i => if 0 ≤ i then some i.toNat else none
  | _ => none
def riOf : D → Option Ri
  | .tuple [a, b] => (natOf a).bind fun p => (natOf b).map fun o => (p, o)
  | _ => none
theorem natOf_int (p : Nat) : natOf (.int (p : Nat)) = some p := by
  show (if (0 : Int) ≤ (p : Nat) then some ((p : Nat) : Int).toNat else none) = some p
  rw [if_pos (by omega)]
  simp
theorem natOf_some {v : D} {p : Nat} (h : natOf v = some p) : v = .int (p : Nat) := by
  cases v with
  | int i =>
    have h : (if (0 : Int) ≤ i then some i.toNat else none) = some p := h
    by_cases c : (0 : Int) ≤ i
    · rw [if_pos c] at h
      have h := Option.some.inj h
      congr 1
      omega
    · rw [if_neg c] at h
      cases h
  | _ => cases h
theorem riOf_riD (r : Ri) : riOf (riD r) = some r := by
  unfold riOf riD
  simp [natOf_int]
theorem riOf_some {v : D} {r : Ri} (h : riOf v = some r) : v = riD r := by
  unfold riOf at h
  split at h
  · next a b =>
    obtain ⟨p, hp, h⟩ := Option.bind_eq_some_iff.mp h
    obtain ⟨o, ho, h⟩ := Option.map_eq_some_iff.mp h
    cases h
    rw [natOf_some hp, natOf_some ho]
    rfl
  · cases h
/-- whether a value tells a read -/
def rdB (rs : List Ru) (v : D) : Bool := match riOf v with
  | some r => (rdAt rs r).isSome
  | none => false
theorem rdB_of {rs : List Ru} {v : D} (h : rdB rs v = true) : ∃ r u x, v = riD r ∧ rs[r.1]? = some u ∧ u.2[r.2]? = some x := by
  unfold rdB at h
  split at h
  · next r e =>
    obtain ⟨x, hx⟩ := Option.isSome_iff_exists.mp h
    obtain ⟨u, hu, hx⟩ := Option.bind_eq_some_iff.mp hx
    exact ⟨r, u, x, riOf_some e, hu, hx⟩
  · cases h
theorem rdAt_of {rs : List Ru} {r : Ri} {u : Ru} {x : Rd} (h1 : rs[r.1]? = some u) (h2 : u.2[r.2]? = some x) : rdAt rs r = some x := by
  unfold rdAt
  rw [h1]
  exact h2
theorem ri_0 (r : Ri) : oIx (riD r) (.int 0) = .ret (.int (r.1 : Nat)) := ixT_at (j := 0) rfl
theorem ri_1 (r : Ri) : oIx (riD r) (.int 1) = .ret (.int (r.2 : Nat)) := ixT_at (j := 1) rfl
end Wb

set_option Elab.async false
set_option linter.all false
set_option maxRecDepth 100000
set_option maxHeartbeats 4000000
/-! Wb, part 36: a truth value and a number, added. -/
namespace Wb
open PySem PySem.Spec PyProof.Rows L2
def rAddBI : R2 := fun x y H Q => ∃ b j, x = .bl b ∧ y = .int j ∧ Q (.int ((if b = true then (1 : Int) else 0) + j)) H
theorem op_addBI {X : Cx} : OpR X (binaryOp .Add) rAddBI := by
  intro pins s σ H x y v u Q I rx ry h
  obtain ⟨b, j, rfl, rfl, q⟩ := h
  obtain rfl : v = Value.bool b := rx
  obtain ⟨t, rfl⟩ := ry
  exact PySem.IntBool.add_bool_int ⟨.int ((if b = true then (1 : Int) else 0) + j), H, I.tok _, ⟨_, rfl⟩, q⟩
def oAddB : D → D → T D
  | .bool b, .int j => .ret (.int ((if b = true then (1 : Int) else 0) + j))
  | x, y => oAdd x y
def rAddB (K : PySem.W.Frag) : R2 := fun x y H Q => rAddBI x y H Q ∨ rAddD K x y H Q
theorem op_addB {X : Cx} : OpR X (binaryOp .Add) (rAddB X.K) := opOr op_addBI op_addD
theorem d_addB {K : PySem.W.Frag} : OpD (rAddB K) oAddB := by
  intro β H0 H v w x y Q E e ok bf hv hw q
  unfold oAddB at q
  split at q
  · cases hv
    cases hw
    exact .inl ⟨_, _, rfl, rfl, out_ret e ok bf (.int _) q⟩
  · exact .inr (d_add e ok bf hv hw q)
@[simp] theorem oAddB_bi {b : Bool} {j : Int} : oAddB (.bool b) (.int j) = .ret (.int ((if b = true then (1 : Int) else 0) + j)) := rfl
@[simp] theorem oAddB_i {i : Int} {y : D} : oAddB (.int i) y = oAdd (.int i) y := rfl
@[simp] theorem oAddB_t {xs : List D} {y : D} : oAddB (.tuple xs) y = oAdd (.tuple xs) y := rfl
@[simp] theorem oAddB_l {xs : List D} {y : D} : oAddB (.list xs) y = oAdd (.list xs) y := rfl
@[simp] theorem oAddB_s {z : Str} {y : D} : oAddB (.str z) y = oAdd (.str z) y := rfl
end Wb

set_option Elab.async false
set_option linter.all false
set_option maxRecDepth 100000
set_option maxHeartbeats 4000000
/-! Wb, part 37: how great the numbers within data are. -/
namespace Wb
open PySem PySem.Spec PyProof.Rows L2
mutual
def ib (N : Nat) : D → Bool
  | .int i => decide (i.natAbs ≤ N)
  | .list xs => ibAll N xs
  | .tuple xs => ibAll N xs
  | _ => true
def ibAll (N : Nat) : List D → Bool
  | [] => true
  | x :: xs => ib N x && ibAll N xs
end
theorem ibAll_iff {N : Nat} : ∀ {xs : List D}, ibAll N xs = true ↔ ∀ x ∈ xs, ib N x = true
  | [] => by simp [ibAll]
  | x :: r => by
    simp only [ibAll, Bool.and_eq_true, ibAll_iff (xs := r), List.mem_cons, forall_eq_or_imp]
theorem ib_tuple {N : Nat} {xs : List D} : ib N (.tuple xs) = true ↔ ∀ x ∈ xs, ib N x = true := by
  rw [← ibAll_iff]
  simp only [ib]
theorem ib_list {N : Nat} {xs : List D} : ib N (.list xs) = true ↔ ∀ x ∈ xs, ib N x = true := by
  rw [← ibAll_iff]
  simp only [ib]
theorem ib_int {N : Nat} {i : Int} : ib N (.int i) = true ↔ i.natAbs ≤ N := by
  simp only [ib, decide_eq_true_eq]
mutual
theorem ib_mono {N M : Nat} (h : N ≤ M) : ∀ {v : D}, ib N v = true → ib M v = true
  | .int i, q => ib_int.mpr (Nat.le_trans (ib_int.mp q) h)
  | .list xs, q => by
    simp only [ib] at q ⊢
    exact ibAll_mono h q
  | .tuple xs, q => by
    simp only [ib] at q ⊢
    exact ibAll_mono h q
  | .none, _ => by simp [ib]
  | .bool _, _ => by simp [ib]
  | .str _, _ => by simp [ib]
  | .dict _, _ => by simp [ib]
theorem ibAll_mono {N M : Nat} (h : N ≤ M) : ∀ {xs : List D}, ibAll N xs = true → ibAll M xs = true
  | [], _ => by simp [ibAll]
  | x :: xs, q => by
    simp only [ibAll, Bool.and_eq_true] at q ⊢
    exact ⟨ib_mono h q.1, ibAll_mono h q.2⟩
end
theorem cut_mem {xs : List D} {lo hi : Option Int} : ∀ x ∈ cutD xs lo hi, x ∈ xs := fun x h => List.mem_of_mem_drop (List.mem_of_mem_take h)
end Wb

set_option Elab.async false
set_option linter.all false
set_option maxRecDepth 100000
set_option maxHeartbeats 4000000
/-! Wb, part 38: the greatest and the least of a list of ints; where an item stands. -/
namespace Wb
open PySem PySem.Spec PyProof.Rows L2
def mxZ : Int → List Int → Int
  | a, [] => a
  | a, b :: r => mxZ (if b > a then b else a) r
def mnZ : Int → List Int → Int
  | a, [] => a
  | a, b :: r => mnZ (if b < a then b else a) r
theorem mxZ_mem : ∀ (r : List Int) (a : Int), mxZ a r ∈ a :: r
  | [], a => List.mem_cons_self ..
  | b :: r, a => by
    have h := mxZ_mem r (if b > a then b else a)
    show mxZ (if b > a then b else a) r ∈ a :: b :: r
    rcases List.mem_cons.mp h with e | e
    · rw [e]
      split <;> simp
    · exact List.mem_cons_of_mem _ (List.mem_cons_of_mem _ e)
theorem mxZ_ge : ∀ (r : List Int) (a : Int), ∀ y ∈ a :: r, y ≤ mxZ a r
  | [], a, y, h => by
    rw [List.mem_singleton] at h
    rw [h]
    exact Int.le_refl _
  | b :: r, a, y, h => by
    have ih := mxZ_ge r (if b > a then b else a)
    show y ≤ mxZ (if b > a then b else a) r
    have h0 := ih _ (List.mem_cons_self ..)
    rcases List.mem_cons.mp h with rfl | h
    · split at h0 <;> rename_i c <;> simp only [c, if_true, if_false] <;> omega
    · rcases List.mem_cons.mp h with rfl | h
      · split at h0 <;> rename_i c <;> simp only [c, if_true, if_false] <;> omega
      · exact ih y (List.mem_cons_of_mem _ h)
theorem mnZ_mem : ∀ (r : List Int) (a : Int), mnZ a r ∈ a :: r
  | [], a => List.mem_cons_self ..
  | b :: r, a => by
    have h := mnZ_mem r (if b < a then b else a)
    show mnZ (if b < a then b else a) r ∈ a :: b :: r
    rcases List.mem_cons.mp h with e | e
    · rw [e]
      split <;> simp
    · exact List.mem_cons_of_mem _ (List.mem_cons_of_mem _ e)
theorem mnZ_le : ∀ (r : List Int) (a : Int), ∀ y ∈ a :: r, mnZ a r ≤ y
  | [], a, y, h => by
    rw [List.mem_singleton] at h
    rw [h]
    exact Int.le_refl _
  | b :: r, a, y, h => by
    have ih := mnZ_le r (if b < a then b else a)
    show mnZ (if b < a then b else a) r ≤ y
    have h0 := ih _ (List.mem_cons_self ..)
    rcases List.mem_cons.mp h with rfl | h
    · split at h0 <;> rename_i c <;> simp only [c, if_true, if_false] <;> omega
    · rcases List.mem_cons.mp h with rfl | h
      · split at h0 <;> rename_i c <;> simp only [c, if_true, if_false] <;> omega
      · exact ih y (List.mem_cons_of_mem _ h)
def oMaxL : D → T D
  | .list xs => match intsOf xs with
    | some (n :: ns) => .ret (.int (mxZ n ns))
    | _ => .bad
  | _ => .bad
def oMinL : D → T D
  | .list xs => match intsOf xs with
    | some (n :: ns) => .ret (.int (mnZ n ns))
    | _ => .bad
  | _ => .bad
theorem d_maxL {K : PySem.W.Frag} : CaD (rMax K) (o1 oMaxL) := by
  apply d_1
  intro β H0 H v x Q E e ok bf hv q
  cases hv with
  | lst h1 h2 =>
    unfold oMaxL at q
    simp only at q
    split at q
    · next n ns hn =>
      rw [intsOf_some hn] at h2
      rw [h2.ints_eq] at h1
      refine ⟨_, n :: ns, rfl, SqL.of (e _ _ h1), by simp, fun m hm hle => ?_⟩
      have em : m = mxZ n ns := by
        have a := mxZ_ge ns n m hm
        have b := hle _ (mxZ_mem ns n)
        omega
      rw [em]
      exact out_ret e ok bf (.int _) q
    · exact q.elim
  | _ => exact q.elim
theorem d_minL {K : PySem.W.Frag} : CaD (rMin K) (o1 oMinL) := by
  apply d_1
  intro β H0 H v x Q E e ok bf hv q
  cases hv with
  | lst h1 h2 =>
    unfold oMinL at q
    simp only at q
    split at q
    · next n ns hn =>
      rw [intsOf_some hn] at h2
      rw [h2.ints_eq] at h1
      refine ⟨_, n :: ns, rfl, SqL.of (e _ _ h1), by simp, fun m hm hle => ?_⟩
      have em : m = mnZ n ns := by
        have a := mnZ_le ns n m hm
        have b := hle _ (mnZ_mem ns n)
        omega
      rw [em]
      exact out_ret e ok bf (.int _) q
    · exact q.elim
  | _ => exact q.elim
@[simp] theorem oMaxL_ints {n : Int} {ns : List Int} : oMaxL (.list (.int n :: ns.map PyData.int)) = .ret (.int (mxZ n ns)) := by
  have e : PyData.int n :: ns.map PyData.int = (n :: ns).map PyData.int := rfl
  rw [e]
  unfold oMaxL
  simp only [intsOf_map]
@[simp] theorem oMinL_ints {n : Int} {ns : List Int} : oMinL (.list (.int n :: ns.map PyData.int)) = .ret (.int (mnZ n ns)) := by
  have e : PyData.int n :: ns.map PyData.int = (n :: ns).map PyData.int := rfl
  rw [e]
  unfold oMinL
  simp only [intsOf_map]
/-! ### xs.index(d) -/
def oIdx (x y : D) : T D := match x with
  | .list ds => if (cEq y && cEq (.list ds)) = true then (match ds.findIdx? fun z => PyData.eqv z y with
    | some j => .ret (.int (j : Nat))
    | none => .bad) else .bad
  | _ => .bad
def kIdx (h : Env' → T D) (ρ : Env') : D → T D
  | .list ds => (h ρ).bind fun y => oIdx (.list ds) y
  | _ => .bad
def eIdx (f h : Env' → T D) : Env' → T D := fun ρ => (f ρ).bind fun x => kIdx h ρ x
theorem r_idx {X : Cx} {g : Ct} {f h : Env' → T D} {a e : Expr} {apos pos : Pos} (hu : X.A.units + 65 < cLine) (ha : PE X a (tE g f)) (hb : PE X e (tE g h))
    (hbase : attributeBase a "index" X.env (eval a X.env) = eval a X.env := by rfl)
    (hfew : ((backTo pos (starEach [e] X.env)).all (fun x => !x.1) && (backToKw pos (keywordEach [] X.env)).all (fun x => x.1.isSome)
      && decide ([e].length + ([] : List Keyword).length + (if ([] : List Keyword).isEmpty then 0 else 1) < 30)) = true := by rfl)
    (hline : (apos.endLine == pos.line) = true := by rfl) (hs : starEach [e] X.env = (false, eval e X.env) :: starEach [] X.env := by rfl) (hplain : (backTo pos (starEach [] X.env)).any (·.1) = false := by rfl) :
    PE X (.Call (.Attribute a "index" apos) [e] [] pos) (tE g (eIdx f h)) :=
  (pe_bm PySem.F.plainAttrs_list PySem.F.slot_list_index PySem.F.type_list_index (mt_indexD hu) ha (pa_cons hb pa_nil hs) hbase hfew hline hs hplain).imp fun σ H Q ⟨β, H0, ρ, rr, q⟩ => tE_then rr q fun d v H1 H2 st hv q1 => by
    have rr1 := rr.step st
    cases hv with
    | @lst a xs ds h1 h2 =>
      refine ⟨.inl ⟨rfl, _, SqL.of (st.ext _ _ h1)⟩, ?_⟩
      refine tE_then rr1 (wp_out st q1) fun d' v' H3 H4 st2 hv' q2 => ?_
      have q2 : (if (cEq d' && cEq (.list ds)) = true then (match ds.findIdx? fun z => PyData.eqv z d' with
        | some j => T.ret (PyData.int (j : Nat))
        | none => .bad) else .bad).wp _ _ := q2
      split at q2
      · next c =>
        rw [Bool.and_eq_true] at c
        obtain ⟨a1, a2⟩ := cEq_of c.1
        obtain ⟨b1, b2⟩ := cEq_of c.2
        split at q2
        · next j hj =>
          rw [List.findIdx?_eq_some_iff_getElem] at hj
          obtain ⟨hl, hz, hno⟩ := hj
          refine ⟨_, _, d', ds, j, ds[j], rfl, rfl, (Has.lst (st2.grow _ _ h1) (h2.mono st2.grow)).dp st2.ext b1, hv'.dp st2.ext a1, b2, a2, List.getElem?_eq_getElem hl, hz, fun m z' hm hz' => ?_, out_ret st2.ext st2.ok st2.boxf (.int _) (wp_out st2 q2)⟩
          obtain ⟨hl', rfl⟩ := List.getElem?_eq_some_iff.mp hz'
          have := hno m hm
          simpa using this
        · exact q2.elim
      · exact q2.elim
    | _ => exact q1.elim
@[simp] theorem ev_idx {f h : Env' → T D} {ρ : Env'} : eIdx f h ρ = (f ρ).bind fun x => kIdx h ρ x := rfl
@[simp] theorem kIdx_list {h : Env' → T D} {ρ : Env'} {ds : List D} : kIdx h ρ (.list ds) = (h ρ).bind fun y => oIdx (.list ds) y := rfl
theorem oIdx_list {ds : List D} {y : D} {j : Nat} (c : (cEq y && cEq (.list ds)) = true) (e : (ds.findIdx? fun z => PyData.eqv z y) = some j) : oIdx (.list ds) y = .ret (.int (j : Nat)) := by
  unfold oIdx
  simp only [c, if_true, e]
/-! ### a, b = (e, [..]), b a list of one's own -/
def sParOwn (i j : Nat) (f : Env' → T D) (l : Env' → T (List D)) : Env' → T Fl := fun ρ => (f ρ).lift ρ fun d => (l ρ).lift ρ fun ds => .ret (.nx ((ρ.set i (.d d)).set j (.own ds)))
theorem s_parOwn {X : Cx} {g : Ct} {st : Stmt} {f : Env' → T D} {fs : Env' → T (List Ar)} {i j : Nat} (hs : PS X st (tPar i j (tCons (tE g f) (tCons (tLst (tA g fs)) tNil)))) : PS X st (tS g (sParOwn i j f (lLst fs))) := hs.imp fun E σ H ⟨β, A, B, C, H0, ρ, r, q⟩ => by
  unfold sParOwn lLst at q
  refine tE_lift r q fun d v H1 H2 s hv q1 => ?_
  rw [T.lift_bind] at q1
  have r1 := r.step s
  refine tA_lift r1 q1 fun as vs H3 H4 s2 hvs q2 => ?_
  split at q2
  · next ds e =>
    split at q2
    · next hz =>
      have hl := hvs.ds (dsOf_some e)
      have r2 := r1.step s2
      refine ⟨lim_line (by rw [hl.length]; exact hz), fun p hp => ?_⟩
      obtain ⟨f1, f2, f3, f4⟩ := r2.fresh hp
      have r3 := r2.step (r2.rel.junk (o := .lst vs) hp)
      have r4 := r3.setD (i := i) (hv.mono s2.grow)
      refine ⟨v, .ref p, rfl, q2 _ H3 _ (r4.setOwn f1 upd_same hl f2 f3 fun k ys q _ a b => ?_)⟩
      by_cases hk : k = i
      · subst hk
        by_cases hl' : k < ρ.length
        · rw [List.getElem?_set_self hl'] at a
          cases a
        · rw [List.getElem?_eq_none (by simpa using hl')] at a
          cases a
      · rw [List.getElem?_set_ne (Ne.symm hk)] at a b
        exact f4 k ys q a b
    · exact q2.elim
  · exact q2.elim
@[simp] theorem ev_ParOwn {i j : Nat} {f : Env' → T D} {l : Env' → T (List D)} {ρ : Env'} : sParOwn i j f l ρ = (f ρ).lift ρ fun d => (l ρ).lift ρ fun ds => .ret (.nx ((ρ.set i (.d d)).set j (.own ds))) := rfl
end Wb

set_option Elab.async false
set_option linter.all false
set_option maxRecDepth 100000
set_option maxHeartbeats 4000000
/-! Wb, part 39: targets within targets. -/
namespace Wb
open PySem PySem.Spec PyProof.Rows L2 RZ
mutual
inductive Tgt where
  | nm (i : Nat)
  | tp (l : Tgts)
inductive Tgts where
  | nil
  | cons (t : Tgt) (l : Tgts)
end
mutual
def bT : Tgt → D → Env' → Option Env'
  | .nm i, d, ρ => some (ρ.set i (.d d))
  | .tp l, d, ρ => match d with
    | .tuple ds => bTs l ds ρ
    | _ => none
def bTs : Tgts → List D → Env' → Option Env'
  | .nil, [], ρ => some ρ
  | .cons t l, d :: ds, ρ => match bT t d ρ with
    | some ρ' => bTs l ds ρ'
    | none => none
  | .nil, _ :: _, _ => none
  | .cons _ _, [], _ => none
end
def Tgts.len : Tgts → Nat
  | .nil => 0
  | .cons _ l => l.len + 1
mutual
def Tgt.js : Tgt → List Nat
  | .nm i => [i]
  | .tp l => l.js
def Tgts.js : Tgts → List Nat
  | .nil => []
  | .cons t l => t.js ++ l.js
end
mutual
def gT (K : PySem.W.Frag) : Tgt → TG
  | .nm i => gName i
  | .tp l => gTup K l.len (gTs K l)
def gTs (K : PySem.W.Frag) : Tgts → TGs
  | .nil => gNil
  | .cons t l => gCons (gT K t) (gTs K l)
end
@[simp] theorem bT_nm {i : Nat} {d : D} {ρ : Env'} : bT (.nm i) d ρ = some (ρ.set i (.d d)) := by simp [bT]
@[simp] theorem bT_tp {l : Tgts} {ds : List D} {ρ : Env'} : bT (.tp l) (.tuple ds) ρ = bTs l ds ρ := by simp [bT]
@[simp] theorem bTs_nil {ρ : Env'} : bTs .nil [] ρ = some ρ := by simp [bTs]
@[simp] theorem bTs_cons {t : Tgt} {l : Tgts} {d : D} {ds : List D} {ρ : Env'} : bTs (.cons t l) (d :: ds) ρ = (bT t d ρ).bind fun ρ' => bTs l ds ρ' := by
  simp only [bTs]
  cases bT t d ρ <;> rfl
theorem bTs_len : ∀ {l : Tgts} {ds : List D} {ρ ρ' : Env'}, bTs l ds ρ = some ρ' → ds.length = l.len
  | .nil, [], _, _, _ => rfl
  | .cons t l, d :: ds, ρ, ρ', e => by
    simp only [bTs] at e
    split at e
    · simp [Tgts.len, bTs_len (l := l) e]
    · cases e
  | .nil, _ :: _, _, _, e => by simp [bTs] at e
  | .cons _ _, [], _, _, e => by simp [bTs] at e
section
variable {g : Ct} {K : PySem.W.Frag}
mutual
theorem sr_T {β : Box} {A B C H0 H : Hp} : ∀ {t : Tgt} {v : V} {d : D} {ρ ρ' : Env'} {σ : L2.St} {Q : L2.St → Hp → Prop}, SR g β A B C H0 ρ σ H → Has H0 v d → bT t d ρ = some ρ' → (∀ σ', SR g β A B C H0 ρ' σ' H → Q σ' H) → gT K t v σ H Q
  | .nm i, v, d, ρ, ρ', σ, Q, r, hv, e, q => by
    rw [bT_nm] at e
    cases e
    rw [gT]
    exact q _ (r.setD hv)
  | .tp l, v, d, ρ, ρ', σ, Q, r, hv, e, q => by
    rw [gT]
    cases hv with
    | tup h1 h2 =>
      rw [bT_tp] at e
      refine ⟨_, _, rfl, SqT.of (r.rel.ext _ _ h1), ?_, sr_Ts r h2 e q⟩
      rw [h2.length, bTs_len e]
    | _ => simp [bT] at e
theorem sr_Ts {β : Box} {A B C H0 H : Hp} : ∀ {l : Tgts} {ds : List D} {vs : List V} {ρ ρ' : Env'} {σ : L2.St} {Q : L2.St → Hp → Prop}, SR g β A B C H0 ρ σ H → HasL H0 vs ds → bTs l ds ρ = some ρ' → (∀ σ', SR g β A B C H0 ρ' σ' H → Q σ' H) → gTs K l vs σ H Q
  | .nil, [], vs, ρ, ρ', σ, Q, r, hl, e, q => by
    rw [bTs_nil] at e
    cases e
    cases hl
    rw [gTs]
    exact ⟨rfl, q σ r⟩
  | .cons t l, d :: ds, vs, ρ, ρ', σ, Q, r, hl, e, q => by
    cases hl with
    | @cons v vs _ _ h1 h2 =>
      simp only [bTs] at e
      split at e
      · next ρ1 e1 =>
        rw [gTs]
        exact ⟨v, vs, rfl, sr_T (t := t) r h1 e1 fun σ' r' => sr_Ts (l := l) r' h2 e q⟩
      · cases e
  | .nil, _ :: _, _, _, _, _, _, _, _, e, _ => by simp [bTs] at e
  | .cons _ _, [], _, _, _, _, _, _, _, e, _ => by simp [bTs] at e
end
theorem b_T {t : Tgt} : PB K g (gT K t) (bT t) := fun r hv e q => sr_T r hv e q
mutual
theorem gT_of {β : Box} {H0 H : Hp} : ∀ {t : Tgt} {d : D} {v : V} {ρ ρ' : Env'} {σ : L2.St} {Q : L2.St → Hp → Prop}, Rel g.cad β g.ξ H0 ρ σ H → Has H0 v d → bT t d ρ = some ρ' →
    (∀ σ', Rel g.cad β g.ξ H0 ρ' σ' H → (∀ ws : List Nat, (∀ j ∈ t.js, j ∈ ws) → wipe σ' ws = wipe σ ws) → OwnSub ρ σ ρ' σ' → Q σ' H) → gT K t v σ H Q
  | .nm i, d, v, ρ, ρ', σ, Q, r, hv, e, q => by
    rw [bT_nm] at e
    cases e
    rw [gT]
    exact q _ (r.setD hv) (fun vs hj => wipe_set (hj i (by simp [Tgt.js]))) OwnSub.set
  | .tp l, d, v, ρ, ρ', σ, Q, r, hv, e, q => by
    rw [gT]
    cases hv with
    | tup h1 h2 =>
      rw [bT_tp] at e
      refine ⟨_, _, rfl, SqT.of (r.ext _ _ h1), ?_, gTs_of r h2 e fun σ' r' w' o' => q σ' r' (fun ws hw => w' ws fun j hj => hw j (by simpa [Tgt.js] using hj)) o'⟩
      rw [h2.length, bTs_len e]
    | _ => simp [bT] at e
theorem gTs_of {β : Box} {H0 H : Hp} : ∀ {l : Tgts} {ds : List D} {vs : List V} {ρ ρ' : Env'} {σ : L2.St} {Q : L2.St → Hp → Prop}, Rel g.cad β g.ξ H0 ρ σ H → HasL H0 vs ds → bTs l ds ρ = some ρ' →
    (∀ σ', Rel g.cad β g.ξ H0 ρ' σ' H → (∀ ws : List Nat, (∀ j ∈ l.js, j ∈ ws) → wipe σ' ws = wipe σ ws) → OwnSub ρ σ ρ' σ' → Q σ' H) → gTs K l vs σ H Q
  | .nil, [], vs, ρ, ρ', σ, Q, r, hl, e, q => by
    rw [bTs_nil] at e
    cases e
    cases hl
    rw [gTs]
    exact ⟨rfl, q σ r (fun _ _ => rfl) fun _ _ _ a b => ⟨a, b⟩⟩
  | .cons t l, d :: ds, vs, ρ, ρ', σ, Q, r, hl, e, q => by
    cases hl with
    | @cons v vs _ _ h1 h2 =>
      simp only [bTs] at e
      split at e
      · next ρ1 e1 =>
        rw [gTs]
        refine ⟨v, vs, rfl, gT_of (t := t) r h1 e1 fun σ1 r1 w1 o1 => gTs_of (l := l) r1 h2 e fun σ' r' w' o' => q σ' r' (fun ws hw => ?_) (o1.trans o')⟩
        rw [w' ws (fun j hj => hw j (by simp [Tgts.js, hj])), w1 ws (fun j hj => hw j (by simp [Tgts.js, hj]))]
      · cases e
  | .nil, _ :: _, _, _, _, _, _, _, _, e, _ => by simp [bTs] at e
  | .cons _ _, [], _, _, _, _, _, _, _, e, _ => by simp [bTs] at e
end
end
section
variable {X : Cx} {g : Ct}
theorem g_T {t : Tgt} {e : Expr} (h : PG X e (gT X.K t)) : PG X e (tG g t.js (bT t)) := h.imp fun v σ H Q ⟨β, H0, ρ, d, ρ', rr, hv, e, q⟩ => gT_of rr hv e q
end
end Wb

set_option Elab.async false
set_option linter.all false
set_option maxRecDepth 100000
set_option maxHeartbeats 4000000
/-! Wb, part 40: loops that many programs share: judging each item, a running sum of products. -/
namespace Wb
open PySem PySem.Spec PyProof.Rows L2
theorem bnd_go {mw : List Ar → T D} (hw : ∀ (v : D) (lo hi : Int), mw [.d v, .d (.int lo), .d (.int hi)] = .ret (.bool (inR lo hi v))) {n v : D} {m : Int} : ∀ (xs : List D) (s : Sl),
    (xs.all (inR (-m) m) = true → ∃ s', forGo (bName 3) (sIf (eUn oNot (eCall 3 mw (aCons (eV 3) (aCons (eUn oNeg (eV 2)) (aCons (eV 2) aNil))))) (sRet (eC (.bool false))) sNil) xs [.d n, .d v, .d (.int m), s] = .ret (.nx [.d n, .d v, .d (.int m), s'])) ∧
    (xs.all (inR (-m) m) = false → forGo (bName 3) (sIf (eUn oNot (eCall 3 mw (aCons (eV 3) (aCons (eUn oNeg (eV 2)) (aCons (eV 2) aNil))))) (sRet (eC (.bool false))) sNil) xs [.d n, .d v, .d (.int m), s] = .ret (.ret (.bool false)))
  | [], s => ⟨fun _ => ⟨s, rfl⟩, fun h => by cases h⟩
  | x :: r, s => by
    have ih := bnd_go hw (n := n) (v := v) (m := m) r (.d x)
    have e := hw x (-m) m
    rw [List.all_cons]
    cases hx : inR (-m) m x with
    | true =>
      rw [hx] at e
      simp only [Bool.true_and]
      refine ⟨fun h => ?_, fun h => ?_⟩
      · obtain ⟨s', h'⟩ := ih.1 h
        refine ⟨s', ?_⟩
        unfold forGo
        simp [e, h']
      · have h' := ih.2 h
        unfold forGo
        simp [e, h']
    | false =>
      rw [hx] at e
      refine ⟨fun h => (nomatch h), fun _ => ?_⟩
      unfold forGo
      simp [e]
theorem dotA_go {u v : D} : ∀ (ps : List (Int × Int)) (t : Int) (s1 s2 : Sl), (∀ p ∈ ps, p.1.natAbs < 18446744073709551616 ∨ p.2.natAbs < 18446744073709551616) →
    ∃ s1' s2', forGo (bTup [3, 4]) (sAug 2 (fun x y => x + y) (eBin oMul (eV 3) (eV 4))) (ps.map fun p => .tuple [.int p.1, .int p.2]) [.d u, .d v, .d (.int t), s1, s2] = .ret (.nx [.d u, .d v, .d (.int (t + (ps.map fun p => p.1 * p.2).sum)), s1', s2'])
  | [], t, s1, s2, _ => ⟨s1, s2, by simp [forGo]⟩
  | p :: r, t, s1, s2, h => by
    obtain ⟨s1', s2', ih⟩ := dotA_go (u := u) (v := v) r (t + p.1 * p.2) (.d (.int p.1)) (.d (.int p.2)) fun q hq => h q (List.mem_cons_of_mem _ hq)
    have e : oMul (.int p.1) (.int p.2) = .ret (.int (p.1 * p.2)) := by
      rcases h p (List.mem_cons_self ..) with h1 | h1
      · exact mul_ints h1
      · exact mul_ints' h1
    refine ⟨s1', s2', ?_⟩
    rw [List.map_cons]
    unfold forGo
    simp [e, ih, sAug, Int.add_assoc]
end Wb

set_option Elab.async false
set_option linter.all false
set_option maxRecDepth 100000
set_option maxHeartbeats 4000000
/-! Wb, part 41: the least and the greatest of a list of alike data (pairs, say). -/
namespace Wb
open PySem PySem.Spec PyProof.Rows L2 RZ
def rMinA (K : PySem.W.Frag) : List V → Hp → VK → Prop := fun xs H Q => ∃ (a : Addr) (vs : List V) (x : PyData) (ds : List PyData), xs = [V.ref a] ∧ SqL K H a vs ∧ DpAll K H vs (x :: ds) ∧ PySem.W.AlikeAll (x :: ds) ∧
  SeqAt.shaped (.list (x :: ds)) = true ∧ ∀ (i : Nat) (v : V), vs[i]? = some v → (x :: ds)[i]? = some (PySem.W.minD x ds) → Q v H
def rMaxA (K : PySem.W.Frag) : List V → Hp → VK → Prop := fun xs H Q => ∃ (a : Addr) (vs : List V) (x : PyData) (ds : List PyData), xs = [V.ref a] ∧ SqL K H a vs ∧ DpAll K H vs (x :: ds) ∧ PySem.W.AlikeAll (x :: ds) ∧
  SeqAt.shaped (.list (x :: ds)) = true ∧ ∀ (i : Nat) (v : V), vs[i]? = some v → (x :: ds)[i]? = some (PySem.W.maxD x ds) → Q v H
theorem minD_mem : ∀ (ds : List PyData) (x : PyData), PySem.W.minD x ds ∈ x :: ds
  | [], x => List.mem_cons_self ..
  | d :: r, x => by
    have h := minD_mem r (if PySem.W.dataLt d x then d else x)
    show PySem.W.minD (if PySem.W.dataLt d x then d else x) r ∈ x :: d :: r
    rcases List.mem_cons.mp h with e | e
    · rw [e]
      split <;> simp
    · exact List.mem_cons_of_mem _ (List.mem_cons_of_mem _ e)
theorem maxD_mem : ∀ (ds : List PyData) (x : PyData), PySem.W.maxD x ds ∈ x :: ds
  | [], x => List.mem_cons_self ..
  | d :: r, x => by
    have h := maxD_mem r (if PySem.W.dataLt x d then d else x)
    show PySem.W.maxD (if PySem.W.dataLt x d then d else x) r ∈ x :: d :: r
    rcases List.mem_cons.mp h with e | e
    · rw [e]
      split <;> simp
    · exact List.mem_cons_of_mem _ (List.mem_cons_of_mem _ e)
theorem canLayAll_mem : ∀ {xs : List PyData} {x : PyData}, PyData.canLayAll0 xs = true → x ∈ xs → x.canLay0 = true
  | y :: r, x, h, m => by
    simp only [PyData.canLayAll0, Bool.and_eq_true] at h
    rcases List.mem_cons.mp m with rfl | m
    · exact h.1
    · exact canLayAll_mem h.2 m
theorem itemA {X : Cx} {pins : List (Addr × Obj)} {s : Shared} {σ : L2.St} {H : Hp} {vs : List V} {its : List Value} {xs : List PyData} {m : PyData} {as : List Addr} {Q : VK} (I : Inv X pins σ H s) (rv : Vals vs its) (hx : PyData.canLayAll0 xs = true) (hr : ReadsAll s.heap its xs as)
    (mm : m ∈ xs) (q : ∀ (i : Nat) (v : V), vs[i]? = some v → xs[i]? = some m → Q v H) {i : Nat} {v : Value} {h' : Heap} {tk : Tok} {bs : List Addr} (hi : its.toArray[i]? = some v) (r : Reads h' v m bs) (hk : ∀ b o, s.heap.get? b = some o → h'.get? b = some o) :
    EP X pins σ Q v { s with heap := h', toks := tk } := by
  have hi' : its[i]? = some v := by simpa using hi
  have hl := rv.length
  obtain ⟨li, _⟩ := List.getElem?_eq_some_iff.mp hi'
  have lv : i < vs.length := by omega
  have ev : vs[i]? = some vs[i] := List.getElem?_eq_getElem lv
  obtain ⟨u, hu, ru⟩ := rv.get ev
  rw [hi'] at hu
  cases hu
  obtain ⟨bs', rd, lt, _, _⟩ := PySem.W.readsAll_atA (vs := its.toArray) (show ReadsAll s.heap its.toArray.toList xs as from hr) i v hi
  have hd : xs[i]? = some (xs.getD i .none) := by
    rw [List.getElem?_eq_getElem lt, List.getD_eq_getElem?_getD, List.getElem?_eq_getElem lt]
    rfl
  generalize xs.getD i .none = d at rd hd
  have c1 := canLayAll_mem hx (List.mem_of_getElem? hd)
  have c2 := canLayAll_mem hx mm
  have e1 := SeqAt.readOf_eq c2 r
  have e2 := SeqAt.readOf_eq c1 (PySem.W.reads_keeps hk rd)
  rw [e1] at e2
  subst e2
  exact ⟨vs[i], H, I.kept hk, ru, q i vs[i] ev hd⟩
theorem cr_minA {X : Cx} (hc : X.calm = true) (hu : X.A.units + 65 < cLine) : CallR X (.builtin "min") (rMinA X.K) := by
  intro pins s σ H xs us Q I r h
  obtain ⟨a, vs, x, ds, rfl, hs, hd, al, sh, q⟩ := h
  obtain ⟨its, rv, hl, hlen⟩ := I.list hs
  rw [Vals.ref1 r]
  obtain ⟨as, h4⟩ := Dp.readsAll I (x :: ds) _ its hd rv
  have hx : PyData.canLayAll0 (x :: ds) = true := SeqAt.canLay_of_shaped sh
  have hroom : X.A.units + 1 + PyData.depthAll (x :: ds) < cLine := by
    have h3 := SeqAt.depth_of_shaped sh
    simp only [PyData.depth] at h3
    omega
  exact PySem.W.min_list_data (vs := its.toArray) (I.ok.hd hc) hl.isList (show ReadsAll s.heap its.toArray.toList (x :: ds) as from h4) al hroom fun i v h' tk bs hi hr hk => itemA I rv hx h4 (minD_mem ds x) q hi hr hk
theorem cr_maxA {X : Cx} (hc : X.calm = true) (hu : X.A.units + 65 < cLine) : CallR X (.builtin "max") (rMaxA X.K) := by
  intro pins s σ H xs us Q I r h
  obtain ⟨a, vs, x, ds, rfl, hs, hd, al, sh, q⟩ := h
  obtain ⟨its, rv, hl, hlen⟩ := I.list hs
  rw [Vals.ref1 r]
  obtain ⟨as, h4⟩ := Dp.readsAll I (x :: ds) _ its hd rv
  have hx : PyData.canLayAll0 (x :: ds) = true := SeqAt.canLay_of_shaped sh
  have hroom : X.A.units + 1 + PyData.depthAll (x :: ds) < cLine := by
    have h3 := SeqAt.depth_of_shaped sh
    simp only [PyData.depth] at h3
    omega
  exact PySem.W.max_list_data (vs := its.toArray) (I.ok.hd hc) hl.isList (show ReadsAll s.heap its.toArray.toList (x :: ds) as from h4) al hroom fun i v h' tk bs hi hr hk => itemA I rv hx h4 (maxD_mem ds x) q hi hr hk
def alikeB (xs : List D) : Bool := xs.all fun a => (match a with
  | .none => false
  | _ => true) && xs.all fun b => PySem.W.alike a b
theorem alikeB_of {xs : List D} (h : alikeB xs = true) : PySem.W.AlikeAll xs := by
  unfold alikeB at h
  rw [List.all_eq_true] at h
  refine ⟨fun x hx y hy => ?_, fun x hx e => ?_⟩
  · have := h x hx
    rw [Bool.and_eq_true, List.all_eq_true] at this
    exact this.2 y hy
  · have := h x hx
    rw [Bool.and_eq_true, e] at this
    exact absurd this.1 (by simp)
def oMinA : D → T D
  | .list (x :: ds) => if (alikeB (x :: ds) && cEq (.list (x :: ds))) = true then .ret (PySem.W.minD x ds) else .bad
  | _ => .bad
def oMaxA : D → T D
  | .list (x :: ds) => if (alikeB (x :: ds) && cEq (.list (x :: ds))) = true then .ret (PySem.W.maxD x ds) else .bad
  | _ => .bad
theorem d_minA {K : PySem.W.Frag} : CaD (rMinA K) (o1 oMinA) := by
  apply d_1
  intro β H0 H v x Q E e ok bf hv q
  cases hv with
  | @lst a xs ds h1 h2 =>
    cases ds with
    | nil => exact q.elim
    | cons d ds =>
      have q : (if (alikeB (d :: ds) && cEq (.list (d :: ds))) = true then T.ret (PySem.W.minD d ds) else .bad).wp _ _ := q
      split at q
      · next c =>
        rw [Bool.and_eq_true] at c
        obtain ⟨b1, b2⟩ := cEq_of c.2
        refine ⟨_, xs, d, ds, rfl, SqL.of (e _ _ h1), HasL.dp e h2 b1, alikeB_of c.1, b2, fun i v hi hd => ?_⟩
        obtain ⟨d', hd', hh⟩ := h2.get hi
        rw [hd] at hd'
        cases hd'
        exact out_ret e ok bf hh q
      · exact q.elim
  | _ => exact q.elim
theorem d_maxA {K : PySem.W.Frag} : CaD (rMaxA K) (o1 oMaxA) := by
  apply d_1
  intro β H0 H v x Q E e ok bf hv q
  cases hv with
  | @lst a xs ds h1 h2 =>
    cases ds with
    | nil => exact q.elim
    | cons d ds =>
      have q : (if (alikeB (d :: ds) && cEq (.list (d :: ds))) = true then T.ret (PySem.W.maxD d ds) else .bad).wp _ _ := q
      split at q
      · next c =>
        rw [Bool.and_eq_true] at c
        obtain ⟨b1, b2⟩ := cEq_of c.2
        refine ⟨_, xs, d, ds, rfl, SqL.of (e _ _ h1), HasL.dp e h2 b1, alikeB_of c.1, b2, fun i v hi hd => ?_⟩
        obtain ⟨d', hd', hh⟩ := h2.get hi
        rw [hd] at hd'
        cases hd'
        exact out_ret e ok bf hh q
      · exact q.elim
  | _ => exact q.elim
end Wb

set_option Elab.async false
set_option linter.all false
set_option maxRecDepth 100000
set_option maxHeartbeats 4000000
/-! Wb, part 42: texts of reprs as items that are compared. -/
namespace Wb
open PySem PySem.Spec PyProof.Rows L2
/-- the text of this datum holds no sign beyond those that there are -/
def Low (d : D) : Prop := ∀ k : Nat, 1114112 ≤ k → k ∉ d.shown.cps.toList
theorem low_int (i : Int) : Low (.int i) := fun k hk => shown_int_free' (by omega) i
theorem low_none : Low .none := fun k hk hm => by
  rw [PyData.shown_none] at hm
  have e : (("None" : String) : Str).cps.toList = [78, 111, 110, 101] := by decide
  rw [e] at hm
  simp only [List.mem_cons, List.not_mem_nil, or_false] at hm
  omega
theorem low_bool (b : Bool) : Low (.bool b) := fun k hk hm => by
  rw [PyData.shown_bool] at hm
  cases b
  · have e : (Str.ofString "False").cps.toList = [70, 97, 108, 115, 101] := by decide
    have hm : k ∈ (Str.ofString "False").cps.toList := hm
    rw [e] at hm
    simp only [List.mem_cons, List.not_mem_nil, or_false] at hm
    omega
  · have e : (Str.ofString "True").cps.toList = [84, 114, 117, 101] := by decide
    have hm : k ∈ (Str.ofString "True").cps.toList := hm
    rw [e] at hm
    simp only [List.mem_cons, List.not_mem_nil, or_false] at hm
    omega
theorem low_join {k : Nat} (hk : 1114112 ≤ k) {ts : List Str} (h : ∀ t ∈ ts, k ∉ t.cps.toList) : k ∉ (Str.join ", " ts).cps.toList := fun hm => by
  rw [mem_join] at hm
  rcases hm with ⟨t, ht, hc⟩ | ⟨_, hc⟩
  · exact h t ht hc
  · have e : ((", " : String) : Str).cps.toList = [44, 32] := by decide
    rw [e] at hc
    simp only [List.mem_cons, List.not_mem_nil, or_false] at hc
    omega
theorem low_tuple {xs : List D} (h : ∀ x ∈ xs, Low x) : Low (.tuple xs) := fun k hk hm => by
  rw [PyData.shown_tuple, mem_cps_append, mem_cps_append] at hm
  have e1 : (("(" : String) : Str).cps.toList = [40] := by decide
  have e2 : ((",)" : String) : Str).cps.toList = [44, 41] := by decide
  have e3 : ((")" : String) : Str).cps.toList = [41] := by decide
  rcases hm with (hm | hm) | hm
  · rw [e1] at hm
    simp only [List.mem_cons, List.not_mem_nil, or_false] at hm
    omega
  · exact low_join hk (shownAll_free fun x hx => h x hx k hk) hm
  · split at hm
    · rw [e2] at hm
      simp only [List.mem_cons, List.not_mem_nil, or_false] at hm
      omega
    · rw [e3] at hm
      simp only [List.mem_cons, List.not_mem_nil, or_false] at hm
      omega
theorem low_list {xs : List D} (h : ∀ x ∈ xs, Low x) : Low (.list xs) := fun k hk hm => by
  rw [PyData.shown_list, mem_cps_append, mem_cps_append] at hm
  have e1 : (("[" : String) : Str).cps.toList = [91] := by decide
  have e2 : (("]" : String) : Str).cps.toList = [93] := by decide
  rcases hm with (hm | hm) | hm
  · rw [e1] at hm
    simp only [List.mem_cons, List.not_mem_nil, or_false] at hm
    omega
  · exact low_join hk (shownAll_free fun x hx => h x hx k hk) hm
  · rw [e2] at hm
    simp only [List.mem_cons, List.not_mem_nil, or_false] at hm
    omega
theorem low_vec (ns : List Int) : Low (vecD ns) := low_tuple fun x hx => by
  obtain ⟨n, _, rfl⟩ := List.mem_map.mp hx
  exact low_int n
theorem Low.ok {d : D} (h : Low d) : PyData.strOk d.shown = true := by
  unfold PyData.strOk
  rw [← Array.all_toList, List.all_eq_true]
  intro k hk
  rw [decide_eq_true_eq]
  exact Nat.lt_of_not_le fun z => h k z hk
theorem cEq_strs {xs : List Str} (h : ∀ x ∈ xs, PyData.strOk x = true) : cEq (.list (xs.map PyData.str)) = true := by
  have h1 : ∀ xs : List Str, (∀ x ∈ xs, PyData.strOk x = true) → PyData.hasDictAll (xs.map PyData.str) = false ∧ PyData.canLayAll0 (xs.map PyData.str) = true ∧ PyData.depthAll (xs.map PyData.str) ≤ 1 := by
    intro xs
    induction xs with
    | nil => exact fun _ => ⟨rfl, rfl, Nat.zero_le _⟩
    | cons x r ih =>
      intro h
      obtain ⟨a, b, c⟩ := ih fun y hy => h y (List.mem_cons_of_mem _ hy)
      have hx := h x (List.mem_cons_self ..)
      refine ⟨?_, ?_, ?_⟩
      · simp only [List.map_cons, PyData.hasDictAll, a, PyData.hasDict, Bool.or_self]
      · simp only [List.map_cons, PyData.canLayAll0, b, PyData.canLay0, hx, Bool.and_self]
      · simp only [List.map_cons, PyData.depthAll, PyData.depth]
        omega
  obtain ⟨a, b, c⟩ := h1 xs h
  unfold cEq SeqAt.shaped
  simp only [PyData.hasDict, PyData.canLay0, PyData.depth, a, b, Bool.not_false, Bool.true_and]
  exact decide_eq_true (by omega)
end Wb

set_option Elab.async false
set_option linter.all false
set_option maxRecDepth 100000
set_option maxHeartbeats 4000000
/-! Wb, part 43: defs whose last parameter takes all that is left (`*rest`), their call. -/
namespace Wb
open PySem PySem.Spec PyProof.Rows L2 RZ
/-- what binding does: the rest goes into a new tuple -/
def BindV (fd : FuncData) (np : Nat) (ps : List Str) : Prop := ∀ us : List Value, np ≤ us.length → us.length ≤ np + 6 →
  bindArgs fd ⟨us, []⟩ = (do let t ← newTuple (us.drop np); pure (ps.zip (us.take np ++ [t])))
structure FnV (P : Program) (w : World) (K : PySem.W.Frag) (mg : Str → Option Value) (base : Heap) (cad : Cad) (k : Nat) (fa : Addr) (np : Nat) (m : List Ar → T D) : Prop where
  go : ∀ {X : Cx} {pins : List (Addr × Obj)} {s : Shared} {σ : L2.St} {H : Hp} {us : List Value} {vs : List V} {Q : VK} {W : WX}, X.prog = P → X.w = w → X.K = K → X.mg = mg → X.base = base → Room k X.A → X.A.guards = some [] → Takes X W → Inv X pins σ H s → Vals vs us → np ≤ vs.length → vs.length ≤ np + 6 →
    (∀ p, H p = none → spD cad (np + 1) m (vs.take np ++ [.ref p]) (upd H p (.tup (vs.drop np))) Q (fun c d H' => W c d σ H')) → wpAny (model X.prog X.w) X.A (call (.ref fa) us) (EP X pins σ Q) X.xe s
theorem bindV_of {K : PySem.W.Frag} {x qual : Str} {st : Stmt} {f : Addr} {fd : FuncData} {np : Nat} {ps : List Str} (Fu : Fun K x qual st f fd)
    (h : ∀ (kV doc pm : Value) (an : Option Addr) (cdv ct : Value), BindV (PySem.W.fnOf x qual (defArgs st) (defBody st) (defScope st) .none kV doc pm an cdv ct) np ps) : BindV fd np ps := by
  obtain ⟨oc, od, kV, doc, pm, an, cdv, ct, osl, rfl, lk, hcd⟩ := Fu.ex
  exact h kV doc pm an cdv ct
theorem Vals.takeV : ∀ {vs : List V} {us : List Value} (n : Nat), Vals vs us → Vals (vs.take n) (us.take n)
  | _, _, 0, _ => .nil
  | _, _, _ + 1, .nil => .nil
  | _, _, n + 1, .cons h r => .cons h (Vals.takeV n r)
theorem Vals.dropV : ∀ {vs : List V} {us : List Value} (n : Nat), Vals vs us → Vals (vs.drop n) (us.drop n)
  | _, _, 0, r => r
  | _, _, _ + 1, .nil => .nil
  | _, _, n + 1, .cons _ r => Vals.dropV n r
theorem FnV.ofD {P : Program} {w : World} {K : PySem.W.Frag} {mg : Str → Option Value} {base : Heap} {cad : Cad} {x qual : Str} {st : Stmt} {fa : Addr} {fd : FuncData} {N ps : List Str} {k np : Nat} {F : Env' → T Fl} (Fu : Fun K x qual st fa fd) (S : FnScope N ps (defScope st)) (hp : ps.length = np + 1)
    (hv : BindV fd np ps)
    (hbody : ∀ (cdv : Value) (A : Around) (outer : List Env) (s : Shared) (H : Hp) (E : XK), Room k (A.deeper (envOfC qual (defScope st) s.heap.objs.size fa cdv)) → (A.deeper (envOfC qual (defScope st) s.heap.objs.size fa cdv)).guards = some [] →
      PSs (bodyX P w K mg base N qual st fa cdv A outer s H E) (defBody st) (tS ⟨cad, none, fun c d _ H' => E c d H', fun _ _ _ => True⟩ F)) :
    FnV P w K mg base cad (k + 1) fa np (mkDef N.length F) := by
  obtain ⟨oc, od, kV, doc, pm, an, cdv, ct, osl, rfl, lk, hcd⟩ := Fu.ex
  refine ⟨fun {X pins s σ H us vs Q W} eP ew eK em eb room noG tk I rv l0 l1 hsp => ?_⟩
  subst eP ew eK em eb
  have lu := rv.length
  have hK : X.K.In s.heap := I.kIn
  obtain ⟨Nn, hN⟩ : ∃ n : Nat, n = s.heap.objs.size := ⟨_, rfl⟩
  have f0 : H Nn = none := by
    rw [hN]
    exact I.hok.fresh (Nat.le_refl _)
  have hq := hsp Nn f0
  have ld : (us.drop np).length ≤ sizeLine := by
    rw [List.length_drop, sizeLine_eq]
    omega
  obtain ⟨s1, hs1⟩ : ∃ s1 : Shared, s1 = { s with heap := s.heap.push { cls := .type "tuple", data := .seq (us.drop np).toArray } } := ⟨_, rfl⟩
  have I1 : Inv X pins σ (upd H Nn (.tup (vs.drop np))) s1 := by
    rw [hs1]
    have := I.laid (a := Nn) (o := .tup (vs.drop np)) (h' := s.heap.push { cls := .type "tuple", data := .seq (us.drop np).toArray }) (t' := s.toks) (fun b u z => Heap.get?_push_of_some _ z) (by rw [hN]; exact Nat.le_refl _) ⟨by
      have e := (Vals.dropV np rv).length
      rw [e]
      exact ld, us.drop np, Vals.dropV np rv, ⟨_, by rw [hN]; exact Heap.get?_push_size _ rfl, rfl, _, rfl⟩⟩
    exact this
  have e0 := I1.env0
  have rv1 : Vals (vs.take np ++ [.ref Nn]) (us.take np ++ [.ref Nn]) := Vals.append (Vals.takeV np rv) (.cons rfl .nil)
  have lenV : (vs.take np ++ [V.ref Nn]).length = ps.length := by
    rw [List.length_append, List.length_take, List.length_singleton, hp]
    omega
  have ran : codeAny (model X.prog X.w) X.A (.call (.ref fa) ⟨us, []⟩) (CR (L2.CX X.prog X.w) X.stack X.prog X.w (upd H Nn (.tup (vs.drop np))) s1 Q (fun c d H' => W c d σ H')) s := by
    have hK1 : X.K.In s1.heap := I1.kIn
    have noLim : s1.heap.NoLimit := e0.mod.nolimit.keeps (fun b o z => (e0.bs b o z).1)
    have kinds : ∀ y ∈ ps.zip (us.take np ++ [.ref Nn]), (defScope st).names.lookup y.1 = some .local ∨
        ((defScope st).names.lookup y.1 = some .cell ∧ ((cellsFrom (s1.heap.objs.size + 1) (defScope st).names []).lookup y.1).isSome = true) := by
      rintro ⟨n, v⟩ hy
      have hn := (List.of_mem_zip hy).1
      cases S.par n hn with
      | inl q => exact Or.inl q
      | inr q => exact Or.inr ⟨q, PySem.W.cellsFrom_some _ _ _ (Or.inl q)⟩
    refine codeAny_call_function room.depth (hK _ _ lk) rfl S.co S.gen rfl (PySem.W.codeRec_of hK hcd) ?_
    rw [hv us (by omega) (by omega)]
    refine wpAny_bind (wpAny_newTuple ?_ ld)
    refine wpAny_pure ?_
    rw [← hs1, ← hN]
    apply wpAny_newFunctionEnv_cells S.kind kinds
    intro env henv s2 born
    subst henv
    refine ⟨noLim.keeps born.toInCall.keep, codeAny_func ?_⟩
    have noG' : (X.A.deeper (envOfC qual (defScope st) s1.heap.objs.size fa cdv)).guards = some [] := noG
    have hb := hbody cdv X.A X.stack s1 (upd H Nn (.tup (vs.drop np))) (fun c d H' => W c d σ H') (room.deeper _) noG'
    have I0 := inv_start (CX := L2.CX X.prog X.w) (K := X.K) (E := fun c d H' => W c d σ H') S room.hd e0 lenV rv1 born
    have hst : tS ⟨cad, none, fun c d _ H' => W c d σ H', fun _ _ _ => True⟩ F { nx := fun _ H' => Q .non H', rt := Q } (L2.start N (vs.take np ++ [.ref Nn])) (upd H Nn (.tup (vs.drop np))) := by
      obtain ⟨_, β, H0, as, e, ok, bf, tb, ha, q⟩ := hq
      refine ⟨β, H0, _, H0, H0, startE N.length as, ⟨rel_start e ok bf tb ha, Stp.refl e ok bf, fun _ _ z => z, trivial, fun i xs p a => ?_⟩, T.wp_mono (fun fl z => ?_) (fun x z => z) _ ((T.wp_run _).mp q)⟩
      · intro _
        exfalso
        unfold startE at a
        rw [List.getElem?_append] at a
        split at a
        · rw [List.getElem?_map] at a
          cases q : as[i]? with
          | none =>
            rw [q] at a
            cases a
          | some z =>
            rw [q] at a
            cases z <;> cases a
        · rw [List.getElem?_replicate] at a
          split at a <;> cases a
      · cases fl with
        | nx ρ' => exact fun σ' H0' H' r => z .non H0' H' r.st .non
        | ret d => exact z
        | exc y ρ' => exact fun c dx σ' H0' H' r he => z c dx H0' H' r.st he
        | brk _ => exact z.elim
        | cnt _ => exact z.elim
    have done := hb.run [] s2 (L2.start N (vs.take np ++ [.ref Nn])) _ _ I0 hst
    refine wpAny_mono done (fun fl s' res => ?_) (fun e s' res => res)
    cases fl with
    | next =>
      obtain ⟨σ', H', J, q⟩ := res
      exact ⟨V.non, H', J.os, J.bare, J.base, J.hok, rfl, q⟩
    | ret u =>
      obtain ⟨v, σ', H', J, rv, q⟩ := res
      exact ⟨v, H', J.os, J.bare, J.base, J.hok, rv, q⟩
    | brk => exact res.elim fun _ z => z.elim fun _ z => z.2.elim
    | cont => exact res.elim fun _ z => z.elim fun _ z => z.2.elim
  refine wpAny_call (codeAny_mono ran fun res s' hres => ?_)
  match res, hres with
  | .ok (.ret u), z => exact I1.after z
  | .ok .next, z => exact z.elim
  | .ok .brk, z => exact z.elim
  | .ok .cont, z => exact z.elim
  | .error e, z => exact tk e s' (XE.of_call I1 (fun c d H' q => q) z)
theorem FnV.mono {P : Program} {w : World} {K : PySem.W.Frag} {mg : Str → Option Value} {base : Heap} {cad : Cad} {j k : Nat} {fa : Addr} {np : Nat} {m : List Ar → T D} (F : FnV P w K mg base cad j fa np m) (h : j ≤ k) : FnV P w K mg base cad k fa np m :=
  ⟨fun a b c d e hr => F.go a b c d e (hr.mono h)⟩
/-! ### its call -/
def starAs (np : Nat) (as : List Ar) : Option (List Ar) := match dsOf (as.drop np) with
  | some ds => some (as.take np ++ [.d (.tuple ds)])
  | none => none
def starC (np : Nat) (m : List Ar → T D) (as : List Ar) : T D := if np ≤ as.length ∧ as.length ≤ np + 6 then (match starAs np as with
  | some bs => m bs
  | none => .bad) else .bad
def eCallV (np : Nat) (m : List Ar → T D) (fs : Env' → T (List Ar)) : Env' → T D := fun ρ => (fs ρ).bind (starC np m)
theorem HasAs.takeA {β : Box} {H0 : Hp} : ∀ {vs : List V} {as : List Ar} (n : Nat), HasAs β H0 vs as → HasAs β H0 (vs.take n) (as.take n)
  | _, _, 0, _ => .nil
  | _, _, _ + 1, .nil => .nil
  | _, _, n + 1, .cons h r => .cons h (HasAs.takeA n r)
theorem HasAs.dropA {β : Box} {H0 : Hp} : ∀ {vs : List V} {as : List Ar} (n : Nat), HasAs β H0 vs as → HasAs β H0 (vs.drop n) (as.drop n)
  | _, _, 0, r => r
  | _, _, _ + 1, .nil => .nil
  | _, _, n + 1, .cons _ r => HasAs.dropA n r
theorem HasAs.snoc {β : Box} {H0 : Hp} {v : V} {a : Ar} (q : HasA β H0 v a) : ∀ {vs : List V} {as : List Ar}, HasAs β H0 vs as → HasAs β H0 (vs ++ [v]) (as ++ [a])
  | _, _, .nil => .cons q .nil
  | _, _, .cons h r => .cons h (HasAs.snoc q r)
structure CalV (P : Program) (w : World) (K : PySem.W.Frag) (mg : Str → Option Value) (base : Heap) (cad : Cad) (x : Str) (k np : Nat) (m : List Ar → T D) : Prop where
  ex : ∃ fa : Addr, FnV P w K mg base cad k fa np m ∧ mg x = some (.ref fa) ∧ PySem.W.keepIn K (.ref fa) = true
def tCallV (cad : Cad) (np : Nat) (m : List Ar → T D) (W : WX) (t : TA) : TE := fun σ H Q => t σ H fun vs H1 => np ≤ vs.length ∧ vs.length ≤ np + 6 ∧ ∀ p, H1 p = none → spD cad (np + 1) m (vs.take np ++ [.ref p]) (upd H1 p (.tup (vs.drop np))) Q (fun c d H' => W c d σ H')
theorem r_calV {X : Cx} {g : Ct} {a : Expr} {es : List Expr} {fs : Env' → T (List Ar)} {x : Str} {p pos : Pos} {j k np : Nat} {m : List Ar → T D} (C : CalV X.prog X.w X.K X.mg X.base g.cad x j np m) (hr : Room k X.A) (hjk : j ≤ k) (hgu : X.A.guards = some []) (hg : Gl X x) (tk : Takes X g.W) (ha : PA X (a :: es) (tA g fs))
    (hdb : (x == ("__debug__" : Str)) = false := by decide) (he : starEach (a :: es) X.env = (false, eval a X.env) :: starEach es X.env := by rfl) (hpl : (backTo pos (starEach es X.env)).any (·.1) = false := by rfl) :
    PE X (.Call (.Name x p) (a :: es) [] pos) (tE g (eCallV np m fs)) := by
  obtain ⟨fa, F, hm, hk⟩ := C.ex
  have pe : PE X (.Call (.Name x p) (a :: es) [] pos) (tCallV g.cad np m g.W (tA g fs)) := by
    constructor
    intro pins s σ H Q I h
    apply wpAny_Call_Name_kw
    apply ld_glob I hg hm _ hdb
    apply PySem.W.callWith_K (h₀ := X.base) I.ok.mod.kin hk _ he hpl
    refine thn (ha.run pos pins s σ H _ I h) ?_
    rintro us s1 ⟨vs, H1, I1, r, l0, l1, q⟩
    exact ⟨I1.kIn, F.go rfl rfl rfl rfl rfl (hr.mono hjk) hgu tk I1 r l0 l1 q⟩
  refine pe.imp fun σ H Q ⟨β, H0, ρ, rr, q⟩ => ?_
  refine tA_then (k := starC np m) rr q fun as vs H1 H2 st hv q1 => ?_
  unfold starC at q1
  split at q1
  · next c =>
    unfold starAs at q1
    have lv := hv.length
    split at q1
    · next bs e =>
      split at e
      · next ds hd =>
        cases e
        refine ⟨by omega, by omega, fun p0 hp0 => ?_⟩
        have hp1 : H1 p0 = none := st.ext.free hp0
        have st2 := Stp.new (o := .tup (vs.drop np)) st.ext st.ok st.boxf hp0
        have hd' := (HasAs.dropA np hv).ds (dsOf_some hd)
        refine ⟨by rw [List.length_append, List.length_take, List.length_singleton]; omega, β, _, _, st2.ext, st2.ok, st2.boxf, rr.tabs, HasAs.snoc ?_ ((HasAs.takeA np hv).mono st2.grow), wp_out st2 (wp_out st q1)⟩
        exact Has.tup upd_same (upd_has hp1 hd')
      · cases e
    · exact q1.elim
  · exact q1.elim
@[simp] theorem ev_callV {np : Nat} {m : List Ar → T D} {fs : Env' → T (List Ar)} {ρ : Env'} : eCallV np m fs ρ = (fs ρ).bind (starC np m) := rfl
end Wb

set_option Elab.async false
set_option linter.all false
set_option maxRecDepth 100000
set_option maxHeartbeats 4000000
/-! Wb, part 44: more lists of one's own: list(x), a slice; list(range(n)). -/
namespace Wb
open PySem PySem.Spec PyProof.Rows L2 RZ
def lOf (f : Env' → T D) : Env' → T (List D) := fun ρ => (f ρ).bind itemsD
def oSlL (x : D) (lo hi : Option Int) : T (List D) := match x with
  | .list xs => .ret (cutD xs lo hi)
  | _ => .bad
def lSl (f : Env' → T D) (l u : Env' → T (Option Int)) : Env' → T (List D) := fun ρ => (f ρ).bind fun x => (l ρ).bind fun lo => (u ρ).bind fun hi => oSlL x lo hi
@[simp] theorem oSlL_list {xs : List D} {lo hi : Option Int} : oSlL (.list xs) lo hi = .ret (cutD xs lo hi) := rfl
@[simp] theorem ev_lOf {f : Env' → T D} {ρ : Env'} : lOf f ρ = (f ρ).bind itemsD := rfl
@[simp] theorem ev_lSl {f : Env' → T D} {l u : Env' → T (Option Int)} {ρ : Env'} : lSl f l u ρ = (f ρ).bind fun x => (l ρ).bind fun lo => (u ρ).bind fun hi => oSlL x lo hi := rfl
section
variable {X : Cx} {g : Ct} {a b : Expr} {f h : Env' → T D} {pos : Pos} {st : Stmt} {β : Box} {A B C H0 H : Hp} {ρ : Env'} {σ : L2.St} {E : Ends}
theorem tO_lift {ff : Env' → T (Option Int)} {k : Option Int → T Fl} {Q : Option Int → Hp → Prop} (r : SR g β A B C H0 ρ σ H) (h : ((ff ρ).lift ρ k).wp (FlOut g β A B C E) noE)
    (hq : ∀ o H0' H', Stp β H0 H H0' H' → (k o).wp (FlOut g β A B C E) noE → Q o H') : tO g ff σ H Q :=
  ⟨β, H0, ρ, r.rel, T.wp_mono (fun d hd H1 H2 st => hq d H1 H2 st hd) (fun _ z => excX r z) _ ((T.wp_lift _).mp h)⟩
theorem s_ownOf {i : Nat} (hs : PS X st (tAsg (tCB (fun xs H Q => ∃ p ys, xs = [.ref p] ∧ (SqL X.K H p ys ∨ SqT X.K H p ys) ∧ ∀ l, H l = none → Q (.ref l) (upd H l (.lst ys))) (tA g (aCons f aNil))) (gName i))) : PS X st (tS g (sOwn i (lOf f))) := hs.imp fun E σ H ⟨β, A, B, C, H0, ρ, r, q⟩ => by
  have q : ((aCons f aNil ρ).lift ρ fun as => match as with
    | [.d x] => (itemsD x).lift ρ fun ds => .ret (Fl.nx (ρ.set i (.own ds)))
    | _ => .bad).wp (FlOut g β A B C E) noE := by
    have e : sOwn i (lOf f) ρ = ((aCons f aNil ρ).lift ρ fun as => match as with
      | [.d x] => (itemsD x).lift ρ fun ds => .ret (Fl.nx (ρ.set i (.own ds)))
      | _ => .bad) := by
      unfold sOwn lOf
      rw [T.lift_bind]
      show _ = ((f ρ).bind fun d => (aNil ρ).bind fun r => T.ret (Ar.d d :: r)).lift ρ _
      rw [T.lift_bind]
      rfl
    rw [← e]
    exact q
  refine tA_lift r q fun as vs H1 H2 s hv q1 => ?_
  split at q1
  · next x =>
    obtain ⟨v, rfl, hh⟩ := hv.one
    have r1 := r.step s
    cases hh with
    | @lst p xs ds h1 h2 =>
      refine ⟨p, xs, rfl, .inl (SqL.of (s.ext _ _ h1)), fun l hl => ?_⟩
      obtain ⟨f1, f2, f3, f4⟩ := r1.fresh hl
      have r3 := r1.step (r1.rel.junk (o := .lst xs) hl)
      exact q1 _ H1 _ (r3.setOwn f1 upd_same h2 f2 f3 fun j ys q _ a b => f4 j ys q a b)
    | @tup p xs ds h1 h2 =>
      refine ⟨p, xs, rfl, .inr (SqT.of (s.ext _ _ h1)), fun l hl => ?_⟩
      obtain ⟨f1, f2, f3, f4⟩ := r1.fresh hl
      have r3 := r1.step (r1.rel.junk (o := .lst xs) hl)
      exact q1 _ H1 _ (r3.setOwn f1 upd_same h2 f2 f3 fun j ys q _ a b => f4 j ys q a b)
    | _ => exact q1.elim
  · exact q1.elim
theorem s_ownSl {i : Nat} {l u : Env' → T (Option Int)} (hs : PS X st (tAsg (tSl (rSlL X.K) (tE g f) (tO g l) (tO g u)) (gName i))) : PS X st (tS g (sOwn i (lSl f l u))) := hs.imp fun E σ H ⟨β, A, B, C, H0, ρ, r, q⟩ => by
  unfold sOwn lSl at q
  rw [T.lift_bind] at q
  refine tE_lift r q fun d v H1 H2 s hv q1 => ?_
  rw [T.lift_bind] at q1
  have r1 := r.step s
  refine tO_lift r1 q1 fun lo H3 H4 s2 q2 => ?_
  rw [T.lift_bind] at q2
  have r2 := r1.step s2
  refine tO_lift r2 q2 fun hi H5 H6 s3 q3 => ?_
  have r3 := r2.step s3
  have hv3 := (hv.mono s2.grow).mono s3.grow
  cases hv3 with
  | @lst p xs ds h1 h2 =>
    have q3 : ((T.ret (cutD ds lo hi)).lift ρ fun ds => .ret (Fl.nx (ρ.set i (.own ds)))).wp (FlOut g β A B C E) noE := q3
    refine ⟨p, xs, rfl, SqL.of (s3.ext _ _ h1), fun p2 hp => ?_⟩
    obtain ⟨f1, f2, f3, f4⟩ := r3.fresh hp
    have r4 := r3.step (r3.rel.junk (o := .lst (cutV xs lo hi)) hp)
    exact q3 _ H5 _ (r4.setOwn f1 upd_same (h2.cut lo hi) f2 f3 fun j ys q _ a b => f4 j ys q a b)
  | _ => exact q3.elim
/-! ### xs.insert(k, y) -/
def sIns (i : Nat) (fs : Env' → T (List Ar)) : Env' → T Fl := fun ρ => match ρ[i]? with
  | some (.own xs) => (fs ρ).lift ρ fun as => match as with
    | [.d (.int k), .d y] => if xs.length < 1000000 ∧ 0 ≤ k ∧ k < 1000000 then .ret (.nx (ρ.set i (.own (xs.take k.toNat ++ [y] ++ xs.drop k.toNat)))) else .bad
    | _ => .bad
  | _ => .bad
theorem s_ins {i : Nat} {fs : Env' → T (List Ar)} (hs : PS X st (tDrop (tBM X.K "list" (fun x vs H Q => ∃ (l : Addr) (xs : List V) (i : Int) (y : V), x = .ref l ∧ vs = [.int i, y] ∧ H l = some (.lst xs) ∧ xs.length < sizeLine ∧ 0 ≤ i ∧ i < 2 ^ 63 ∧
    Q .non (upd H l (.lst (xs.take i.toNat ++ [y] ++ xs.drop i.toNat)))) (tVar i) (tA g fs)))) : PS X st (tS g (sIns i fs)) := hs.imp fun E σ H ⟨β, A, B, C, H0, ρ, r, q⟩ => by
  unfold sIns at q
  split at q
  · next xs hx =>
    obtain ⟨p, vs, e1, e2, e3⟩ := own_at r hx
    refine ⟨.ref p, e1, .inl ⟨rfl, vs, SqL.of e2⟩, tA_lift r q fun as ws H1 H2 s hv q1 => ?_⟩
    split at q1
    · next k y =>
      split at q1
      · next hz =>
        have r1 := r.step s
        obtain ⟨p', vs', e1', e2', e3'⟩ := own_at r1 hx
        rw [e1] at e1'
        cases e1'
        have hlen := e3'.length
        obtain ⟨v1, v2, rfl, g1, g2⟩ := hv.two
        have ek := g1.int_eq
        subst ek
        refine ⟨p, vs', k, v2, rfl, rfl, e2', ?_, hz.2.1, by omega, q1 _ H1 _ (r1.chg hx e1 (((e3'.take k.toNat).append (.cons g2 .nil)).append (e3'.drop k.toNat)))⟩
        rw [sizeLine_eq]
        omega
      · exact q1.elim
    · exact q1.elim
  · exact q.elim
/-! ### list(range(n)) -/
def oListRg (x : D) : T D := match x with
  | .int n => if n ≤ 1000000 ∧ -1000000 ≤ n then .ret (.list (rangeD 0 n.toNat)) else .bad
  | _ => .bad
theorem rg_has {H0 : Hp} (n : Int) : HasL H0 (rgV 0 n) (rangeD 0 n.toNat) := by
  have key : ∀ (m : Nat), HasL H0 ((List.range m).map fun i => V.int ((0 : Int) + (i : Nat))) ((List.range m).map fun i => PyData.int ((0 : Int) + (i : Nat))) := by
    intro m
    generalize List.range m = L
    induction L with
    | nil => exact .nil
    | cons i L ih => exact .cons (.int _) ih
  unfold rgV rangeD
  have e : (n - 0).toNat = n.toNat := by omega
  rw [e]
  exact key _
theorem r_listRg {p p2 pos2 : Pos} (hc : X.calm = true) (hg : Gl X "list") (hm : X.mg "list" = none) (hg2 : Gl X "range") (hm2 : X.mg "range" = none) (ha : PE X a (tE g f)) (na : starEach [a] X.env = (false, eval a X.env) :: starEach [] X.env := by rfl)
    (ne : starEach [.Call (.Name "range" p2) [a] [] pos2] X.env = (false, eval (.Call (.Name "range" p2) [a] [] pos2) X.env) :: starEach [] X.env := by rfl) :
    PE X (.Call (.Name "list" p) [.Call (.Name "range" p2) [a] [] pos2] [] pos) (tE g (eUn oListRg f)) :=
  (pe_listRg hc hg hm (prg_1 hg2 hm2 ha na) ne).imp fun σ H Q ⟨β, H0, ρ, rr, q⟩ => tE_then rr q fun d v H1 H2 st hv q1 => by
    cases hv with
    | int n =>
      have q1 : (if n ≤ 1000000 ∧ -1000000 ≤ n then T.ret (PyData.list (rangeD 0 n.toNat)) else .bad).wp _ _ := q1
      split at q1
      · next c =>
        refine ⟨n, rfl, ⟨by omega, by omega, by omega, by omega, by omega⟩, fun p0 hp => ?_⟩
        have hp1 : H1 p0 = none := st.ext.free hp
        exact q1 (.ref p0) _ _ (st.trans (Stp.new st.ext st.ok st.boxf hp)) (.lst upd_same (upd_has hp1 (rg_has n)))
      · exact q1.elim
    | _ => exact q1.elim
@[simp] theorem oListRg_i {n : Int} : oListRg (.int n) = if n ≤ 1000000 ∧ -1000000 ≤ n then .ret (.list (rangeD 0 n.toNat)) else .bad := rfl
end
end Wb

set_option Elab.async false
set_option linter.all false
set_option maxRecDepth 100000
set_option maxHeartbeats 4000000
/-! Wb, part 45: sorted(set(xs)) of a list of ints. -/
namespace Wb
open PySem PySem.Spec PyProof.Rows L2 RZ
/-! ### the ints of a list, ascending, each once -/
def insU (k : Int) : List Int → List Int
  | [] => [k]
  | x :: r => if k < x then k :: x :: r else if k = x then x :: r else x :: insU k r
def sortU (ns : List Int) : List Int := ns.foldr insU []
theorem insU_mem {k j : Int} : ∀ {xs : List Int}, j ∈ insU k xs ↔ j = k ∨ j ∈ xs
  | [] => by simp [insU]
  | x :: r => by
    have ih := insU_mem (k := k) (j := j) (xs := r)
    unfold insU
    split
    · simp only [List.mem_cons]
    · split
      · next e =>
        subst e
        simp only [List.mem_cons]
        exact ⟨fun z => .inr z, fun z => z.elim .inl id⟩
      · simp only [List.mem_cons, ih]
        exact ⟨fun z => z.elim (fun z => .inr (.inl z)) fun z => z.elim .inl fun z => .inr (.inr z), fun z => z.elim (fun z => .inr (.inl z)) fun z => z.elim .inl fun z => .inr (.inr z)⟩
theorem insU_up {k : Int} : ∀ {xs : List Int}, xs.Pairwise (· < ·) → (insU k xs).Pairwise (· < ·)
  | [], _ => by simp [insU]
  | x :: r, h => by
    obtain ⟨h1, h2⟩ := List.pairwise_cons.mp h
    unfold insU
    split
    · next lt =>
      refine List.pairwise_cons.mpr ⟨fun y hy => ?_, h⟩
      rcases List.mem_cons.mp hy with rfl | hy
      · exact lt
      · have := h1 y hy
        omega
    · split
      · exact h
      · next n1 n2 =>
        refine List.pairwise_cons.mpr ⟨fun y hy => ?_, insU_up h2⟩
        rcases insU_mem.mp hy with rfl | hy
        · omega
        · exact h1 y hy
theorem sortU_mem {j : Int} : ∀ {ns : List Int}, j ∈ sortU ns ↔ j ∈ ns
  | [] => Iff.rfl
  | n :: ns => by
    have ih := sortU_mem (j := j) (ns := ns)
    show j ∈ insU n (sortU ns) ↔ _
    rw [insU_mem, ih, List.mem_cons]
theorem sortU_up : ∀ ns : List Int, (sortU ns).Pairwise (· < ·)
  | [] => List.Pairwise.nil
  | n :: ns => insU_up (sortU_up ns)
theorem up_one : ∀ {as bs : List Int}, as.Pairwise (· < ·) → bs.Pairwise (· < ·) → (∀ k, k ∈ as ↔ k ∈ bs) → as = bs
  | [], [], _, _, _ => rfl
  | [], b :: bs, _, _, h => absurd ((h b).mpr (List.mem_cons_self ..)) (by simp)
  | a :: as, [], _, _, h => absurd ((h a).mp (List.mem_cons_self ..)) (by simp)
  | a :: as, b :: bs, ha, hb, h => by
    obtain ⟨a1, a2⟩ := List.pairwise_cons.mp ha
    obtain ⟨b1, b2⟩ := List.pairwise_cons.mp hb
    have e : a = b := by
      rcases List.mem_cons.mp ((h a).mp (List.mem_cons_self ..)) with e | m
      · exact e
      · rcases List.mem_cons.mp ((h b).mpr (List.mem_cons_self ..)) with e | m2
        · exact e.symm
        · have := b1 a m
          have := a1 b m2
          omega
    subst e
    rw [up_one a2 b2 fun k => ?_]
    constructor
    · intro m
      rcases List.mem_cons.mp ((h k).mp (List.mem_cons_of_mem _ m)) with e | m2
      · have := a1 k m
        omega
      · exact m2
    · intro m
      rcases List.mem_cons.mp ((h k).mpr (List.mem_cons_of_mem _ m)) with e | m2
      · have := b1 k m
        omega
      · exact m2
theorem insU_len {k : Int} : ∀ {xs : List Int}, (insU k xs).length ≤ xs.length + 1
  | [] => by simp [insU]
  | x :: r => by
    have ih := insU_len (k := k) (xs := r)
    unfold insU
    split
    · simp
    · split
      · simp
      · simpa using ih
theorem sortU_len : ∀ ns : List Int, (sortU ns).length ≤ ns.length
  | [] => Nat.le_refl _
  | n :: ns => by
    have ih := sortU_len ns
    have := insU_len (k := n) (xs := sortU ns)
    show (insU n (sortU ns)).length ≤ _
    rw [List.length_cons]
    omega
/-! ### set(xs) -/
abbrev setO0 (w : World) : Obj := { cls := .type "set", dict := none, data := .set #[] 0 (.fresh 0 0 (!w.params.followText "set-order")) }
section
variable {P : Program} {w : World} {A : Around} {E : Value → Shared → Prop} {s : Shared}
set_option maxHeartbeats 6400000 in
theorem set_of_list {l : Addr} {vs : Array Value} (ns : List Int) {Q : Value → Shared → Prop} (calm : A.handled = none) (isl : s.heap.IsList l vs) (allI : IntsAre vs.toList ns) (room : ns.length + 1 < scanBound)
    (out : ∀ (h2 : Heap) (tk n : Nat), SetR w h2 s.heap.objs.size (fun j => decide (j ∈ ns)) n → n ≤ ns.length → (∀ b o, s.heap.get? b = some o → h2.get? b = some o) → Q (.ref s.heap.objs.size) { s with heap := h2, toks := tk }) :
    wpAny (model P w) A (call (.type "set") [.ref l]) Q E s := by
  have size : vs.size = ns.length := by have z := IntsAre.length allI; rwa [Array.length_toList] at z
  obtain ⟨c0, t0, mro⟩ := F.called_set.mro
  have made := F.called_set.made; have sub := F.called_set.sub
  refine wpAny_call (codeAny_of_tree ?tree)
  show wpAny _ _ (callAny (Value.type "set") _) _ _ _; refine wpAny_pure ⟨Code.quiet_builtin _ (by decide +kernel), codeAny_builtin F.entry_type_call ?call⟩
  rw [Around.under_plain (weight_type_call_type "set" [Value.ref l] []) rfl]
  have no := F.called_set.notType; have can := F.called_set.canCreate; have tc := F.typeCall_set_1 (.ref l)
  repeat (any_goals (first | assumption | wp_step))
  refine codeAny_mono (code_set_led1 (.ref l) (E := E) (Q₁ := fun obj s1 => obj = .ref s.heap.objs.size ∧ s1 = { s with heap := s.heap.push (setO0 w) }) ⟨rfl, rfl⟩) fun r s1 hr => ?_
  match r, hr with
  | .error e, hr => exact hr
  | .ok (.ret obj), hr =>
    obtain ⟨rfl, rfl⟩ := hr
    have at0 : (s.heap.push (setO0 w)).get? s.heap.objs.size = some (setO0 w) := Heap.get?_push_size _ rfl
    have ty : Shared.TypeIs { s with heap := s.heap.push (setO0 w) } (.ref s.heap.objs.size) "set" := ⟨_, at0, rfl⟩
    have look := F.called_set.init.lookup; have bind := F.called_set.init.bind (.ref s.heap.objs.size)
    repeat (any_goals (first | assumption | wp_step))
    refine codeAny_mono (codeAny_call_builtin (R := wants (fun r s2 => r = .none ∧ ∃ h2 tk n, s2 = { s with heap := h2, toks := tk } ∧ SetR w h2 s.heap.objs.size (fun j => decide (j ∈ ns)) n ∧ n ≤ ns.length ∧ (∀ b o, s.heap.get? b = some o → h2.get? b = some o)) E) F.called_set.init.plain F.entry_set_init (check_set_init_1 ty ?_)) fun r2 s2 hr2 => ?_
    · obtain ⟨⟨oc, od, odt, osl⟩, ho, hcl, nl, hdt⟩ := isl
      simp only at hcl hdt
      subst hcl hdt
      have ho2 : (s.heap.push (setO0 w)).get? l = some { cls := .type "list", dict := od, data := .seq vs nl, slots := osl } := Heap.get?_push_of_some _ ho
      have sl1 := F.sub_list_set; have sl2 := F.sub_list_frozenset
      have nd : (Value.type "list" == Value.type "dict") = false := by decide
      have isl2 : (s.heap.push (setO0 w)).IsList l vs := ⟨_, ho2, rfl, nl, rfl⟩
      unfold Builtin.«set.__init__» noKeywords Builtin.Frozenset.updateFrom
      generalize keep : pyIter = PI; wp_walk
      subst keep
      refine wpAny_pyIter_list isl2 (wpAny_bind (wpAny_runValue ?_))
      have lt := Heap.lt_size ho
      have calm3 : A.in1.in1.in1.handled = none := by simp [calm]
      have sz : (s.heap.push (setO0 w)).objs.size = s.heap.objs.size + 1 := Heap.size_push ..
      have ne1 : l ≠ (s.heap.push (setO0 w)).objs.size := by rw [sz]; exact Nat.ne_of_lt (Nat.lt_succ_of_lt lt)
      have ne2 : s.heap.objs.size ∉ [(s.heap.push (setO0 w)).objs.size, l] := by
        rw [sz]; intro z; rcases List.mem_cons.mp z with z | z
        · exact absurd z (Nat.ne_of_lt (Nat.lt_succ_self _))
        · exact absurd (List.mem_singleton.mp z) (Nat.ne_of_gt lt)
      have each : ∀ (i : Nat) (v : Value), vs[i]? = some v → ∃ k t, ns[i]? = some k ∧ v = .int k t := fun i v hv => by
        have hi : i < ns.length := by rw [← size]; exact (Array.getElem?_eq_some_iff.mp hv).1
        obtain ⟨t, e⟩ := IntsAre.int_at allI i v (by rw [Array.getElem?_toList]; exact hv)
        have g := List.getElem?_eq_getElem hi
        exact ⟨ns[i], t, g, by rw [e, List.getD_eq_getElem?_getD, g]; rfl⟩
      refine set_update_ints ((Walks.list calm3 _ l ne1 vs).toS) s.heap.objs.size ne2 ns size room each (vs.size - 0) 0 _ (by omega) (Nat.zero_le _) ⟨⟨_, Heap.get?_push_size _ rfl, rfl, rfl⟩, isl2.push _⟩ ?first ?last
      case first => exact ⟨0, Nat.le_refl 0, setR_new_at (Heap.get?_push_of_some _ at0)⟩
      case last =>
        rintro ⟨h2, g2, d2, tk, os2⟩ n mv hn R
        have eg : g2 = s.gens := mv.gens; have ed : d2 = s.drawn := mv.drawn; have eo : os2 = s.os := mv.os
        subst eg ed eo
        refine wpAny_pure (show wpAny _ _ (ret Value.none) _ _ _ from wpAny_pure ⟨rfl, h2, tk, n, rfl, R, by omega, fun b o e => ?_⟩)
        have lb := Heap.lt_size e
        refine mv.heap b o (fun z => ?_) (Heap.get?_push_of_some _ (Heap.get?_push_of_some _ e))
        rw [sz] at z; rcases List.mem_cons.mp z with z | z
        · exact absurd z (Nat.ne_of_lt lb)
        · exact absurd (List.mem_singleton.mp z) (Nat.ne_of_lt (Nat.lt_succ_of_lt lb))
    · match r2, hr2 with
      | .error e, hr2 => exact hr2
      | .ok (.ret r), hr2 =>
        obtain ⟨rfl, h2, tk, n, rfl, R, hn, kept⟩ := hr2
        repeat (any_goals (first | assumption | wp_step))
        exact out _ _ _ R hn kept
end
/-! ### sorted(set(xs)) -/
def tSortSet (K : PySem.W.Frag) (ta : TE) : TE := fun σ H Q => ta σ H fun x H1 => ∃ (l : Addr) (ns : List Int), x = .ref l ∧ SqL K H1 l (ns.map V.int) ∧ ns.length < 64 ∧ ∀ p, H1 p = none → Q (.ref p) (upd H1 p (.lst ((sortU ns).map V.int)))
theorem ints_of_vals : ∀ {ns : List Int} {us : List Value}, Vals (ns.map V.int) us → IntsAre us ns
  | [], _, .nil => .nil
  | n :: ns, _, .cons r t => by
    obtain ⟨k, rfl⟩ := r
    exact .cons n k (ints_of_vals t)
theorem sorted_keep {X : Cx} {pins : List (Addr × Obj)} {σ : L2.St} {H1 : Hp} {s2 : Shared} {b : Addr} {ns : List Int} {n : Nat} {Q : Value → Shared → Prop} {E : Value → Shared → Prop} (I2 : Inv X pins σ H1 s2) (hc : X.calm = true) (R : SetR X.w s2.heap b (fun j => decide (j ∈ ns)) n) (few : n < 64)
    (done : ∀ p s3, H1 p = none → Inv X pins σ (upd H1 p (.lst ((sortU ns).map V.int))) s3 → Q (.ref p) s3) : wpAny (model X.prog X.w) X.A (call (.builtin "sorted") [.ref b]) Q E s2 := by
  refine sorted_set R (I2.ok.hd hc) few fun s3 p out c ms k g o hp hg hi up mem len => ?_
  have e : ms = sortU ns := up_one up (sortU_up ns) fun j => by rw [mem, decide_eq_true_eq, sortU_mem]
  subst e
  have free : H1 p = none := I2.hok.fresh hp
  have sized : ((sortU ns).map V.int).length ≤ sizeLine := by rw [List.length_map, len, sizeLine_eq]; omega
  have J : Inv X pins σ (upd H1 p (.lst ((sortU ns).map V.int))) { s2 with heap := s3.heap, gens := s3.gens, drawn := s3.drawn, toks := s3.toks } :=
    Inv.call (ch := []) I2 (Un.laid k hp free) (I2.hok.laid k hp ⟨sized, out.toList, c, vals_of_ints hi, hg⟩) (by rw [g]; exact I2.bare) (fun _ z => nomatch z)
  obtain ⟨h3, g3, d3, t3, o3⟩ := s3
  have o : o3 = s2.os := o
  subst o
  exact done p _ free J
theorem pe_sortSet {X : Cx} {a : Expr} {ta : TE} {p p2 q pos : Pos} (hc : X.calm = true) (hg : Gl X "sorted") (hm : X.mg "sorted" = none) (hg2 : Gl X "set") (hm2 : X.mg "set" = none) (ha : PE X a ta) (na : starEach [a] X.env = (false, eval a X.env) :: starEach [] X.env := by rfl) :
    PE X (.Call (.Name "sorted" p) [.Call (.Name "set" p2) [a] [] q] [] pos) (tSortSet X.K ta) := by
  refine ⟨fun pins s σ H Q I h => Call_ (ld_blt I hg hm boot_sorted (callWith_builtin1 (args_cons (Call_ (ld_blt I hg2 hm2 boot_set (callWith_type1 (args_cons ?arg na) na rfl))) rfl) rfl rfl))⟩
  refine thn (ha.run pins s σ H _ I h) fun v s1 ⟨x, H1, I1, r1, l, ns, e, sq, few, done⟩ => args_nil ?_
  subst e; cases r1
  obtain ⟨its, rv, pl, _⟩ := I1.list sq
  refine set_of_list ns (I1.ok.hd hc) pl.isList (by simpa using ints_of_vals rv) (by unfold scanBound; omega) fun h2 tk n R hn kept => args_nil ?_
  have I2 : Inv X pins σ H1 { s1 with heap := h2, toks := tk } := I1.kept fun b o e => kept b o e
  exact sorted_keep I2 hc R (by omega) fun p s3 free J => ⟨.ref p, _, J, rfl, done p free⟩
section
variable {X : Cx} {g : Ct} {a : Expr} {f : Env' → T D} {pos : Pos}
def oSortSet (x : D) : T D := match x with
  | .list ds => match intsOf ds with
    | some ns => if ns.length < 64 then .ret (.list ((sortU ns).map PyData.int)) else .bad
    | none => .bad
  | _ => .bad
theorem has_ints {H : Hp} : ∀ ns : List Int, HasL H (ns.map V.int) (ns.map PyData.int)
  | [] => .nil
  | n :: ns => .cons (.int n) (has_ints ns)
theorem r_sortSet {p p2 q : Pos} (hc : X.calm = true) (hg : Gl X "sorted") (hm : X.mg "sorted" = none) (hg2 : Gl X "set") (hm2 : X.mg "set" = none) (ha : PE X a (tE g f)) (na : starEach [a] X.env = (false, eval a X.env) :: starEach [] X.env := by rfl) :
    PE X (.Call (.Name "sorted" p) [.Call (.Name "set" p2) [a] [] q] [] pos) (tE g (eUn oSortSet f)) :=
  (pe_sortSet hc hg hm hg2 hm2 ha na).imp fun σ H Q ⟨β, H0, ρ, rr, q⟩ => tE_then rr q fun d v H1 H2 st hv q1 => by
    cases hv with
    | lst h1 h2 =>
      unfold oSortSet at q1
      simp only at q1
      split at q1
      · next ns hn =>
        rw [intsOf_some hn] at h2
        rw [h2.ints_eq] at h1
        split at q1
        · next c =>
          refine ⟨_, ns, rfl, SqL.of (st.ext _ _ h1), c, fun p0 hp => ?_⟩
          have hp1 : _ = none := st.ext.free hp
          exact q1 (.ref p0) _ _ (st.trans (Stp.new st.ext st.ok st.boxf hp)) (.lst upd_same (upd_has hp1 (has_ints _)))
        · exact q1.elim
      · exact q1.elim
    | _ => exact q1.elim
@[simp] theorem oSortSet_i {ns : List Int} : oSortSet (.list (ns.map PyData.int)) = if ns.length < 64 then .ret (.list ((sortU ns).map PyData.int)) else .bad := by
  unfold oSortSet
  simp only [intsOf_map]
end
end Wb

set_option Elab.async false
set_option linter.all false
set_option maxRecDepth 100000
set_option maxHeartbeats 4000000
/-! Wb, part 46: x in xs, xs a list or a tuple of data. -/
namespace Wb
open PySem PySem.Spec PyProof.Rows L2
def rInLT (K : PySem.W.Frag) : R2 := fun x y H Q => rInD K x y H Q ∨ ∃ d ds, Dp K H x d ∧ Dp K H y (.tuple ds) ∧ SeqAt.shaped d = true ∧ SeqAt.shaped (.tuple ds) = true ∧ Q (.bl (ds.any fun z => PyData.eqv z d)) H
theorem op_inLT {X : Cx} (hu : X.A.units + 65 < cLine) : OpR X (compareOp .In) (rInLT X.K) := by
  intro pins s σ H x y v u Q I rx ry h
  rcases h with h | ⟨d, ds, hd, he, sd, se, q⟩
  · exact op_inD hu pins s σ H x y v u Q I rx ry h
  · obtain ⟨as, r1⟩ := Dp.reads I d x v hd rx
    obtain ⟨bs, r2⟩ := Dp.reads I (.tuple ds) y u he ry
    have lay : PyData.canLayAll0 ds = true := SeqAt.canLay_of_shaped (d := .tuple ds) se
    exact SeqAt.in_tuple_reads r2 r1 lay (SeqAt.canLay_of_shaped sd) (room_in_shaped sd hu) ⟨.bl _, H, I, rfl, q⟩
def oInT (x y : D) : T D := match y with
  | .tuple ds => if (cEq x && cEq (.tuple ds)) = true then .ret (.bool (ds.any fun z => PyData.eqv z x)) else .bad
  | _ => oIn x y
theorem d_inT {K : PySem.W.Frag} : OpD (rInLT K) oInT := by
  intro β H0 H v w x y Q E e ok bf hv hw q
  have other : (oIn x y).wp (Out β H0 H Q) E → rInLT K v w H Q := fun q => .inl (d_in e ok bf hv hw q)
  cases y with
  | tuple ds =>
    have q : (if (cEq x && cEq (.tuple ds)) = true then T.ret (PyData.bool (ds.any fun z => PyData.eqv z x)) else .bad).wp (Out β H0 H Q) E := q
    split at q
    · next c =>
      rw [Bool.and_eq_true] at c
      obtain ⟨a1, a2⟩ := cEq_of c.1
      obtain ⟨b1, b2⟩ := cEq_of c.2
      exact .inr ⟨x, ds, hv.dp e a1, hw.dp e b1, a2, b2, out_ret e ok bf (.bl _) q⟩
    · exact q.elim
  | _ => exact other q
/-! ints -/
theorem any_ints (k : Int) : ∀ ns : List Int, ((ns.map PyData.int).any fun z => PyData.eqv z (.int k)) = decide (k ∈ ns)
  | [] => by simp
  | n :: ns => by
    have ih := any_ints k ns
    rw [List.map_cons, List.any_cons, ih]
    have e : PyData.eqv (.int n) (.int k) = decide (n = k) := by
      simp only [PyData.eqv]
      by_cases h : n = k <;> simp [h]
    rw [e]
    by_cases h : k = n
    · subst h
      simp
    · have h' : ¬ n = k := fun z => h z.symm
      simp [h, h']
theorem cEq_int (k : Int) : cEq (.int k) = true := rfl
theorem ints_lay : ∀ ns : List Int, PyData.hasDictAll (ns.map PyData.int) = false ∧ PyData.canLayAll0 (ns.map PyData.int) = true ∧ PyData.depthAll (ns.map PyData.int) ≤ 1 := by
  intro ns
  induction ns with
  | nil => exact ⟨rfl, rfl, Nat.zero_le _⟩
  | cons x r ih =>
    obtain ⟨a, b, c⟩ := ih
    refine ⟨?_, ?_, ?_⟩
    · simp only [List.map_cons, PyData.hasDictAll, a, PyData.hasDict, Bool.or_self]
    · simp only [List.map_cons, PyData.canLayAll0, b, PyData.canLay0, Bool.and_self]
    · simp only [List.map_cons, PyData.depthAll, PyData.depth]
      omega
theorem cEq_tints {ns : List Int} : cEq (.tuple (ns.map PyData.int)) = true := by
  obtain ⟨a, b, c⟩ := ints_lay ns
  unfold cEq SeqAt.shaped
  simp only [PyData.hasDict, PyData.canLay0, PyData.depth, a, b, Bool.not_false, Bool.true_and]
  exact decide_eq_true (by omega)
theorem cEq_lints {ns : List Int} : cEq (.list (ns.map PyData.int)) = true := by
  obtain ⟨a, b, c⟩ := ints_lay ns
  unfold cEq SeqAt.shaped
  simp only [PyData.hasDict, PyData.canLay0, PyData.depth, a, b, Bool.not_false, Bool.true_and]
  exact decide_eq_true (by omega)
theorem inT_ints (k : Int) (ns : List Int) : oInT (.int k) (.tuple (ns.map PyData.int)) = .ret (.bool (decide (k ∈ ns))) := by
  show (if (cEq (.int k) && cEq (.tuple (ns.map PyData.int))) = true then T.ret (PyData.bool ((ns.map PyData.int).any fun z => PyData.eqv z (.int k))) else .bad) = _
  rw [cEq_int, cEq_tints, any_ints]
  rfl
theorem inL_ints (k : Int) (ns : List Int) : oInT (.int k) (.list (ns.map PyData.int)) = .ret (.bool (decide (k ∈ ns))) := by
  show (if (cEq (.int k) && cEq (.list (ns.map PyData.int))) = true then T.ret (PyData.bool ((ns.map PyData.int).any fun z => PyData.eqv z (.int k))) else .bad) = _
  rw [cEq_int, cEq_lints, any_ints]
  rfl
end Wb

set_option Elab.async false
set_option linter.all false
set_option maxRecDepth 100000
set_option maxHeartbeats 4000000
/-! Wb, part 47: sorted(set(xs)) of many ints; min, max of a list or tuple of ints; x.index(k) for a list or tuple of ints. -/
namespace Wb
open PySem PySem.Spec PyProof.Rows L2 RZ
section
variable {P : Program} {w : World} {A : Around} {E : Value → Shared → Prop} {s : Shared} {a : Addr}
/-- sorted of a set of ints, any number of them -/
theorem sortedSetN {S : Int → Bool} {n : Nat} {Q : Value → Shared → Prop} (R : SetR w s.heap a S n) (calm : A.handled = none)
    (out : ∀ s2 p (its : Array Value) (c : Nat) (ns : List Int), (∀ b o, s.heap.get? b = some o → s2.heap.get? b = some o) → s2.gens = s.gens → s2.os = s.os → s.heap.objs.size ≤ p →
      s2.heap.get? p = some (seqObj "list" its c) → IntsAre its.toList ns → ns.Pairwise (· < ·) → (∀ k, k ∈ ns ↔ S k = true) → ns.length = n → Q (.ref p) s2) :
    wpAny (model P w) A (call (.builtin "sorted") [.ref a]) Q E s := by
  obtain ⟨o, es, ep, t, ho, hex, hd, g, nd, hm, hb, hf, hn, hr, hl⟩ := R
  refine Calls.call_function_entry kind_sorted plain_sorted entry_sorted (args_sorted1 _) ?go
  unfold Builtin.«sorted»
  refine wpAny_bind (m := checkCount "sorted" 1 1 _) (wpAny_pure ?again)
  refine wpAny_bind (collect_set (A := A.in1) calm ⟨o, ho, hex.1, hd⟩ hf hb hr hl fun s1 vs k1 hz g1 o1 pm => ?back)
  have many : vs.length = n := (pm.length_eq.trans (by rw [List.length_map, Array.length_toList])).trans hn
  have few : vs.length ≤ sizeLine := by
    have : es.size < 4096 := hb
    have : es.size = n := hn
    rw [many, sizeLine_eq]; omega
  have allI : IntsAre vs (vs.map Builtin.Re.reRawOf) := ints_of vs fun v hv => by
    obtain ⟨e, he, q⟩ := List.mem_map.mp (pm.mem_iff.mp hv)
    obtain ⟨k, tk, z, _⟩ := g e he
    exact ⟨k, tk, q.symm.trans z⟩
  have same : (vs.map Builtin.Re.reRawOf).Perm (es.toList.map L2.keyOf) := (pm.map Builtin.Re.reRawOf).trans (by rw [List.map_map]; exact List.Perm.refl _)
  have laid : (s1.heap.push (seqObj "list" vs.toArray 0)).get? s1.heap.objs.size = some (seqObj "list" vs.toArray 0) := Heap.get?_push_size _ rfl
  refine wpAny_bind (wpAny_newList ?sort few)
  refine wpAny_bind (wpAny_holding (wpAny_call_entry slot_list_sort ⟨_, laid, rfl⟩ entry_list_sort (list_sort_treeAny laid allI few fun its ns' a1 a2 a3 => ⟨_, rfl, ?end_⟩) (args_list_sort _)))
  obtain ⟨c, hc⟩ := sortedHeap_at (vs := vs) (out := its) laid
  have pn : ns'.Perm (es.toList.map L2.keyOf) := a2.trans same
  have old : ∀ b u, s.heap.get? b = some u → (sortedHeap (s1.heap.push (seqObj "list" vs.toArray 0)) s1.heap.objs.size vs its).get? b = some u := fun b u e => by
    have q := k1 b u e
    have lt := Heap.lt_size q
    rw [sortedHeap_old (Nat.ne_of_lt lt) (by rw [size_push']; exact Nat.lt_succ_of_lt lt)]
    exact Heap.get?_push_of_some _ q
  exact wpAny_pure ⟨_, rfl, out _ s1.heap.objs.size its c ns' old g1 o1 hz hc a1 (lt_of_le_nodup ns' a3 (pn.nodup_iff.mpr nd)) (fun k => by rw [pn.mem_iff, ← hm k]) (pn.length_eq.trans (by rw [List.length_map, Array.length_toList]; exact hn))⟩
end
def tSortSetN (K : PySem.W.Frag) (ta : TE) : TE := fun σ H Q => ta σ H fun x H1 => ∃ (l : Addr) (ns : List Int), x = .ref l ∧ SqL K H1 l (ns.map V.int) ∧ ns.length < 4000 ∧ ∀ p, H1 p = none → Q (.ref p) (upd H1 p (.lst ((sortU ns).map V.int)))
theorem sortedN_keep {X : Cx} {pins : List (Addr × Obj)} {σ : L2.St} {H1 : Hp} {s2 : Shared} {b : Addr} {ns : List Int} {n : Nat} {Q : Value → Shared → Prop} {E : Value → Shared → Prop} (I2 : Inv X pins σ H1 s2) (hc : X.calm = true) (R : SetR X.w s2.heap b (fun j => decide (j ∈ ns)) n) (few : n < 4000)
    (done : ∀ p s3, H1 p = none → Inv X pins σ (upd H1 p (.lst ((sortU ns).map V.int))) s3 → Q (.ref p) s3) : wpAny (model X.prog X.w) X.A (call (.builtin "sorted") [.ref b]) Q E s2 := by
  refine sortedSetN R (I2.ok.hd hc) fun s3 p out c ms k g o hp hg hi up mem len => ?_
  have e : ms = sortU ns := up_one up (sortU_up ns) fun j => by rw [mem, decide_eq_true_eq, sortU_mem]
  subst e
  have free : H1 p = none := I2.hok.fresh hp
  have sized : ((sortU ns).map V.int).length ≤ sizeLine := by rw [List.length_map, len, sizeLine_eq]; omega
  have J : Inv X pins σ (upd H1 p (.lst ((sortU ns).map V.int))) { s2 with heap := s3.heap, gens := s3.gens, drawn := s3.drawn, toks := s3.toks } :=
    Inv.call (ch := []) I2 (Un.laid k hp free) (I2.hok.laid k hp ⟨sized, out.toList, c, vals_of_ints hi, hg⟩) (by rw [g]; exact I2.bare) (fun _ z => nomatch z)
  obtain ⟨h3, g3, d3, t3, o3⟩ := s3
  have o : o3 = s2.os := o
  subst o
  exact done p _ free J
theorem pe_sortSetN {X : Cx} {a : Expr} {ta : TE} {p p2 q pos : Pos} (hc : X.calm = true) (hg : Gl X "sorted") (hm : X.mg "sorted" = none) (hg2 : Gl X "set") (hm2 : X.mg "set" = none) (ha : PE X a ta) (na : starEach [a] X.env = (false, eval a X.env) :: starEach [] X.env := by rfl) :
    PE X (.Call (.Name "sorted" p) [.Call (.Name "set" p2) [a] [] q] [] pos) (tSortSetN X.K ta) := by
  refine ⟨fun pins s σ H Q I h => Call_ (ld_blt I hg hm boot_sorted (callWith_builtin1 (args_cons (Call_ (ld_blt I hg2 hm2 boot_set (callWith_type1 (args_cons ?arg na) na rfl))) rfl) rfl rfl))⟩
  refine thn (ha.run pins s σ H _ I h) fun v s1 ⟨x, H1, I1, r1, l, ns, e, sq, few, done⟩ => args_nil ?_
  subst e; cases r1
  obtain ⟨its, rv, pl, _⟩ := I1.list sq
  refine set_of_list ns (I1.ok.hd hc) pl.isList (by simpa using ints_of_vals rv) (by unfold scanBound; omega) fun h2 tk n R hn kept => args_nil ?_
  have I2 : Inv X pins σ H1 { s1 with heap := h2, toks := tk } := I1.kept fun b o e => kept b o e
  exact sortedN_keep I2 hc R (by omega) fun p s3 free J => ⟨.ref p, _, J, rfl, done p free⟩
section
variable {X : Cx} {g : Ct} {a : Expr} {f : Env' → T D} {pos : Pos}
def oSortSetN (x : D) : T D := match x with
  | .list ds => match intsOf ds with
    | some ns => if ns.length < 4000 then .ret (.list ((sortU ns).map PyData.int)) else .bad
    | none => .bad
  | _ => .bad
theorem r_sortSetN {p p2 q : Pos} (hc : X.calm = true) (hg : Gl X "sorted") (hm : X.mg "sorted" = none) (hg2 : Gl X "set") (hm2 : X.mg "set" = none) (ha : PE X a (tE g f)) (na : starEach [a] X.env = (false, eval a X.env) :: starEach [] X.env := by rfl) :
    PE X (.Call (.Name "sorted" p) [.Call (.Name "set" p2) [a] [] q] [] pos) (tE g (eUn oSortSetN f)) :=
  (pe_sortSetN hc hg hm hg2 hm2 ha na).imp fun σ H Q ⟨β, H0, ρ, rr, q⟩ => tE_then rr q fun d v H1 H2 st hv q1 => by
    cases hv with
    | lst h1 h2 =>
      unfold oSortSetN at q1
      simp only at q1
      split at q1
      · next ns hn =>
        rw [intsOf_some hn] at h2
        rw [h2.ints_eq] at h1
        split at q1
        · next c =>
          refine ⟨_, ns, rfl, SqL.of (st.ext _ _ h1), c, fun p0 hp => ?_⟩
          have hp1 : _ = none := st.ext.free hp
          exact q1 (.ref p0) _ _ (st.trans (Stp.new st.ext st.ok st.boxf hp)) (.lst upd_same (upd_has hp1 (has_ints _)))
        · exact q1.elim
      · exact q1.elim
    | _ => exact q1.elim
@[simp] theorem oSortSetN_i {ns : List Int} : oSortSetN (.list (ns.map PyData.int)) = if ns.length < 4000 then .ret (.list ((sortU ns).map PyData.int)) else .bad := by
  unfold oSortSetN
  simp only [intsOf_map]
end
/-! ### min, max of a tuple of ints -/
theorem dataLt_int (i j : Int) : PySem.W.dataLt (.int i) (.int j) = decide (i < j) := by
  by_cases h : i < j
  · simp [PySem.W.dataLt, PySem.W.keyToks, PyProof.Rows.lexLt, itemOrd, itemLt, h]
  · simp [PySem.W.dataLt, PySem.W.keyToks, PyProof.Rows.lexLt, itemOrd, itemLt, h]
theorem minD_ints : ∀ (ns : List Int) (n : Int), PySem.W.minD (.int n) (ns.map PyData.int) = .int (mnZ n ns)
  | [], n => rfl
  | m :: ns, n => by
    have h := minD_ints ns (if m < n then m else n)
    show PySem.W.minD (if PySem.W.dataLt (.int m) (.int n) then .int m else .int n) (ns.map PyData.int) = .int (mnZ (if m < n then m else n) ns)
    rw [dataLt_int, ← h]
    by_cases c : m < n <;> simp [c]
theorem maxD_ints : ∀ (ns : List Int) (n : Int), PySem.W.maxD (.int n) (ns.map PyData.int) = .int (mxZ n ns)
  | [], n => rfl
  | m :: ns, n => by
    have h := maxD_ints ns (if m > n then m else n)
    show PySem.W.maxD (if PySem.W.dataLt (.int n) (.int m) then .int m else .int n) (ns.map PyData.int) = .int (mxZ (if m > n then m else n) ns)
    rw [dataLt_int, ← h]
    by_cases c : n < m <;> simp [c]
theorem alike_ints (ns : List Int) : PySem.W.AlikeAll (ns.map PyData.int) := by
  refine ⟨fun x hx y hy => ?_, fun x hx e => ?_⟩
  · obtain ⟨i, _, rfl⟩ := List.mem_map.mp hx
    obtain ⟨j, _, rfl⟩ := List.mem_map.mp hy
    rfl
  · obtain ⟨i, _, rfl⟩ := List.mem_map.mp hx
    cases e
theorem dp_ints {K : PySem.W.Frag} {H : Hp} : ∀ ns : List Int, DpAll K H (ns.map V.int) (ns.map PyData.int)
  | [] => .nil
  | n :: ns => .cons (.int n) (dp_ints ns)
def rMinT (K : PySem.W.Frag) : List V → Hp → VK → Prop := fun xs H Q => ∃ (a : Addr) (n : Int) (ns : List Int), xs = [V.ref a] ∧ SqT K H a ((n :: ns).map V.int) ∧ Q (.int (mnZ n ns)) H
def rMaxT (K : PySem.W.Frag) : List V → Hp → VK → Prop := fun xs H Q => ∃ (a : Addr) (n : Int) (ns : List Int), xs = [V.ref a] ∧ SqT K H a ((n :: ns).map V.int) ∧ Q (.int (mxZ n ns)) H
theorem cr_minT {X : Cx} (hc : X.calm = true) (hu : X.A.units + 65 < cLine) : CallR X (.builtin "min") (rMinT X.K) := by
  intro pins s σ H xs us Q I r h
  obtain ⟨a, n, ns, rfl, hs, q⟩ := h
  obtain ⟨its, rv, hl, hlen⟩ := I.tuple hs
  rw [Vals.ref1 r]
  obtain ⟨as, h4⟩ := Dp.readsAll I ((n :: ns).map PyData.int) _ its (dp_ints _) rv
  have hroom : X.A.units + 1 + PyData.depthAll (.int n :: ns.map PyData.int) < cLine := by
    have h3 := (ints_lay (n :: ns)).2.2
    have h3 : PyData.depthAll (.int n :: ns.map PyData.int) ≤ 1 := h3
    omega
  refine PySem.W.min_tuple_data (vs := its.toArray) (x := .int n) (xs := ns.map PyData.int) (I.ok.hd hc) hl (show ReadsAll s.heap its.toArray.toList _ as from h4) (alike_ints (n :: ns)) hroom fun i v h' tk bs hi hr hk => ?_
  rw [minD_ints] at hr
  obtain ⟨t, rfl⟩ : ∃ t, v = .int (mnZ n ns) t := by
    cases hr
    exact ⟨_, rfl⟩
  exact ⟨.int _, H, I.kept hk, ⟨_, rfl⟩, q⟩
theorem cr_maxT {X : Cx} (hc : X.calm = true) (hu : X.A.units + 65 < cLine) : CallR X (.builtin "max") (rMaxT X.K) := by
  intro pins s σ H xs us Q I r h
  obtain ⟨a, n, ns, rfl, hs, q⟩ := h
  obtain ⟨its, rv, hl, hlen⟩ := I.tuple hs
  rw [Vals.ref1 r]
  obtain ⟨as, h4⟩ := Dp.readsAll I ((n :: ns).map PyData.int) _ its (dp_ints _) rv
  have hroom : X.A.units + 1 + PyData.depthAll (.int n :: ns.map PyData.int) < cLine := by
    have h3 := (ints_lay (n :: ns)).2.2
    have h3 : PyData.depthAll (.int n :: ns.map PyData.int) ≤ 1 := h3
    omega
  refine PySem.W.max_tuple_data (vs := its.toArray) (x := .int n) (xs := ns.map PyData.int) (I.ok.hd hc) hl (show ReadsAll s.heap its.toArray.toList _ as from h4) (alike_ints (n :: ns)) hroom fun i v h' tk bs hi hr hk => ?_
  rw [maxD_ints] at hr
  obtain ⟨t, rfl⟩ : ∃ t, v = .int (mxZ n ns) t := by
    cases hr
    exact ⟨_, rfl⟩
  exact ⟨.int _, H, I.kept hk, ⟨_, rfl⟩, q⟩
def CallR.or {X : Cx} {c : Value} {r r' : List V → Hp → VK → Prop} (h : CallR X c r) (h' : CallR X c r') : CallR X c (fun xs H Q => r xs H Q ∨ r' xs H Q) := fun pins s σ H xs us Q I rv z => z.elim (h pins s σ H xs us Q I rv) (h' pins s σ H xs us Q I rv)
def rMinS (K : PySem.W.Frag) : List V → Hp → VK → Prop := fun xs H Q => rMin K xs H Q ∨ rMinT K xs H Q
def rMaxS (K : PySem.W.Frag) : List V → Hp → VK → Prop := fun xs H Q => rMax K xs H Q ∨ rMaxT K xs H Q
theorem cr_minS {X : Cx} (hc : X.calm = true) (hu : X.A.units + 65 < cLine) : CallR X (.builtin "min") (rMinS X.K) := CallR.or (cr_min hc) (cr_minT hc hu)
theorem cr_maxS {X : Cx} (hc : X.calm = true) (hu : X.A.units + 65 < cLine) : CallR X (.builtin "max") (rMaxS X.K) := CallR.or (cr_max hc) (cr_maxT hc hu)
def oMinS : D → T D
  | .tuple xs => match intsOf xs with
    | some (n :: ns) => .ret (.int (mnZ n ns))
    | _ => .bad
  | d => oMinL d
def oMaxS : D → T D
  | .tuple xs => match intsOf xs with
    | some (n :: ns) => .ret (.int (mxZ n ns))
    | _ => .bad
  | d => oMaxL d
theorem d_minS {K : PySem.W.Frag} : CaD (rMinS K) (o1 oMinS) := by
  apply d_1
  intro β H0 H v x Q E e ok bf hv q
  cases hv with
  | tup h1 h2 =>
    unfold oMinS at q
    simp only at q
    split at q
    · next n ns hn =>
      rw [intsOf_some hn] at h2
      rw [h2.ints_eq] at h1
      exact .inr ⟨_, n, ns, rfl, SqT.of (e _ _ h1), out_ret e ok bf (.int _) q⟩
    · exact q.elim
  | lst h1 h2 =>
    have q : (oMinL (.list _)).wp _ _ := q
    unfold oMinL at q
    simp only at q
    split at q
    · next n ns hn =>
      rw [intsOf_some hn] at h2
      rw [h2.ints_eq] at h1
      refine .inl ⟨_, n :: ns, rfl, SqL.of (e _ _ h1), by simp, fun m hm hle => ?_⟩
      have em : m = mnZ n ns := by
        have a := mnZ_le ns n m hm
        have b := hle _ (mnZ_mem ns n)
        omega
      rw [em]
      exact out_ret e ok bf (.int _) q
    · exact q.elim
  | _ => exact q.elim
theorem d_maxS {K : PySem.W.Frag} : CaD (rMaxS K) (o1 oMaxS) := by
  apply d_1
  intro β H0 H v x Q E e ok bf hv q
  cases hv with
  | tup h1 h2 =>
    unfold oMaxS at q
    simp only at q
    split at q
    · next n ns hn =>
      rw [intsOf_some hn] at h2
      rw [h2.ints_eq] at h1
      exact .inr ⟨_, n, ns, rfl, SqT.of (e _ _ h1), out_ret e ok bf (.int _) q⟩
    · exact q.elim
  | lst h1 h2 =>
    have q : (oMaxL (.list _)).wp _ _ := q
    unfold oMaxL at q
    simp only at q
    split at q
    · next n ns hn =>
      rw [intsOf_some hn] at h2
      rw [h2.ints_eq] at h1
      refine .inl ⟨_, n :: ns, rfl, SqL.of (e _ _ h1), by simp, fun m hm hle => ?_⟩
      have em : m = mxZ n ns := by
        have a := mxZ_ge ns n m hm
        have b := hle _ (mxZ_mem ns n)
        omega
      rw [em]
      exact out_ret e ok bf (.int _) q
    · exact q.elim
  | _ => exact q.elim
@[simp] theorem oMinS_list {xs : List D} : oMinS (.list xs) = oMinL (.list xs) := rfl
@[simp] theorem oMaxS_list {xs : List D} : oMaxS (.list xs) = oMaxL (.list xs) := rfl
@[simp] theorem oMinS_tuple {n : Int} {ns : List Int} : oMinS (.tuple (.int n :: ns.map PyData.int)) = .ret (.int (mnZ n ns)) := by
  have e : PyData.int n :: ns.map PyData.int = (n :: ns).map PyData.int := rfl
  rw [e]
  unfold oMinS
  simp only [intsOf_map]
@[simp] theorem oMaxS_tuple {n : Int} {ns : List Int} : oMaxS (.tuple (.int n :: ns.map PyData.int)) = .ret (.int (mxZ n ns)) := by
  have e : PyData.int n :: ns.map PyData.int = (n :: ns).map PyData.int := rfl
  rw [e]
  unfold oMaxS
  simp only [intsOf_map]
end Wb

set_option Elab.async false
set_option linter.all false
set_option maxRecDepth 100000
set_option maxHeartbeats 4000000
/-! Wb, part 48: for i, (x, y) in enumerate(zip(a, b)); a, b each a list or a tuple. -/
namespace Wb
open PySem PySem.Spec PyProof.Rows L2 RZ
/-- a zip, in whatever state its tuple is -/
abbrev IsZF (h : Heap) (z a b : Addr) (f0 : Value) (fl : Bool) : Prop :=
  h.get? z = some { cls := .type "zip", dict := none, data := .fields #[f0, .bool fl, .bool false, .ref a, .ref b], slots := #[] }
def okF (f0 : Value) : Prop := f0 = .none ∨ ∃ T : Nat, f0 = rawInt (T : Int)
section
variable {prog : Program} {w : World} {A : Around} {E : Value → Shared → Prop} {s : Shared}
theorem zfree {z a b : Addr} {f0 : Value} {fl : Bool} {Q : Bool → Shared → Prop} (zz : IsZF s.heap z a b f0 fl) (ok : okF f0) (q1 : Q true s)
    (q2 : ∀ h', IsZF h' z a b f0 true → Heap.SameBut z s.heap h' → Q false { s with heap := h' }) : wpAny (model prog w) A (Builtin.SmallTypes.ownedTupleIsFree (.ref z)) Q E s := by
  unfold Builtin.SmallTypes.ownedTupleIsFree
  refine wpAny_bind (wpAny_field zz rfl (x := f0) rfl ?_)
  rcases ok with rfl | ⟨T, rfl⟩
  · exact wpAny_pure q1
  · show wpAny _ _ (loadIfAlive ((T : Int).toNat) >>= _) _ _ _
    rw [Int.toNat_natCast]
    refine wpAny_bind ?_
    have alive : ∀ {R : Option Obj → Shared → Prop}, R (s.heap.get? T) s → wpAny (model prog w) A (loadIfAlive T) R E s := fun h _ _ _ => h
    refine alive ?_
    cases s.heap.get? T with
    | none => exact wpAny_pure q1
    | some o =>
      simp only [Option.isNone_some, Bool.false_eq_true, if_false]
      refine wpAny_bind (wpAny_field zz rfl (x := .bool fl) rfl ?_)
      cases fl with
      | true => rw [if_neg (show ¬ ((Value.bool true != Value.bool true) = true) from Bool.false_ne_true)]; exact wpAny_pure (q2 s.heap zz (Heap.SameBut.refl _ _))
      | false => rw [if_pos (show (Value.bool false != Value.bool true) = true from rfl)]; exact wpAny_bind (wpAny_setField_rec zz (by simp) fun h1 z1 s1 => wpAny_pure (q2 h1 z1 s1))
/-- the objects of a zip, at its turn -/
structure ZfAt (t1 t2 : Bool) (h : Heap) (z a b j1 j2 l1 l2 : Addr) (k : Nat) : Prop where
  zz : ∃ f0 fl, IsZF h z a b f0 fl ∧ okF f0
  pa : IsPair h a (.ref j1) (.ref j2)
  pb : ∃ u v, IsPair h b u v
  i1 : ItOf t1 h j1 l1 k
  i2 : ItOf t2 h j2 l2 k
theorem zf_next {t1 t2 : Bool} {z a b j1 j2 l1 l2 : Addr} {k : Nat} {xs ys : Array Value} {x y : Value} {Q : Value → Shared → Prop} (D : ZipApart z a b j1 j2 l1 l2) (Z : ZfAt t1 t2 s.heap z a b j1 j2 l1 l2 k)
    (q1 : SqOf t1 s.heap l1 xs) (q2 : SqOf t2 s.heap l2 ys) (ex : xs[k]? = some x) (ey : ys[k]? = some y)
    (q : ∀ h', ZfAt t1 t2 h' z a b j1 j2 l1 l2 (k + 1) → IsPair h' s.heap.objs.size x y → h'.objs.size = s.heap.objs.size + 1 →
      (∀ c o, c ≠ z → c ≠ b → c ≠ j1 → c ≠ j2 → s.heap.get? c = some o → h'.get? c = some o) → Q (.ref s.heap.objs.size) { s with heap := h' }) :
    wpAny (model prog w) A (Builtin.«zip.__next__» ⟨[.ref z], []⟩) (fun r s' => ∃ v, r = .done (.ret v) ∧ Q v s') E s := by
  obtain ⟨⟨f0, fl, zz, okf⟩, pa, ⟨u, v, pb⟩, i1, i2⟩ := Z
  show wpAny _ _ (field (.ref z) 2 >>= _) _ _ _; refine wpAny_bind (wpAny_field zz rfl (x := .bool false) rfl ?_)
  show wpAny _ _ (field (.ref z) 3 >>= _) _ _ _; refine wpAny_bind (wpAny_field zz rfl (x := .ref a) rfl ?_)
  refine wpAny_bind (wpAny_seqItems pa rfl ?_)
  show wpAny _ _ (Builtin.SmallTypes.ownedTupleIsFree (.ref z) >>= _) _ _ _
  refine wpAny_bind (zfree zz okf ?free fun g1 zz1 s1 => ?held)
  case free =>
    simp only [if_true]; refine wpAny_bind (wpAny_rule ?_)
    refine wpAny_bind (wpAny_field zz rfl (x := .ref b) rfl ?_); refine wpAny_bind (wpAny_setField_rec zz (by simp) fun g1 zz1 s1 => ?_)
    replace zz1 : IsZF g1 z a b .ellipsis fl := zz1
    refine wpAny_bind ?_; simp only [List.zipIdx_cons, List.zipIdx_nil, List.forIn_cons, List.forIn_nil]
    refine wpAny_bind (wpAny_bind (wpAny_onRaise ?_)); show wpAny _ _ (Builtin.SmallTypes.nextOf (.ref j1) >>= _) _ _ _
    refine wpAny_bind (step_of (i1.ext s1.extBut D.i1z) (q1.ext s1.extBut D.l1z) ex fun g2 i12 s2 => wpAny_pure ?_)
    have pb2 : IsPair g2 b u v := s2.extBut _ _ D.TOi1 (s1.extBut _ _ D.TOz pb)
    refine wpAny_bind (wpAny_seqItems pb2 rfl ?_); refine wpAny_bind (wpAny_updateSeq_pair pb2 fun g3 pb3 s3 => ?_)
    replace pb3 : IsPair g3 b x v := pb3
    refine wpAny_bind (wpAny_letGo (wpAny_pure ?_)); refine wpAny_bind (wpAny_bind (wpAny_onRaise ?_))
    show wpAny _ _ (Builtin.SmallTypes.nextOf (.ref j2) >>= _) _ _ _
    refine wpAny_bind (step_of (((i2.ext s1.extBut D.i2z).ext s2.extBut D.i12.symm).ext s3.extBut D.TOi2.symm) (((q2.ext s1.extBut D.l2z).ext s2.extBut D.l2i1).ext s3.extBut D.l2TO) ey fun g4 i24 s4 => wpAny_pure ?_)
    have pb4 : IsPair g4 b x v := s4.extBut _ _ D.TOi2 pb3
    refine wpAny_bind (wpAny_seqItems pb4 rfl ?_); refine wpAny_bind (wpAny_updateSeq_pair pb4 fun g5 pb5 s5 => ?_)
    replace pb5 : IsPair g5 b x y := pb5
    refine wpAny_bind (wpAny_letGo (wpAny_pure (wpAny_pure ?_))); refine wpAny_bind (wpAny_seqItems pb5 rfl ?_)
    refine wpAny_bind (wpAny_newTuple ?_)
    have sz5 : g5.objs.size = s.heap.objs.size := by rw [s5.1, s4.1, s3.1, s2.1, s1.1]
    have zz5 : IsZF g5 z a b .ellipsis fl := s5.extBut _ _ D.TOz.symm (s4.extBut _ _ D.i2z.symm (s3.extBut _ _ D.TOz.symm (s2.extBut _ _ D.i1z.symm zz1)))
    have keep5 : ∀ c o, c ≠ z → c ≠ b → c ≠ j1 → c ≠ j2 → s.heap.get? c = some o → g5.get? c = some o := fun c o n1 n2 n3 n4 e =>
      s5.extBut _ _ n2 (s4.extBut _ _ n4 (s3.extBut _ _ n2 (s2.extBut _ _ n3 (s1.extBut _ _ n1 e))))
    have i15 : ItOf t1 g5 j1 l1 (k + 1) := ((i12.ext s3.extBut D.TOi1.symm).ext s4.extBut D.i12).ext s5.extBut D.TOi1.symm
    have i25 : ItOf t2 g5 j2 l2 (k + 1) := i24.ext s5.extBut D.TOi2.symm
    have zlt : z < g5.objs.size := Heap.lt_size zz5
    show wpAny _ _ (Builtin.SmallTypes.ownedTupleHandOut (.ref z) (.ref g5.objs.size) >>= _) _ _ _; refine wpAny_bind ?_
    unfold Builtin.SmallTypes.ownedTupleHandOut; have zz6 : IsZF (g5.push { cls := .type "tuple", data := .seq #[x, y] }) z a b .ellipsis fl := Heap.get?_push_of_some _ zz5
    refine wpAny_bind (wpAny_setField_rec zz6 (by simp) fun g7 zz7 s7 => ?_); replace zz7 : IsZF g7 z a b (rawInt g5.objs.size) fl := zz7
    refine wpAny_setField_rec zz7 (by simp) fun g8 zz8 s8 => ?_; replace zz8 : IsZF g8 z a b (rawInt g5.objs.size) false := zz8
    have up : ∀ c o, c ≠ z → g5.get? c = some o → g8.get? c = some o := fun c o n e => s8.extBut _ _ n (s7.extBut _ _ n (Heap.get?_push_of_some _ e))
    have new8 : IsPair g8 g5.objs.size x y := s8.extBut _ _ (Nat.ne_of_gt zlt) (s7.extBut _ _ (Nat.ne_of_gt zlt) (Heap.get?_push_size _ rfl))
    have sz8 : g8.objs.size = g5.objs.size + 1 := by rw [s8.1, s7.1, Heap.size_push]
    refine wpAny_pure ⟨_, rfl, ?_⟩; show Q (.ref g5.objs.size) _
    have pa8 : IsPair g8 a (.ref j1) (.ref j2) := up _ _ D.TIz (keep5 _ _ D.TIz D.TITO D.TIi1 D.TIi2 pa)
    rw [sz5] at zz8 new8 sz8 ⊢
    exact q g8 ⟨⟨_, _, zz8, .inr ⟨_, rfl⟩⟩, pa8, ⟨_, _, up _ _ D.TOz pb5⟩, i15.same fun o e => up _ o D.i1z e, i25.same fun o e => up _ o D.i2z e⟩ new8 sz8 fun c o n1 n2 n3 n4 e => up c o n1 (keep5 c o n1 n2 n3 n4 e)
  case held =>
    simp only [Bool.false_eq_true, if_false]
    refine wpAny_bind ?_
    rw [← Array.forIn_toList]
    simp only [List.forIn_cons, List.forIn_nil]
    refine wpAny_bind (wpAny_bind (wpAny_holding ?_)); show wpAny _ _ (Builtin.SmallTypes.nextOf (.ref j1) >>= _) _ _ _
    refine wpAny_bind (step_of (s := { s with heap := g1 }) (i1.ext s1.extBut D.i1z) (q1.ext s1.extBut D.l1z) ex fun g2 i12 s2 => wpAny_pure (wpAny_pure ?_))
    refine wpAny_bind (wpAny_bind (wpAny_holding ?_)); show wpAny _ _ (Builtin.SmallTypes.nextOf (.ref j2) >>= _) _ _ _
    refine wpAny_bind (step_of (s := { s with heap := g2 }) ((i2.ext s1.extBut D.i2z).ext s2.extBut D.i12.symm) ((q2.ext s1.extBut D.l2z).ext s2.extBut D.l2i1) ey fun g3 i23 s3 => wpAny_pure (wpAny_pure (wpAny_pure ?_)))
    show wpAny _ _ (newTuple [x, y] >>= _) _ _ _
    refine wpAny_bind (wpAny_newTuple ?_)
    have sz3 : g3.objs.size = s.heap.objs.size := by rw [s3.1, s2.1, s1.1]
    have zz3 : IsZF g3 z a b f0 true := s3.extBut _ _ D.i2z.symm (s2.extBut _ _ D.i1z.symm zz1)
    have keep3 : ∀ c o, c ≠ z → c ≠ j1 → c ≠ j2 → s.heap.get? c = some o → g3.get? c = some o := fun c o n1 n3 n4 e => s3.extBut _ _ n4 (s2.extBut _ _ n3 (s1.extBut _ _ n1 e))
    refine wpAny_pure ⟨_, rfl, ?_⟩; show Q (.ref g3.objs.size) _
    have new4 : IsPair (g3.push { cls := .type "tuple", data := .seq #[x, y] }) g3.objs.size x y := Heap.get?_push_size _ rfl
    have sz4 : (g3.push { cls := .type "tuple", data := .seq #[x, y] }).objs.size = g3.objs.size + 1 := Heap.size_push ..
    rw [sz3] at new4 sz4 ⊢
    exact q _ ⟨⟨f0, true, Heap.get?_push_of_some _ zz3, okf⟩, Heap.get?_push_of_some _ (keep3 _ _ D.TIz D.TIi1 D.TIi2 pa), ⟨u, v, Heap.get?_push_of_some _ (keep3 _ _ D.TOz D.TOi1 D.TOi2 pb)⟩,
      (i12.ext s3.extBut D.i12).same fun o e => Heap.get?_push_of_some _ e, i23.same fun o e => Heap.get?_push_of_some _ e⟩ new4 sz4 fun c o n1 _ n3 n4 e => Heap.get?_push_of_some _ (keep3 c o n1 n3 n4 e)
theorem zf_end {t1 t2 : Bool} {z a b j1 j2 l1 l2 : Addr} {k : Nat} {xs ys : Array Value} {Q : Fin → Shared → Prop} (hh : A.handled = none) (D : ZipApart z a b j1 j2 l1 l2) (Z : ZfAt t1 t2 s.heap z a b j1 j2 l1 l2 k)
    (q1 : SqOf t1 s.heap l1 xs) (q2 : SqOf t2 s.heap l2 ys) (e : xs[k]? = none ∨ ys[k]? = none)
    (q : ∀ h' r, (∀ c o, c ≠ z → c ≠ b → c ≠ j1 → c ≠ j2 → s.heap.get? c = some o → h'.get? c = some o) → (∃ o, h'.get? r = some o ∧ o.cls = .type "StopIteration") → E (.ref r) { s with heap := h' }) :
    wpAny (model prog w) A (Builtin.«zip.__next__» ⟨[.ref z], []⟩) Q E s := by
  obtain ⟨⟨f0, fl, zz, okf⟩, pa, ⟨u, v, pb⟩, i1, i2⟩ := Z
  show wpAny _ _ (field (.ref z) 2 >>= _) _ _ _; refine wpAny_bind (wpAny_field zz rfl (x := .bool false) rfl ?_)
  show wpAny _ _ (field (.ref z) 3 >>= _) _ _ _; refine wpAny_bind (wpAny_field zz rfl (x := .ref a) rfl ?_)
  refine wpAny_bind (wpAny_seqItems pa rfl ?_)
  show wpAny _ _ (Builtin.SmallTypes.ownedTupleIsFree (.ref z) >>= _) _ _ _
  refine wpAny_bind (zfree zz okf ?free fun g1 zz1 s1 => ?held)
  case free =>
    simp only [if_true]; refine wpAny_bind (wpAny_rule ?_)
    refine wpAny_bind (wpAny_field zz rfl (x := .ref b) rfl ?_); refine wpAny_bind (wpAny_setField_rec zz (by simp) fun g1 zz1 s1 => ?_)
    replace zz1 : IsZF g1 z a b .ellipsis fl := zz1
    refine wpAny_bind ?_; simp only [List.zipIdx_cons, List.zipIdx_nil, List.forIn_cons, List.forIn_nil]
    refine wpAny_bind (wpAny_bind (wpAny_onRaise ?_)); show wpAny _ _ (Builtin.SmallTypes.nextOf (.ref j1) >>= _) _ _ _
    cases ex : xs[k]? with
    | none =>
      refine wpAny_bind (last_of hh (i1.ext s1.extBut D.i1z) (q1.ext s1.extBut D.l1z) ex fun g2 r s2 hr => ?_)
      obtain ⟨o, ho, hc⟩ := hr
      have zz2 : IsZF g2 z a b .ellipsis fl := s2 _ _ D.i1z.symm zz1
      have nr : r ≠ z := fun n => by subst n; rw [zz2] at ho; cases ho; simp at hc
      refine wpAny_setField_rec zz2 (by simp) fun g3 _ s3 => q g3 r (fun c o n1 _ n3 _ y => s3.extBut _ _ n1 (s2 _ _ n3 (s1.extBut _ _ n1 y))) ⟨o, s3.extBut _ _ nr ho, hc⟩
    | some x =>
      have ey : ys[k]? = none := by rcases e with n | n; rw [ex] at n; cases n; exact n
      refine wpAny_bind (step_of (i1.ext s1.extBut D.i1z) (q1.ext s1.extBut D.l1z) ex fun g2 i12 s2 => wpAny_pure ?_)
      have pb2 : IsPair g2 b u v := s2.extBut _ _ D.TOi1 (s1.extBut _ _ D.TOz pb)
      refine wpAny_bind (wpAny_seqItems pb2 rfl ?_); refine wpAny_bind (wpAny_updateSeq_pair pb2 fun g3 pb3 s3 => ?_)
      refine wpAny_bind (wpAny_letGo (wpAny_pure ?_)); refine wpAny_bind (wpAny_bind (wpAny_onRaise ?_))
      show wpAny _ _ (Builtin.SmallTypes.nextOf (.ref j2) >>= _) _ _ _
      refine wpAny_bind (last_of hh (((i2.ext s1.extBut D.i2z).ext s2.extBut D.i12.symm).ext s3.extBut D.TOi2.symm) (((q2.ext s1.extBut D.l2z).ext s2.extBut D.l2i1).ext s3.extBut D.l2TO) ey fun g4 r s4 hr => ?_)
      obtain ⟨o, ho, hc⟩ := hr
      have zz4 : IsZF g4 z a b .ellipsis fl := s4 _ _ D.i2z.symm (s3.extBut _ _ D.TOz.symm (s2.extBut _ _ D.i1z.symm zz1))
      have nr : r ≠ z := fun n => by subst n; rw [zz4] at ho; cases ho; simp at hc
      refine wpAny_setField_rec zz4 (by simp) fun g5 _ s5 => q g5 r (fun c o n1 n2 n3 n4 y => s5.extBut _ _ n1 (s4 _ _ n4 (s3.extBut _ _ n2 (s2.extBut _ _ n3 (s1.extBut _ _ n1 y))))) ⟨o, s5.extBut _ _ nr ho, hc⟩
  case held =>
    simp only [Bool.false_eq_true, if_false]
    refine wpAny_bind ?_
    rw [← Array.forIn_toList]
    simp only [List.forIn_cons, List.forIn_nil]
    refine wpAny_bind (wpAny_bind (wpAny_holding ?_)); show wpAny _ _ (Builtin.SmallTypes.nextOf (.ref j1) >>= _) _ _ _
    cases ex : xs[k]? with
    | none =>
      refine wpAny_bind (last_of (s := { s with heap := g1 }) hh (i1.ext s1.extBut D.i1z) (q1.ext s1.extBut D.l1z) ex fun g2 r s2 hr => ?_)
      exact q g2 r (fun c o n1 _ n3 _ y => s2 _ _ n3 (s1.extBut _ _ n1 y)) hr
    | some x =>
      have ey : ys[k]? = none := by rcases e with n | n; rw [ex] at n; cases n; exact n
      refine wpAny_bind (step_of (s := { s with heap := g1 }) (i1.ext s1.extBut D.i1z) (q1.ext s1.extBut D.l1z) ex fun g2 i12 s2 => wpAny_pure (wpAny_pure ?_))
      refine wpAny_bind (wpAny_bind (wpAny_holding ?_)); show wpAny _ _ (Builtin.SmallTypes.nextOf (.ref j2) >>= _) _ _ _
      refine wpAny_bind (last_of (s := { s with heap := g2 }) hh ((i2.ext s1.extBut D.i2z).ext s2.extBut D.i12.symm) ((q2.ext s1.extBut D.l2z).ext s2.extBut D.l2i1) ey fun g3 r s3 hr => ?_)
      exact q g3 r (fun c o n1 _ n3 n4 y => s3 _ _ n4 (s2.extBut _ _ n3 (s1.extBut _ _ n1 y))) hr
/-- as an iterator within another -/
theorem zf_in {t1 t2 : Bool} {z a b j1 j2 l1 l2 : Addr} {k : Nat} {xs ys : Array Value} {x y : Value} {Q : Value → Shared → Prop} (D : ZipApart z a b j1 j2 l1 l2) (Z : ZfAt t1 t2 s.heap z a b j1 j2 l1 l2 k)
    (q1 : SqOf t1 s.heap l1 xs) (q2 : SqOf t2 s.heap l2 ys) (ex : xs[k]? = some x) (ey : ys[k]? = some y)
    (q : ∀ h', ZfAt t1 t2 h' z a b j1 j2 l1 l2 (k + 1) → IsPair h' s.heap.objs.size x y → h'.objs.size = s.heap.objs.size + 1 →
      (∀ c o, c ≠ z → c ≠ b → c ≠ j1 → c ≠ j2 → s.heap.get? c = some o → h'.get? c = some o) → Q (.ref s.heap.objs.size) { s with heap := h' }) :
    wpAny (model prog w) A (Builtin.SmallTypes.nextOf (.ref z)) Q E s := by
  obtain ⟨f0, fl, zz, okf⟩ := id Z.zz
  have ty : s.TypeIs (.ref z) "zip" := ⟨_, zz, rfl⟩
  unfold Builtin.SmallTypes.nextOf
  exact wpAny_bind (wpAny_callSpecial?_slot (name := Str.ofString "__next__") ty F.slot_zip_next (wpAny_call_entry F.slot_zip_next ty F.entry_zip_next
    (zf_next D Z q1 q2 ex ey fun h' e1 e2 e3 e4 => wpAny_pure (q h' e1 e2 e3 e4)) (F.args_zip_next_1 _)))
theorem zf_in_end {t1 t2 : Bool} {z a b j1 j2 l1 l2 : Addr} {k : Nat} {xs ys : Array Value} {Q : Value → Shared → Prop} (hh : A.handled = none) (D : ZipApart z a b j1 j2 l1 l2) (Z : ZfAt t1 t2 s.heap z a b j1 j2 l1 l2 k)
    (q1 : SqOf t1 s.heap l1 xs) (q2 : SqOf t2 s.heap l2 ys) (e : xs[k]? = none ∨ ys[k]? = none)
    (q : ∀ h' r, (∀ c o, c ≠ z → c ≠ b → c ≠ j1 → c ≠ j2 → s.heap.get? c = some o → h'.get? c = some o) → (∃ o, h'.get? r = some o ∧ o.cls = .type "StopIteration") → E (.ref r) { s with heap := h' }) :
    wpAny (model prog w) A (Builtin.SmallTypes.nextOf (.ref z)) Q E s := by
  obtain ⟨f0, fl, zz, okf⟩ := id Z.zz
  have ty : s.TypeIs (.ref z) "zip" := ⟨_, zz, rfl⟩
  unfold Builtin.SmallTypes.nextOf
  exact wpAny_bind (wpAny_callSpecial?_slot (name := Str.ofString "__next__") ty F.slot_zip_next (wpAny_call_entry F.slot_zip_next ty F.entry_zip_next
    (zf_end hh D Z q1 q2 e q) (F.args_zip_next_1 _)))
theorem ez_item {t1 t2 : Bool} {c z a b j1 j2 l1 l2 : Addr} {k : Nat} {xs ys : Array Value} {x y old : Value} {Q : Value → Shared → Prop} (D : ZipApart z a b j1 j2 l1 l2) (dc : c ≠ z ∧ c ≠ a ∧ c ≠ b ∧ c ≠ j1 ∧ c ≠ j2) (ec : IsEnum s.heap c z k old) (Z : ZfAt t1 t2 s.heap z a b j1 j2 l1 l2 k)
    (q1 : SqOf t1 s.heap l1 xs) (q2 : SqOf t2 s.heap l2 ys) (ex : xs[k]? = some x) (ey : ys[k]? = some y)
    (q : ∀ h1 h', (∀ d o, d ≠ z → d ≠ b → d ≠ j1 → d ≠ j2 → s.heap.get? d = some o → h1.get? d = some o) → IsPair h1 s.heap.objs.size x y → h1.objs.size = s.heap.objs.size + 1 →
      IsEnumOut h' c z ((k : Int) + 1) (.ref s.heap.objs.size) (s.heap.objs.size + 1) → ZfAt t1 t2 h' z a b j1 j2 l1 l2 (k + 1) →
      h'.get? (s.heap.objs.size + 1) = some { cls := .type "tuple", data := .seq #[.int k s.toks, .ref s.heap.objs.size] } → h'.objs.size = s.heap.objs.size + 2 →
      (∀ d o, d ≠ c → h1.get? d = some o → h'.get? d = some o) → Q (.ref (s.heap.objs.size + 1)) { s with heap := h', toks := s.toks + 1 }) :
    wpAny (model prog w) A (Builtin.«enumerate.__next__» ⟨[.ref c], []⟩) (fun r s' => ∃ v, r = .done (.ret v) ∧ Q v s') E s := by
  obtain ⟨hp, gn, d, tk, os⟩ := s
  obtain ⟨n1, n2, n3, n4, n5⟩ := dc
  show wpAny _ _ (field (.ref c) 2 >>= _) _ _ _; refine wpAny_bind (wpAny_field ec rfl (x := .ref z) rfl ?_)
  refine wpAny_bind (zf_in D Z q1 q2 ex ey fun g1 Z1 np sz1 k1 => ?_)
  replace np : IsPair g1 hp.objs.size x y := np
  replace sz1 : g1.objs.size = hp.objs.size + 1 := sz1
  have ec1 : IsEnum g1 c z k old := k1 c _ n1 n3 n4 n5 ec
  show wpAny _ _ (field (.ref c) 3 >>= _) _ _ ⟨g1, gn, d, tk, os⟩; refine wpAny_bind (wpAny_field ec1 rfl (x := rawInt k) rfl ?_)
  show wpAny _ _ (field (.ref c) 4 >>= _) _ _ ⟨g1, gn, d, tk, os⟩; refine wpAny_bind (wpAny_field ec1 rfl (x := .none) rfl ?_)
  show wpAny _ _ (mkInt k >>= _) _ _ ⟨g1, gn, d, tk, os⟩; refine wpAny_bind (wpAny_mkInt ?_)
  show wpAny _ _ (setField (.ref c) 3 (rawInt ((k : Int) + 1)) >>= _) _ _ ⟨g1, gn, d, tk + 1, os⟩
  refine wpAny_bind (wpAny_setField_rec ec1 (by simp) fun g2 ec2 s2 => ?_); replace s2 : Heap.SameBut c g1 g2 := s2
  replace ec2 : IsEnum g2 c z ((k : Int) + 1) old := ec2
  show wpAny _ _ (setField (.ref c) 4 .none >>= _) _ _ ⟨g2, gn, d, tk + 1, os⟩; refine wpAny_bind (wpAny_setField_rec ec2 (by simp) fun g3 ec3 s3 => ?_)
  replace s3 : Heap.SameBut c g2 g3 := s3; replace ec3 : IsEnum g3 c z ((k : Int) + 1) old := ec3
  show wpAny _ _ (newTuple [.int k tk, .ref hp.objs.size] >>= _) _ _ ⟨g3, gn, d, tk + 1, os⟩; refine wpAny_bind (wpAny_newTuple ?_)
  have ec4 : IsEnum (g3.push { cls := .type "tuple", data := .seq #[.int k tk, .ref hp.objs.size] }) c z ((k : Int) + 1) old := Heap.get?_push_of_some _ ec3
  generalize e4 : g3.push { cls := .type "tuple", data := .seq #[.int k tk, .ref hp.objs.size] } = g4 at ec4
  have sz3 : g3.objs.size = hp.objs.size + 1 := by rw [s3.1, s2.1, sz1]
  have clt : c < g1.objs.size := Heap.lt_size ec1
  rw [sz1] at clt
  have new4 : g4.get? (hp.objs.size + 1) = some { cls := .type "tuple", data := .seq #[.int k tk, .ref hp.objs.size] } := by rw [← e4, ← sz3]; exact Heap.get?_push_size _ rfl
  have sz4 : g4.objs.size = hp.objs.size + 2 := by rw [← e4, Heap.size_push, sz3]
  have keep4 : ∀ e o, e ≠ c → g1.get? e = some o → g4.get? e = some o := fun e o m y => by
    rw [← e4]; exact Heap.get?_push_of_some _ (s3.extBut e o m (s2.extBut e o m y))
  show wpAny _ _ (Builtin.SmallTypes.ownedTupleIsFree (.ref c) >>= _) _ _ ⟨g4, gn, d, tk + 1, os⟩
  rw [sz3]; clear e4 ec3 s3 ec2 s2 sz3 g3 g2
  refine wpAny_bind ?_; unfold Builtin.SmallTypes.ownedTupleIsFree; refine wpAny_bind (wpAny_field ec4 rfl (x := .none) rfl (wpAny_pure ?_))
  simp only [if_true]; refine wpAny_bind (wpAny_rule ?_); refine wpAny_bind (wpAny_field ec4 rfl (x := old) rfl ?_)
  refine wpAny_bind (wpAny_setField_rec ec4 (by simp) fun g5 ec5 s5 => ?_); replace s5 : Heap.SameBut c g4 g5 := s5
  replace ec5 : IsEnum g5 c z ((k : Int) + 1) (.ref hp.objs.size) := ec5
  show wpAny _ _ (Builtin.SmallTypes.ownedTupleHandOut (.ref c) (.ref (hp.objs.size + 1)) >>= _) _ _ ⟨g5, gn, d, tk + 1, os⟩; refine wpAny_bind ?_
  unfold Builtin.SmallTypes.ownedTupleHandOut; refine wpAny_bind (wpAny_setField_rec ec5 (by simp) fun g6 ec6 s6 => ?_)
  replace s6 : Heap.SameBut c g5 g6 := s6; replace ec6 : IsEnumOut g6 c z ((k : Int) + 1) (.ref hp.objs.size) (hp.objs.size + 1) := ec6
  refine wpAny_setField_rec ec6 (by simp) fun g7 ec7 s7 => ?_; replace s7 : Heap.SameBut c g6 g7 := s7
  replace ec7 : IsEnumOut g7 c z ((k : Int) + 1) (.ref hp.objs.size) (hp.objs.size + 1) := ec7
  have keep7 : ∀ e o, e ≠ c → g1.get? e = some o → g7.get? e = some o := fun e o m y => s7.extBut e o m (s6.extBut e o m (s5.extBut e o m (keep4 e o m y)))
  obtain ⟨⟨f0, fl, zz, okf⟩, pa, ⟨u, v, pb⟩, i1, i2⟩ := Z1
  have Z7 : ZfAt t1 t2 g7 z a b j1 j2 l1 l2 (k + 1) := ⟨⟨f0, fl, keep7 _ _ (Ne.symm n1) zz, okf⟩, keep7 _ _ (Ne.symm n2) pa, ⟨u, v, keep7 _ _ (Ne.symm n3) pb⟩, i1.same fun o e => keep7 _ o (Ne.symm n4) e, i2.same fun o e => keep7 _ o (Ne.symm n5) e⟩
  refine wpAny_bind (wpAny_letGo (wpAny_pure ⟨_, rfl, q g1 g7 k1 np sz1 ec7 Z7 ?_ ?_ keep7⟩))
  · have n := Nat.ne_of_gt clt; exact s7.extBut _ _ n (s6.extBut _ _ n (s5.extBut _ _ n new4))
  · rw [s7.1, s6.1, s5.1, sz4]
theorem ez_py {t1 t2 : Bool} {c z a b j1 j2 l1 l2 : Addr} {k : Nat} {xs ys : Array Value} {x y old : Value} {Q : Option Value → Shared → Prop} (D : ZipApart z a b j1 j2 l1 l2) (dc : c ≠ z ∧ c ≠ a ∧ c ≠ b ∧ c ≠ j1 ∧ c ≠ j2) (ec : IsEnum s.heap c z k old) (Z : ZfAt t1 t2 s.heap z a b j1 j2 l1 l2 k)
    (q1 : SqOf t1 s.heap l1 xs) (q2 : SqOf t2 s.heap l2 ys) (ex : xs[k]? = some x) (ey : ys[k]? = some y)
    (q : ∀ h1 h', (∀ d o, d ≠ z → d ≠ b → d ≠ j1 → d ≠ j2 → s.heap.get? d = some o → h1.get? d = some o) → IsPair h1 s.heap.objs.size x y → h1.objs.size = s.heap.objs.size + 1 →
      IsEnumOut h' c z ((k : Int) + 1) (.ref s.heap.objs.size) (s.heap.objs.size + 1) → ZfAt t1 t2 h' z a b j1 j2 l1 l2 (k + 1) →
      h'.get? (s.heap.objs.size + 1) = some { cls := .type "tuple", data := .seq #[.int k s.toks, .ref s.heap.objs.size] } → h'.objs.size = s.heap.objs.size + 2 →
      (∀ d o, d ≠ c → h1.get? d = some o → h'.get? d = some o) → Q (some (.ref (s.heap.objs.size + 1))) { s with heap := h', toks := s.toks + 1 }) : wpAny (model prog w) A (pyNext (.ref c)) Q E s := by
  have ty : s.TypeIs (.ref c) "enumerate" := ⟨_, ec, rfl⟩
  unfold pyNext
  exact wpAny_bind (wpAny_attempt (wpAny_callSpecial?_slot (name := Str.ofString "__next__") ty F.slot_enumerate_next (wpAny_call_entry F.slot_enumerate_next ty F.entry_enumerate_next
    (ez_item D dc ec Z q1 q2 ex ey fun h1 h' e1 e2 e3 e4 e5 e6 e7 e8 => wpAny_pure (q h1 h' e1 e2 e3 e4 e5 e6 e7 e8)) (F.args_enumerate_next_1 _))))
theorem ez_py_end {t1 t2 : Bool} {c z a b j1 j2 l1 l2 : Addr} {k : Nat} {xs ys : Array Value} {old : Value} {Q : Option Value → Shared → Prop} (hh : A.handled = none) (D : ZipApart z a b j1 j2 l1 l2) (ec : IsEnum s.heap c z k old) (Z : ZfAt t1 t2 s.heap z a b j1 j2 l1 l2 k)
    (q1 : SqOf t1 s.heap l1 xs) (q2 : SqOf t2 s.heap l2 ys) (e : xs[k]? = none ∨ ys[k]? = none)
    (q : ∀ h', (∀ d o, d ≠ z → d ≠ b → d ≠ j1 → d ≠ j2 → s.heap.get? d = some o → h'.get? d = some o) → Q none { s with heap := h' }) : wpAny (model prog w) A (pyNext (.ref c)) Q E s := by
  have ty : s.TypeIs (.ref c) "enumerate" := ⟨_, ec, rfl⟩
  unfold pyNext
  refine wpAny_bind (wpAny_attempt (wpAny_callSpecial?_slot (name := Str.ofString "__next__") ty F.slot_enumerate_next (wpAny_call_entry F.slot_enumerate_next ty F.entry_enumerate_next ?_ (F.args_enumerate_next_1 _))))
  show wpAny _ _ (field (.ref c) 2 >>= _) _ _ _; refine wpAny_bind (wpAny_field ec rfl (x := .ref z) rfl ?_)
  refine wpAny_bind (zf_in_end hh D Z q1 q2 e fun h' r eb hr => ?_)
  obtain ⟨o, ho, hc⟩ := hr
  refine wpAny_bind (wpAny_isInstance (T := "StopIteration") (b := true) ⟨o, ho, hc⟩ isSubtype_stop ?_); exact wpAny_pure (q _ eb)
end
abbrev ezh (h : Heap) (z : Addr) : Heap := h.push { cls := .type "enumerate", data := .fields #[.none, .bool false, .ref z, rawInt 0, .none, .none] }
theorem ezmake (z a b : Addr) :
    Meets (Builtin.«enumerate.__new__» ⟨[.type "enumerate", .ref z], []⟩) (fun _ R s => IsZip s.heap z a b .none ∧ R (.ok (.ret (.ref s.heap.objs.size))) { s with heap := ezh s.heap z }) :=
  .of_wp fun prog w A R s h => by
    obtain ⟨hp, gn, d, tk, os⟩ := s; obtain ⟨zz, h⟩ := h
    have sb := sub_enumerate
    wp_walk using PySem.AutoSeq1.wpAny_loadPart' zz
    refine wpAny_stack_any fun st => wpAny_pure ?_
    split
    · rename_i c _ _ _ _ _
      cases (c == Value.type "enumerate")
      · wp_walk using PySem.AutoSeq1.wpAny_loadPart' zz, wpAny_pyIter_zip zz
        exact ⟨_, rfl, h⟩
      · wp_walk using PySem.AutoSeq1.wpAny_loadPart' zz, wpAny_pyIter_zip zz
        exact ⟨_, rfl, h⟩
    · wp_walk using PySem.AutoSeq1.wpAny_loadPart' zz, wpAny_pyIter_zip zz
      exact ⟨_, rfl, h⟩
section
variable {prog : Program} {w : World} {A : Around} {E : Value → Shared → Prop} {s : Shared}
/-- enumerate(z), z a zip -/
theorem ezcall {z a b : Addr} {Q : Value → Shared → Prop} (zz : IsZip s.heap z a b .none)
    (h : ∀ h', IsEnum h' s.heap.objs.size z 0 .none → h'.objs.size = s.heap.objs.size + 1 → (∀ d o, s.heap.get? d = some o → h'.get? d = some o) → Q (.ref s.heap.objs.size) { s with heap := h' }) :
    wpAny (model prog w) A (call (.type "enumerate") [.ref z]) Q E s := by
  refine callType_new F.called_enumerate (by decide) (F.typeCall_enumerate_1 _) (F.newCall_enumerate_1 _) (fun obj => F.args_object_init_2 obj _) F.entry_enumerate_new (ezmake z a b) ⟨zz, ?_⟩
  have n1 : (ezh s.heap z).objs.size = s.heap.objs.size + 1 := Heap.size_push ..
  have f1 : (ezh s.heap z).get? s.heap.objs.size = some _ := Heap.get?_push_size _ rfl
  show _ ∧ _
  exact ⟨⟨_, f1, rfl⟩, h _ f1 n1 fun d o x => Heap.get?_push_of_some _ x⟩
end
def ItEZ (t1 t2 : Bool) (K : PySem.W.Frag) (a b : Addr) : It :=
  ⟨fun i H => ∃ (xs ys : List V) (x y : V), SqV t1 K H a xs ∧ SqV t2 K H b ys ∧ xs[i]? = some x ∧ ys[i]? = some y,
    fun i H v H' => ∃ q p x y, v = .ref p ∧ H q = none ∧ H p = none ∧ p ≠ q ∧ H' = upd (upd H q (.tup [x, y])) p (.tup [.int (i : Nat), .ref q]) ∧ (∀ xs, SqV t1 K H a xs → xs[i]? = some x) ∧ ∀ ys, SqV t2 K H b ys → ys[i]? = some y,
    fun i H => ∃ xs ys : List V, SqV t1 K H a xs ∧ SqV t2 K H b ys ∧ (xs.length ≤ i ∨ ys.length ≤ i)⟩
theorem turnEZ {t1 t2 : Bool} {P : Program} {w : World} {K : PySem.W.Frag} {elts : List Expr} {kk : Nat} {tpos : Pos} {l1 l2 c z a b j1 j2 : Addr} (D : ZipApart z a b j1 j2 l1 l2) (dc : c ≠ z ∧ c ≠ a ∧ c ≠ b ∧ c ≠ j1 ∧ c ≠ j2) :
    Turn P w K (.Tuple elts kk tpos) (ItEZ t1 t2 K l1 l2) [c, z, a, b, j1, j2] c (fun i h => (∃ old, IsEnum h c z ((i : Nat) : Int) old) ∧ ZfAt t1 t2 h z a b j1 j2 l1 l2 i) where
  mem := by simp
  obj := fun i h st d hd => by
    have e : d = c ∨ d = z ∨ d = a ∨ d = b ∨ d = j1 ∨ d = j2 := by simpa using hd
    obtain ⟨⟨old, he⟩, ⟨f0, fl, zz, okf⟩, pa, ⟨u, v, pb⟩, i1, i2⟩ := st
    obtain ⟨o1, v1, e1, d1⟩ := i1.obj
    obtain ⟨o2, v2, e2, d2⟩ := i2.obj
    rcases e with n | n | n | n | n | n
    · rw [n]; exact ⟨_, he, fun v q => nomatch q⟩
    · rw [n]; exact ⟨_, zz, fun v q => nomatch q⟩
    · rw [n]; exact ⟨_, pa, fun v q => nomatch q⟩
    · rw [n]; exact ⟨_, pb, fun v q => nomatch q⟩
    · rw [n]; exact ⟨o1, e1, fun v q => by rw [d1] at q; cases q⟩
    · rw [n]; exact ⟨o2, e2, fun v q => by rw [d2] at q; cases q⟩
  keep := fun i h h' st k => by
    obtain ⟨⟨old, he⟩, ⟨f0, fl, zz, okf⟩, pa, ⟨u, v, pb⟩, i1, i2⟩ := st
    exact ⟨⟨old, k c (by simp) _ he⟩, ⟨f0, fl, k z (by simp) _ zz, okf⟩, k a (by simp) _ pa, ⟨u, v, k b (by simp) _ pb⟩, i1.same fun o q => k j1 (by simp) o q, i2.same fun o q => k j2 (by simp) o q⟩
  item := by
    intro X hP hw hK hc i pins s σ H E I hf st hg
    subst hP hw hK
    obtain ⟨⟨old, he⟩, Z⟩ := st
    obtain ⟨xs, ys, x, y, hqx, hqy, hx, hy⟩ := hg
    obtain ⟨us, ru, q1⟩ := hqx.at I
    obtain ⟨ws, rw', q2⟩ := hqy.at I
    obtain ⟨u, hu, rx⟩ := ru.get hx
    obtain ⟨u2, hu2, ry⟩ := rw'.get hy
    have lts : ∀ d ∈ [c, z, a, b, j1, j2], d < s.heap.objs.size := fun d hcm => by
      have e : d = c ∨ d = z ∨ d = a ∨ d = b ∨ d = j1 ∨ d = j2 := by simpa using hcm
      obtain ⟨⟨f0, fl, zz, okf⟩, pa, ⟨_, _, pb⟩, i1, i2⟩ := id Z
      obtain ⟨o1, v1, e1, _⟩ := i1.obj
      obtain ⟨o2, v2, e2, _⟩ := i2.obj
      rcases e with n | n | n | n | n | n
      · rw [n]; exact Heap.lt_size he
      · rw [n]; exact Heap.lt_size zz
      · rw [n]; exact Heap.lt_size pa
      · rw [n]; exact Heap.lt_size pb
      · rw [n]; exact Heap.lt_size e1
      · rw [n]; exact Heap.lt_size e2
    obtain ⟨N, hN⟩ : ∃ N : Nat, s.heap.objs.size = N := ⟨_, rfl⟩
    refine ez_py D dc he Z q1 q2 (x := u) (y := u2) (by simpa using hu) (by simpa using hu2) fun h1 h' k1 np sz1 ho Z' new' sz' hk => ?_
    refine ⟨_, rfl, wpAny_letOwnedTupleGo_enum (s := { s with heap := h', toks := s.toks + 1 }) ho fun h2 he2 sb => ?_⟩
    have k2 : ∀ d o, d ≠ c → h1.get? d = some o → h2.get? d = some o := fun d o n e => (sb.2 d n).trans (hk d o n e)
    have cN : c ≠ s.heap.objs.size + 1 := Nat.ne_of_lt (Nat.lt_succ_of_lt (lts c (by simp)))
    have cM : c ≠ s.heap.objs.size := Nat.ne_of_lt (lts c (by simp))
    have new2 : h2.get? (s.heap.objs.size + 1) = some { cls := .type "tuple", data := .seq #[.int i s.toks, .ref s.heap.objs.size] } := (sb.2 _ (Ne.symm cN)).trans new'
    have in2 : IsPair h2 s.heap.objs.size u u2 := k2 _ _ (Ne.symm cM) np
    have ok1 : ObjOk X.prog X.w (upd H s.heap.objs.size (.tup [x, y])) h1 s.heap.objs.size (.tup [x, y]) :=
      ⟨by show 2 ≤ sizeLine; decide, [u, u2], .cons rx (.cons ry .nil), ⟨_, np, rfl, _, rfl⟩⟩
    have I1 : Inv X pins σ (upd H s.heap.objs.size (.tup [x, y])) { s with heap := h1 } := by
      refine I.turnedNew (t' := s.toks) (ch := [c, z, a, b, j1, j2]) (fun d o nb q => ?_) hf (Nat.le_refl _) ok1
      have m : ∀ e ∈ [c, z, a, b, j1, j2], d ≠ e := fun e he n => nb (n ▸ he)
      exact k1 d o (m z (by simp)) (m b (by simp)) (m j1 (by simp)) (m j2 (by simp)) q
    have hf1 : ∀ d ∈ [c, z, a, b, j1, j2], FpOk X pins (upd H s.heap.objs.size (.tup [x, y])) d := fun d hd => by
      obtain ⟨f0, f⟩ := hf d hd
      exact ⟨by rw [upd_ne (Nat.ne_of_lt (lts d hd))]; exact f0, f⟩
    have nN : s.heap.objs.size + 1 ≠ s.heap.objs.size := Nat.succ_ne_self _
    have ok2 : ObjOk X.prog X.w (upd (upd H s.heap.objs.size (.tup [x, y])) (s.heap.objs.size + 1) (.tup [.int (i : Nat), .ref s.heap.objs.size])) h2 (s.heap.objs.size + 1) (.tup [.int (i : Nat), .ref s.heap.objs.size]) :=
      ⟨by show 2 ≤ sizeLine; decide, [.int i s.toks, .ref s.heap.objs.size], .cons ⟨_, rfl⟩ (.cons rfl .nil), ⟨_, new2, rfl, _, rfl⟩⟩
    have I2 : Inv X pins σ (upd (upd H s.heap.objs.size (.tup [x, y])) (s.heap.objs.size + 1) (.tup [.int (i : Nat), .ref s.heap.objs.size])) { s with heap := h2, toks := s.toks + 1 } :=
      I1.turnedNew (ch := [c, z, a, b, j1, j2]) (fun d o nb q => k2 d o (fun n => nb (by simp [n])) q) hf1 (by show h1.objs.size ≤ _; rw [sz1]; exact Nat.le_refl _) ok2
    refine ⟨.ref (s.heap.objs.size + 1), _, I2, rfl, ⟨s.heap.objs.size, s.heap.objs.size + 1, x, y, rfl, I.hok.fresh (Nat.le_refl _), I.hok.fresh (Nat.le_succ _), nN, rfl, fun l hl => by rw [hl.inj I hqx]; exact hx, fun l hl => by rw [hl.inj I hqy]; exact hy⟩, ⟨⟨.ref s.heap.objs.size, ?_⟩, ?_⟩, fun d hd => ?_⟩
    · have e1 : ((i + 1 : Nat) : Int) = (i : Int) + 1 := by omega
      rw [e1]; exact he2
    · obtain ⟨⟨f0, fl, zz, okf⟩, pa, ⟨u', v', pb⟩, i1, i2⟩ := Z'
      have sb' : ∀ {d o}, d ≠ c → h'.get? d = some o → h2.get? d = some o := fun {d o} n e => (sb.2 d n).trans e
      exact ⟨⟨f0, fl, sb' dc.1.symm zz, okf⟩, sb' dc.2.1.symm pa, ⟨u', v', sb' dc.2.2.1.symm pb⟩, i1.same fun o e => sb' dc.2.2.2.1.symm e, i2.same fun o e => sb' dc.2.2.2.2.symm e⟩
    · have lt := lts d hd
      rw [upd_ne (Nat.ne_of_lt (Nat.lt_succ_of_lt lt)), upd_ne (Nat.ne_of_lt lt)]
      exact (hf d hd).1
  done := by
    intro X hP hw hK hc i pins s σ H E I hf st hg
    subst hP hw hK
    obtain ⟨⟨old, he⟩, Z⟩ := st
    obtain ⟨xs, ys, hqx, hqy, hh⟩ := hg
    obtain ⟨us, ru, q1⟩ := hqx.at I
    obtain ⟨ws, rw', q2⟩ := hqy.at I
    have n1 := ru.length
    have n2 := rw'.length
    have e : us.toArray[i]? = none ∨ ws.toArray[i]? = none := by
      rcases hh with q | q
      · exact .inl (by simp; omega)
      · exact .inr (by simp; omega)
    refine ez_py_end (I.ok.hd hc) D he Z q1 q2 e fun h' hk => ⟨rfl, I.turnedL (t' := s.toks) (ch := [c, z, a, b, j1, j2]) (fun d o nb q => ?_) hf⟩
    have m : ∀ f ∈ [c, z, a, b, j1, j2], d ≠ f := fun f hd n => nb (n ▸ hd)
    exact hk d o (m z (by simp)) (m b (by simp)) (m j1 (by simp)) (m j2 (by simp)) q
  self := fun A i s Q E st h => let ⟨⟨_, he⟩, _⟩ := st; wpAny_pyIter_enum he h
def iEnumZ (K : PySem.W.Frag) (ta : TA) : TI := fun σ H R => ta σ H fun vs H1 => ∃ t1 t2 a b xs ys, vs = [.ref a, .ref b] ∧ SqV t1 K H1 a xs ∧ SqV t2 K H1 b ys ∧ R (ItEZ t1 t2 K a b) H1
theorem pi_enumZ {X : Cx} {e e2 : Expr} {ta : TA} {p p2 pos pos2 tpos : Pos} {elts : List Expr} {kk : Nat} (hg0 : Gl X "enumerate") (hm0 : X.mg "enumerate" = none) (hg : Gl X "zip") (hm : X.mg "zip" = none) (ha : PA X [e, e2] ta)
    (hs0 : starEach [.Call (.Name "zip" p) [e, e2] [] pos] X.env = [(false, eval (.Call (.Name "zip" p) [e, e2] [] pos) X.env)] := by rfl)
    (hs : starEach [e, e2] X.env = (false, eval e X.env) :: starEach [e2] X.env := by rfl) (hpl : (backTo pos (starEach [e2] X.env)).any (·.1) = false := by rfl) :
    PI X (.Tuple elts kk tpos) (.Call (.Name "enumerate" p2) [.Call (.Name "zip" p) [e, e2] [] pos] [] pos2) (iEnumZ X.K ta) := by
  refine ⟨fun pins s σ H R I h => Call_ (ld_blt I hg0 hm0 boot_enumerate (PyProof.Rows.callWith_type1 (PyProof.Rows.args_cons (Call_ (ld_blt I hg hm PyProof.Rows.boot_zip (PyProof.Rows.callWith_type1 (thn (ha.run pos pins s σ H _ I h) fun us s1 ⟨vs, H1, I1, r1, q1⟩ => ?_) hs hpl))) hs0) hs0 rfl))⟩
  obtain ⟨t1, t2, a, b, xs, ys, ex, hqx, hqy, q⟩ := q1
  subst ex
  cases r1 with
  | cons r rr =>
    cases rr with
    | cons r' rr =>
      cases rr
      cases r
      cases r'
      obtain ⟨us, ru, p1⟩ := hqx.at I1
      obtain ⟨ws, rw', p2⟩ := hqy.at I1
      obtain ⟨o1, e1⟩ := p1.obj
      obtain ⟨o2, e2⟩ := p2.obj
      refine zcall p1 p2 fun h1 Z sz1 k1 => PyProof.Rows.args_nil (ezcall (s := { s1 with heap := h1 }) Z.zz fun h' he sz hk => wpAny_pyIter_enum he ?_)
      have I2 : Inv X pins σ H1 { s1 with heap := h' } := I1.kept (t' := s1.toks) fun d o e => hk d o (k1 d o e)
      have sz1 : h1.objs.size = s1.heap.objs.size + 5 := sz1
      have he : IsEnum h' h1.objs.size (s1.heap.objs.size + 4) 0 .none := he
      have hk : ∀ d o, h1.get? d = some o → h'.get? d = some o := hk
      show PIE X pins σ _ R (.ref h1.objs.size) _
      rw [sz1] at he ⊢
      have D := PySem.W.ktu_apart s1.heap.objs.size a b (Heap.lt_size e1) (Heap.lt_size e2)
      have fp : ∀ d, s1.heap.objs.size ≤ d → FpOk X pins H1 d := fun d hle => I1.fpOk hle (I1.hok.fresh hle)
      generalize s1.heap.objs.size = N at *
      have dc : N + 5 ≠ N + 4 ∧ N + 5 ≠ N + 2 ∧ N + 5 ≠ N + 3 ∧ N + 5 ≠ N ∧ N + 5 ≠ N + 1 := by
        refine ⟨?_, ?_, ?_, ?_, ?_⟩ <;> exact fun z => absurd z (by simp)
      have T := turnEZ (t1 := t1) (t2 := t2) (c := N + 5) (P := X.prog) (w := X.w) (K := X.K) (elts := elts) (kk := kk) (tpos := tpos) D dc
      refine ⟨N + 5, [N + 5, N + 4, N + 2, N + 3, N, N + 1], _, _, H1, rfl, I2, T, ⟨⟨.none, he⟩, ?_⟩, fun d hd => fp d ?_, q⟩
      · obtain ⟨zz, pa, ⟨u, v, pb⟩, i1, i2⟩ := Z
        exact ⟨⟨.none, false, hk _ _ zz, .inl rfl⟩, hk _ _ pa, ⟨u, v, hk _ _ pb⟩, i1.same fun o e => hk _ o e, i2.same fun o e => hk _ o e⟩
      · have m : ∀ k : Nat, N ≤ N + k := fun k => Nat.le_add_right _ k
        simp only [List.mem_cons, List.not_mem_nil, or_false] at hd
        rcases hd with n | n | n | n | n | n
        · rw [n]; exact m 5
        · rw [n]; exact m 4
        · rw [n]; exact m 2
        · rw [n]; exact m 3
        · rw [n]; exact m 0
        · rw [n]; exact m 1
theorem walkEZ {t1 t2 : Bool} {K : PySem.W.Frag} {a b : Addr} {xs ys : List V} {n : Nat} (hn : n = min xs.length ys.length) : Walk (ItEZ t1 t2 K a b) n (fun H => SqV t1 K H a xs ∧ SqV t2 K H b ys)
    (fun i H v H' => ∃ q p x y, v = .ref p ∧ H q = none ∧ H p = none ∧ p ≠ q ∧ H' = upd (upd H q (.tup [x, y])) p (.tup [.int (i : Nat), .ref q]) ∧ xs[i]? = some x ∧ ys[i]? = some y) := by
  subst hn
  refine ⟨fun i _ hi q => ?_, fun _ q => ⟨xs, ys, q.1, q.2, by omega⟩, fun i H v H' _ q y => ?_⟩
  · exact ⟨xs, ys, xs[i]'(by omega), ys[i]'(by omega), q.1, q.2, by rw [List.getElem?_eq_getElem], by rw [List.getElem?_eq_getElem]⟩
  · obtain ⟨q', tp, x, z, h1, h2, h3, h4, h5, h6, h7⟩ := y
    exact ⟨q', tp, x, z, h1, h2, h3, h4, h5, h6 xs q.1, h7 ys q.2⟩
/-- as Gives, two new tuples a turn -/
def Gives2 (J : It) (ds : List D) (H0 : Hp) : Prop := ∃ (G : Hp → Prop) (Y : Nat → Hp → V → Hp → Prop), Walk J ds.length G Y ∧ (∀ H1, Same H0 H1 → G H1) ∧
  ∀ (i : Nat) (H1 : Hp) (x : V) (H2 : Hp) (d : D) (H0' : Hp), ds[i]? = some d → Same H0 H0' → Same H0' H1 → Y i H1 x H2 →
    ∃ q us tp vs es, x = .ref tp ∧ H1 q = none ∧ H1 tp = none ∧ tp ≠ q ∧ H2 = upd (upd H1 q (.tup us)) tp (.tup vs) ∧ d = .tuple es ∧ HasL (upd H0' q (.tup us)) vs es
def tI2 (g : Ct) (f : Env' → T (List D)) : TI := fun σ H R => ∃ β H0 ρ, Rel g.cad β g.ξ H0 ρ σ H ∧
  (f ρ).wp (fun ds => ∀ J H0' H', Stp β H0 H H0' H' → Gives2 J ds H0' → R J H') (g.X β H0 H σ)
theorem gives_enumZ {t1 t2 : Bool} {K : PySem.W.Frag} {H0 : Hp} {a b : Addr} {vs ws : List V} {ds es : List D} (h : HasQ t1 H0 a vs) (hl : HasL H0 vs ds) (h' : HasQ t2 H0 b ws) (hl' : HasL H0 ws es) :
    Gives2 (ItEZ t1 t2 K a b) (numD 0 ((ds.zip es).map fun p => .tuple [p.1, p.2])) H0 := by
  refine ⟨_, _, walkEZ (K := K) (a := a) (b := b) (xs := vs) (ys := ws) (by rw [numD_len]; simp [hl.length, hl'.length]), fun H1 e => ⟨h.sq e, h'.sq e⟩, fun i H1 x H2 d H0' hd e0 e1 y => ?_⟩
  obtain ⟨q, tp, u, w, rfl, hn, hp, ne, rfl, hu, hw⟩ := y
  obtain ⟨d1, a1, a2⟩ := hl.get hu
  obtain ⟨d2, b1, b2⟩ := hl'.get hw
  have e2 : (numD 0 ((ds.zip es).map fun p => PyData.tuple [p.1, p.2]))[i]? = some (.tuple [.int (i : Nat), .tuple [d1, d2]]) := by
    rw [numD_get, List.getElem?_map, (List.getElem?_zip_eq_some (z := (d1, d2))).mpr ⟨a1, b1⟩, Nat.zero_add]
    rfl
  rw [hd] at e2
  cases e2
  have hq0 : H0' q = none := e1.free hn
  exact ⟨q, [u, w], tp, [.int (i : Nat), .ref q], [.int (i : Nat), .tuple [d1, d2]], rfl, hn, hp, ne, rfl, rfl, .cons (.int _) (.cons (.tup upd_same (upd_has hq0 (.cons (a2.mono e0) (.cons (b2.mono e0) .nil)))) .nil)⟩
def oEnumZ : List Ar → T (List D)
  | [.d x, .d y] => match seqD x, seqD y with
    | some (_, xs), some (_, ys) => .ret (numD 0 ((xs.zip ys).map fun p => .tuple [p.1, p.2]))
    | _, _ => .bad
  | _ => .bad
section
variable {X : Cx} {g : Ct} {a b : Expr} {pos pos2 : Pos} {fs : Env' → T (List Ar)}
theorem i_enumZ {p p2 tpos : Pos} {elts : List Expr} {kk : Nat} (hg0 : Gl X "enumerate") (hm0 : X.mg "enumerate" = none) (hg : Gl X "zip") (hm : X.mg "zip" = none) (ha : PA X [a, b] (tA g fs))
    (hs0 : starEach [.Call (.Name "zip" p) [a, b] [] pos] X.env = [(false, eval (.Call (.Name "zip" p) [a, b] [] pos) X.env)] := by rfl)
    (hs : starEach [a, b] X.env = (false, eval a X.env) :: starEach [b] X.env := by rfl) (hpl : (backTo pos (starEach [b] X.env)).any (·.1) = false := by rfl) :
    PI X (.Tuple elts kk tpos) (.Call (.Name "enumerate" p2) [.Call (.Name "zip" p) [a, b] [] pos] [] pos2) (tI2 g (iArg oEnumZ fs)) :=
  (pi_enumZ hg0 hm0 hg hm ha hs0 hs hpl).imp fun σ H R ⟨β, H0, ρ, rr, q⟩ => tA_then (k := oEnumZ) rr q fun as vs H1 H2 st hv q1 => by
    unfold oEnumZ at q1
    split at q1
    · next x y =>
      split at q1
      · next t1 xs t2 ys e1 e2 =>
        obtain ⟨v, w, rfl, h1, h2⟩ := hv.two
        obtain ⟨a1, u1, rfl, k1, l1⟩ := seqD_has h1 e1
        obtain ⟨a2, u2, rfl, k2, l2⟩ := seqD_has h2 e2
        exact ⟨t1, t2, _, _, _, _, rfl, k1.sq st.ext, k2.sq st.ext, q1 _ H1 H2 st (gives_enumZ k1 l1 k2 l2)⟩
      · exact q1.elim
    · exact q1.elim
theorem tI2_lift {β : Box} {A B C H0 H : Hp} {ρ : Env'} {σ : L2.St} {E : Ends} {f : Env' → T (List D)} {k : List D → T Fl} {R : It → Hp → Prop} (r : SR g β A B C H0 ρ σ H) (h : ((f ρ).lift ρ k).wp (FlOut g β A B C E) noE)
    (hq : ∀ ds J H0' H', Stp β H0 H H0' H' → Gives2 J ds H0' → (k ds).wp (FlOut g β A B C E) noE → R J H') : tI2 g f σ H R :=
  ⟨β, H0, ρ, r.rel, T.wp_mono (fun d hd J H1 H2 st gv => hq d J H1 H2 st gv hd) (fun _ z => excX r z) _ ((T.wp_lift _).mp h)⟩
theorem s_for2 {st : Stmt} {F : Env' → T Fl} {it : Env' → T (List D)} {tg : TG} {bd : D → Env' → Option Env'} (hb : PB X.K g tg bd) (hs : PS X st (tFor (tI2 g it) tg (tS g F))) : PS X st (tS g (sFor it bd F)) := hs.imp fun E σ H ⟨β, A, B, C, H0, ρ, r, q⟩ =>
  tI2_lift r q fun ds J H1 H2 s gv q1 => by
    obtain ⟨Gd, Y, walk, hG, hY⟩ := gv
    have r1 := r.step s
    refine for_it walk (D := E) (fun i σ' H' => ∃ H0' ρ', SR g β A B H1 H0' ρ' σ' H' ∧ (forGo bd F (ds.drop i) ρ').wp (FlOut g β A B C E) noE) ⟨H1, ρ, r1.rebase fun _ _ z => z, q1⟩ ?_ ?_ ?_
    · rintro i σ' H' _ ⟨H0', ρ', r', _⟩
      exact hG _ (fun b o z => r'.rel.ext b o (r'.base b o z))
    · rintro i x σ' Hc H3 hi ⟨H0', ρ', r', hw⟩ hy
      have hd : ds[i]? = some ds[i] := List.getElem?_eq_getElem hi
      have ed : ds.drop i = ds[i] :: ds.drop (i + 1) := List.drop_eq_getElem_cons hi
      rw [ed] at hw
      obtain ⟨q, us, tp, vs, es, e1, hq, hp, ne, e2, e3, hu⟩ := hY i Hc x H3 ds[i] H0' hd r'.base r'.rel.ext hy
      subst e1
      subst e2
      have rq := r'.step (r'.rel.new (o := .tup us) hq)
      have hp2 : upd Hc q (.tup us) tp = none := by rw [upd_ne ne]; exact hp
      have rn := rq.step (rq.rel.new (o := .tup vs) hp2)
      have hp0 : upd H0' q (.tup us) tp = none := rq.rel.ext.free hp2
      have hx : Has (upd (upd H0' q (.tup us)) tp (.tup vs)) (.ref tp) ds[i] := by
        rw [e3]
        exact .tup upd_same (upd_has hp0 hu)
      unfold forGo at hw
      split at hw
      · exact hw.elim
      · next ρ1 hb1 =>
        refine hb rn hx hb1 fun σ2 r2 => ⟨β, A, B, H1, _, ρ1, r2, T.wp_mono (fun fl z => ?_) (fun _ z => z) _ ((T.wp_bind _ _).mp hw)⟩
        cases fl with
        | nx ρ2 => exact fun σ' H0' H' r' => ⟨H0', ρ2, r', z⟩
        | cnt ρ2 => exact fun σ' H0' H' r' => ⟨H0', ρ2, r', z⟩
        | brk ρ2 => exact fun σ' H0' H' r' => z σ' H0' H' (r'.rebase (r1.base.trans r'.base))
        | ret d => exact z
        | exc e ρ2 => exact fun c dx σ' H0' H' r' he => z c dx σ' H0' H' (r'.rebase (r1.base.trans r'.base)) he
    · rintro σ' H' ⟨H0', ρ', r', hw⟩
      rw [List.drop_length] at hw
      exact hw σ' H0' H' (r'.rebase (r1.base.trans r'.base))
@[simp] theorem ev_enumZT {xs ys : List D} : oEnumZ [.d (.tuple xs), .d (.tuple ys)] = .ret (numD 0 ((xs.zip ys).map fun p => .tuple [p.1, p.2])) := rfl
end
end Wb

set_option Elab.async false
set_option linter.all false
set_option maxRecDepth 100000
set_option maxHeartbeats 4000000
/-! Wb, part 49: bool(x) of an int or a bool. -/
namespace Wb
open PySem PySem.Spec PyProof.Rows L2 RZ
def oBool : D → T D
  | .int i => .ret (.bool (i != 0))
  | .bool b => .ret (.bool b)
  | _ => .bad
theorem d_bool : CaD (fun xs H Q => (∃ i, xs = [V.int i] ∧ Q (V.bl (i != 0)) H) ∨ ∃ k, xs = [V.bl k] ∧ Q (V.bl k) H) (o1 oBool) := by
  apply d_1
  intro β H0 H v x Q E e ok bf hv q
  cases hv with
  | int i => exact .inl ⟨i, rfl, out_ret e ok bf (.bl _) q⟩
  | bl b => exact .inr ⟨b, rfl, out_ret e ok bf (.bl _) q⟩
  | _ => exact q.elim
@[simp] theorem oBool_int {i : Int} : oBool (.int i) = .ret (.bool (i != 0)) := rfl
@[simp] theorem oBool_bool {b : Bool} : oBool (.bool b) = .ret (.bool b) := rfl
end Wb

set_option Elab.async false
set_option linter.all false
set_option maxRecDepth 100000
set_option maxHeartbeats 4000000
/-! Wb, part 50: range with a step, a = b = c = e, a, b, c = x, y, z. -/
namespace Wb
open PySem PySem.Spec PyProof.Rows L2 RZ
variable {X : Cx} {g : Ct} {a b c : Expr} {f h t : Env' → T D} {pos : Pos} {st : Stmt} {tg : Expr} {fs : Env' → T (List Ar)}
def stepN (l n c : Int) : Nat := if l < n then ((n - l - 1) / c + 1).toNat else 0
def rangeS (lo c : Int) (n : Nat) : List D := (List.range n).map fun i => .int (lo + (i : Nat) * c)
theorem gives_rangeS {H0 : Hp} {lo c : Int} {n : Nat} : Gives (Itc lo c n) (rangeS lo c n) H0 := by
  have hl : (rangeS lo c n).length = n := by simp [rangeS]
  refine ⟨fun _ => True, YFn fun i => .int (lo + (i : Nat) * c), by rw [hl]; exact walk_rangeC, fun _ _ => trivial, fun i H1 x H2 d H0' hd _ _ y => .inl ⟨y.1, ?_⟩⟩
  have e : x = .int (lo + (i : Nat) * c) := y.2
  have hi : i < n := by
    have := (List.getElem?_eq_some_iff.mp hd).1
    omega
  have e2 : (rangeS lo c n)[i]? = some (.int (lo + (i : Nat) * c)) := by simp [rangeS, hi]
  rw [hd] at e2
  cases e2
  rw [e]
  exact .int _
def oRng3 : List Ar → T (List D)
  | [.d (.int l), .d (.int n), .d (.int c)] => if l.natAbs < 1000000000000 ∧ n.natAbs < 1000000000000 ∧ 0 < c ∧ c < 1000000 then .ret (rangeS l c (stepN l n c)) else .bad
  | _ => .bad
@[simp] theorem oRng3_ok {l n c : Int} (h : l.natAbs < 1000000000000 ∧ n.natAbs < 1000000000000 ∧ 0 < c ∧ c < 1000000) : oRng3 [.d (.int l), .d (.int n), .d (.int c)] = .ret (rangeS l c (stepN l n c)) := if_pos h
theorem oRng3_cases {as : List Ar} {P : List D → Prop} {E : Exn → Prop} (h : (oRng3 as).wp P E) :
    ∃ l n c : Int, as = [.d (.int l), .d (.int n), .d (.int c)] ∧ (l.natAbs < 1000000000000 ∧ n.natAbs < 1000000000000 ∧ 0 < c ∧ c < 1000000) ∧ P (rangeS l c (stepN l n c)) := by
  unfold oRng3 at h
  split at h
  · next l n c =>
    split at h
    · next z => exact ⟨l, n, c, rfl, z, h⟩
    · exact h.elim
  · exact h.elim
theorem rgC_of {l n c : Int} (h : l.natAbs < 1000000000000 ∧ n.natAbs < 1000000000000 ∧ 0 < c ∧ c < 1000000) : RgC l n c (stepN l n c) := by
  obtain ⟨h1, h2, h3, h4⟩ := h
  have sz : Builtin.Range.rangeSize l n c = (stepN l n c : Int) := by
    unfold Builtin.Range.rangeSize stepN
    rw [if_pos h3]
    split
    · next z =>
      have : 0 ≤ (n - l - 1) / c := Int.ediv_nonneg (by omega) (by omega)
      omega
    · rfl
  have le : (stepN l n c : Int) ≤ 2000000000001 := by
    unfold stepN
    split
    · next z =>
      have : (n - l - 1) / c ≤ n - l - 1 := Int.ediv_le_self _ (by omega)
      omega
    · omega
  refine ⟨by omega, by omega, ?_, sz⟩
  unfold Builtin.Range.small
  rw [sz]
  simp only [Builtin.Range.rangeFitsLong, Bool.and_eq_true, Bool.or_eq_true, decide_eq_true_eq, beq_iff_eq, show c > 0 from h3, if_true]
  exact ⟨⟨⟨⟨by omega, by omega⟩, by omega⟩, by omega⟩, .inr (by omega)⟩
theorem i_rng3 {p : Pos} (hg : Gl X "range") (hm : X.mg "range" = none) (ha : PA X [a, b, c] (tA g fs)) (hs : starEach [a, b, c] X.env = (false, eval a X.env) :: starEach [b, c] X.env := by rfl) (hpl : (backTo pos (starEach [b, c] X.env)).any (·.1) = false := by rfl) :
    PI X tg (.Call (.Name "range" p) [a, b, c] [] pos) (tI g (iArg oRng3 fs)) :=
  (pi_range3 hg hm ha hs hpl).imp fun σ H R ⟨β, H0, ρ, rr, q⟩ => tA_then (k := oRng3) rr q fun as vs H1 H2 st hv q1 => by
    obtain ⟨l, n, k, e, z, hq⟩ := oRng3_cases q1
    subst e
    obtain ⟨u, v, w, rfl, h1, h2, h3⟩ := hv.three
    have e1 := h1.int_eq
    have e2 := h2.int_eq
    have e3 := h3.int_eq
    subst e1 e2 e3
    exact ⟨l, n, k, _, rfl, rgC_of z, hq _ H1 H2 st gives_rangeS⟩
/-- a = b = c = e -/
def sSet3 (i j k : Nat) (f : Env' → T D) : Env' → T Fl := fun ρ => (f ρ).lift ρ fun d => .ret (.nx (((ρ.set i (.d d)).set j (.d d)).set k (.d d)))
@[simp] theorem ev_Set3 {i j k : Nat} {ρ : Env'} : sSet3 i j k f ρ = (f ρ).lift ρ fun d => .ret (.nx (((ρ.set i (.d d)).set j (.d d)).set k (.d d))) := rfl
theorem s_set3 {i j k : Nat} (hs : PS X st (tAsg3 (tE g f) (gName i) (gName j) (gName k))) : PS X st (tS g (sSet3 i j k f)) := hs.imp fun E σ H ⟨β, A, B, C, H0, ρ, r, q⟩ =>
  tE_lift r q fun d v H1 H2 s hv q1 => q1 _ H1 H2 ((((r.step s).setD hv).setD hv).setD hv)
/-- a, b, c = x, y, z -/
def threeN (i j k : Nat) (ρ : Env') : List Ar → T Fl
  | [.d x, .d y, .d z] => .ret (.nx (((ρ.set i (.d x)).set j (.d y)).set k (.d z)))
  | _ => .bad
@[simp] theorem threeN_3 {i j k : Nat} {ρ : Env'} {x y z : D} : threeN i j k ρ [.d x, .d y, .d z] = .ret (.nx (((ρ.set i (.d x)).set j (.d y)).set k (.d z))) := rfl
def sPar3 (i j k : Nat) (fs : Env' → T (List Ar)) : Env' → T Fl := fun ρ => (fs ρ).lift ρ (threeN i j k ρ)
@[simp] theorem ev_Par3 {i j k : Nat} {ρ : Env'} : sPar3 i j k fs ρ = (fs ρ).lift ρ (threeN i j k ρ) := rfl
theorem s_par3 {i j k : Nat} (hs : PS X st (tPar3 i j k (tA g fs))) : PS X st (tS g (sPar3 i j k fs)) := hs.imp fun E σ H ⟨β, A, B, C, H0, ρ, r, q⟩ => tA_lift r q fun as vs H1 H2 s hv q1 => by
  unfold threeN at q1
  split at q1
  · next x y z =>
    obtain ⟨u, v, w, rfl, h1, h2, h3⟩ := hv.three
    exact ⟨u, v, w, rfl, q1 _ H1 H2 ((((r.step s).setD h1).setD h2).setD h3)⟩
  · exact q1.elim
end Wb

set_option Elab.async false
set_option linter.all false
set_option maxRecDepth 100000
set_option maxHeartbeats 4000000
/-! Wb, part 51: a list of one's own is walked in a comprehension; while with a fuel that the slots tell. -/
namespace Wb
open PySem PySem.Spec PyProof.Rows L2 RZ
/-- like Gives, where the thing that is walked may be private -/
def GivesP (β : Box) (J : It) (ds : List D) (H0 H : Hp) : Prop := ∃ (G : Hp → Prop) (Y : Nat → Hp → V → Hp → Prop), Walk J ds.length G Y ∧ (∀ H0' H1, Stp β H0 H H0' H1 → G H1) ∧
  ∀ (i : Nat) (H1 : Hp) (x : V) (H2 : Hp) (d : D) (H0' : Hp), ds[i]? = some d → Same H0 H0' → Same H0' H1 → Y i H1 x H2 →
    (H2 = H1 ∧ Has H0' x d) ∨ ∃ tp vs es, x = .ref tp ∧ H1 tp = none ∧ H2 = upd H1 tp (.tup vs) ∧ d = .tuple es ∧ HasL H0' vs es
def tIP (g : Ct) (f : Env' → T (List D)) : TI := fun σ H R => ∃ β H0 ρ, Rel g.cad β g.ξ H0 ρ σ H ∧
  (f ρ).wp (fun ds => ∀ J H0' H', Stp β H0 H H0' H' → GivesP β J ds H0' H' → R J H') (g.X β H0 H σ)
section
variable {g : Ct} {vs js : List Nat} {it : Env' → T (List D)} {bd : D → Env' → Option Env'} {t e : Env' → T D}
theorem tLcP_core (hj : ∀ j ∈ js, j ∈ vs) {σ : L2.St} {H : Hp} {Q : VK} (h : tEL g (lLc vs it bd t e) σ H Q) : tLc (tIP g it) (tG g.q js bd) (tT g.q t) (tE g.q e) vs σ H Q := by
  obtain ⟨β, H0, ρ, rr, q⟩ := h
  refine ⟨β, H0, ρ, rr, T.wp_mono (fun ds q1 J H1 Hb st gv Dl hD => ?_) (fun _ z => z) _ ((T.wp_bind _ _).mp q)⟩
  split at q1
  · next hz =>
    have rr1 := rr.step st
    have nS : ¬ β.S Dl := fun z => by
      obtain ⟨u, w⟩ := β.here Hb Dl st.ok z
      rw [hD] at w
      cases w
    have hD1 : H1 Dl = none := st.ext.free hD
    obtain ⟨G, Y, walk, hG, hY⟩ := gv
    have q2 := q1
    refine lc_it walk (D := Dl) (fun i Hc => ∃ H0' acc outs, Stp β H1 Hb H0' Hc ∧ Hc Dl = some (.lst acc) ∧ H0' Dl = none ∧ HasL H0' acc outs ∧ outs.length ≤ i ∧
      (lcGo bd t e (wipeE ρ vs) (ds.drop i)).wp (fun rest => OutL β H1 Hb Q (outs ++ rest)) (g.X β H1 Hb σ)) ?_ ?_ ?_ ?_
    · refine ⟨H1, [], [], Stp.junk rr1.ext rr1.ok rr1.boxf hD, upd_same, hD1, .nil, Nat.le_refl _, ?_⟩
      exact T.wp_mono (fun rest z => z.step st) (fun x z => z.step st) _ q2
    · rintro i Hc _ ⟨H0', acc, outs, s, _⟩
      exact hG _ _ s
    · rintro i x Hc H2 hi ⟨H0', acc, outs, s, hc, hn, hl, ho, hw⟩ hy
      have hd : ds[i]? = some ds[i] := List.getElem?_eq_getElem hi
      have ed : ds.drop i = ds[i] :: ds.drop (i + 1) := List.drop_eq_getElem_cons hi
      rw [ed] at hw
      -- the item, from a state that is known
      have turn : ∀ H0n H2n, Stp β H1 Hb H0n H2n → H2n Dl = some (.lst acc) → H0n Dl = none → HasL H0n acc outs → Has H0n x ds[i] →
          tG g.q js bd x (wipe σ vs) H2n fun σ2 H2 => wipe σ2 vs = wipe σ vs ∧ tT g.q t σ2 H2 fun b H3 => if b = true then tE g.q e σ2 H3 fun y H4 => ∃ acc, H4 Dl = some (.lst acc) ∧ acc.length < sizeLine ∧
            (∃ H0' acc' outs, Stp β H1 Hb H0' (upd H4 Dl (.lst (acc ++ [y]))) ∧ (upd H4 Dl (.lst (acc ++ [y]))) Dl = some (.lst acc') ∧ H0' Dl = none ∧ HasL H0' acc' outs ∧ outs.length ≤ i + 1 ∧
              (lcGo bd t e (wipeE ρ vs) (ds.drop (i + 1))).wp (fun rest => OutL β H1 Hb Q (outs ++ rest)) (g.X β H1 Hb σ)) else
            ∃ H0' acc' outs, Stp β H1 Hb H0' H3 ∧ H3 Dl = some (.lst acc') ∧ H0' Dl = none ∧ HasL H0' acc' outs ∧ outs.length ≤ i + 1 ∧
              (lcGo bd t e (wipeE ρ vs) (ds.drop (i + 1))).wp (fun rest => OutL β H1 Hb Q (outs ++ rest)) (g.X β H1 Hb σ) := by
        intro H0n H2n sn hcn hnn hln hx
        have rw1 := (rr1.step sn).wipe vs
        unfold lcGo at hw
        split at hw
        · exact hw.elim
        · next ρ1 hb =>
          refine ⟨β, H0n, wipeE ρ vs, ds[i], ρ1, rw1, hx, hb, fun σ2 r2 w2 _ => ⟨(w2 vs hj).trans (wipe_wipe fun _ z => z), ?_⟩⟩
          have hw2 := (T.wp_bind _ _).mp hw
          refine ⟨β, H0n, ρ1, r2, T.wp_mono (fun b hb2 => ?_) (fun _ z => z) _ (T.wp_quiet hw2)⟩
          cases b with
          | bool z =>
            refine ⟨z, rfl, fun H0m H3 st3 => ?_⟩
            have s3 := sn.trans st3
            obtain ⟨n3, k3⟩ := st3.priv Dl _ hcn hnn
            have hc3 := k3 nS
            cases z with
            | false => exact iteF ⟨H0m, acc, outs, s3, hc3, n3, hln.mono st3.grow, by omega, hb2⟩
            | true =>
              refine iteT ⟨β, H0m, ρ1, r2.step st3, T.wp_mono (fun y hy2 v H0k H4 st4 hv => ?_) (fun _ z => z) _ (T.wp_quiet ((T.wp_bind _ _).mp hb2))⟩
              obtain ⟨n4, k4⟩ := st4.priv Dl _ hc3 n3
              have hc4 := k4 nS
              have s4 := s3.trans st4
              have la := (hln.mono st3.grow).mono st4.grow
              refine ⟨acc, hc4, ?_, H0k, acc ++ [v], outs ++ [y], s4.mine hD n4 nS (fun φ z => by rw [hc4] at z; cases z), upd_same, n4, la.append (.cons hv .nil), by simp; omega, ?_⟩
              · have := la.length
                rw [sizeLine_eq]
                omega
              · refine T.wp_mono (fun rest z => ?_) (fun _ z => z) _ ((T.wp_bind _ _).mp hy2)
                rw [List.append_assoc]
                exact z
          | _ => exact hb2.elim
      rcases hY i Hc x H2 ds[i] H0' hd s.grow s.ext hy with ⟨e2, hx⟩ | ⟨tp, us, es, e1, hn2, e2, e3, hu⟩
      · subst e2
        exact turn H0' H2 s hc hn hl hx
      · subst e1
        subst e2
        have nD : Dl ≠ tp := ne_of_none hc hn2
        have htp : H0' tp = none := s.ext.free hn2
        refine turn (upd H0' tp (.tup us)) _ (s.trans (Stp.new s.ext s.ok s.boxf hn2)) ?_ ?_ (upd_has htp hl) ?_
        · rw [upd_ne nD]
          exact hc
        · rw [upd_ne nD]
          exact hn
        · rw [e3]
          exact .tup upd_same (upd_has htp hu)
    · rintro Hc ⟨H0', acc, outs, s, hc, hn, hl, ho, hw⟩
      rw [List.drop_length] at hw
      have q3 : OutL β H1 Hb Q (outs ++ []) := hw
      rw [List.append_nil] at q3
      exact q3 Dl H0' Hc acc s hD hc hn nS hl
  · exact q1.elim

theorem tLcP_of (hj : ∀ j ∈ js, j ∈ vs) {σ : L2.St} {H : Hp} {Q : VK} (h : tE g (eLc vs it bd t e) σ H Q) : tLc (tIP g it) (tG g.q js bd) (tT g.q t) (tE g.q e) vs σ H Q := by
  refine tLcP_core hj (tEL_of ?_)
  have ee : (fun ρ => (lLc vs it bd t e ρ).bind fun out => T.ret (PyData.list out)) = eLc vs it bd t e := by
    funext ρ
    exact eLc_l.symm
  rw [ee]
  exact h
end
def iownK : Option Sl → T (List D)
  | some (.own xs) => .ret xs
  | _ => .bad
/-- the items of a list of one's own -/
def iOwn (k : Nat) : Env' → T (List D) := fun ρ => iownK ρ[k]?
@[simp] theorem ev_iOwn {k : Nat} {ρ : Env'} : iOwn k ρ = iownK ρ[k]? := rfl
@[simp] theorem iownK_own {xs : List D} : iownK (some (.own xs)) = .ret xs := rfl
section
variable {X : Cx} {g : Ct} {tg : Expr} {x : Str} {p : Pos}
theorem i_own {k : Nat} (hp : PE X (.Name x p) (tVar k)) : PI X tg (.Name x p) (tIP g (iOwn k)) := (pi_seqV hp).imp fun σ H R ⟨β, H0, ρ, r, q⟩ => by
  unfold iOwn at q
  cases hx : ρ[k]? with
  | none =>
    rw [hx] at q
    exact q.elim
  | some sl =>
    rw [hx] at q
    cases sl with
    | own xs =>
      have hl : k < σ.length := by
        rw [← r.len]
        exact (List.getElem?_eq_some_iff.mp hx).1
      obtain ⟨a, vs, e1, e2, e3, e4, e5⟩ := r.sl k _ _ hx (List.getElem?_eq_getElem hl)
      refine ⟨.ref a, by rw [List.getElem?_eq_getElem hl, e1], a, rfl, .inl ⟨⟨vs, SqL.of e2⟩, q _ H0 H r.refl ?_⟩⟩
      refine ⟨fun H => SqL X.K H a vs, YAt vs, by rw [← e3.length]; exact walk_list, fun H0' H1 s => ?_, fun i H1 y H2 d H0' hd e0 e1 z => .inl ⟨z.1, ?_⟩⟩
      · exact SqL.of ((s.priv a _ e2 e4).2 e5)
      · obtain ⟨d', h1, h2⟩ := e3.get z.2
        rw [hd] at h1
        cases h1
        exact h2.mono e0
    | _ => exact q.elim
end
section
variable {X : Cx} {g : Ct} {tg iter elt : Expr} {ifs : List Expr} {scope : Scope} {own : List (Str × Nat)} {pos : Pos} {js : List Nat} {it : Env' → T (List D)} {bd : D → Env' → Option Env'} {t e : Env' → T D}
theorem r_lcO (hc : X.calm = true) (hN : X.N.Nodup) (hi : PI X tg iter (tIP g it)) (ok : BlkOk X.N X.env.scope scope own)
    (hg : ∀ (s : Shared) (H : Hp) (C : Addr) (cl : List (Str × Addr)) (fp : List Addr), PG (X.blk s H scope (compEnvC scope cl C X.env) fp) tg (tG g.q js bd))
    (ht : ∀ (s : Shared) (H : Hp) (C : Addr) (cl : List (Str × Addr)) (fp : List Addr), PTs (X.blk s H scope (compEnvC scope cl C X.env) fp) ifs (tT g.q t))
    (he : ∀ (s : Shared) (H : Hp) (C : Addr) (cl : List (Str × Addr)) (fp : List Addr), PE (X.blk s H scope (compEnvC scope cl C X.env) fp) elt (tE g.q e))
    (hj : ∀ j ∈ js, j ∈ own.map (·.2)) (hs : ∀ x, foldedSetIterable iter X.env x = pure x := by intro _; rfl) :
    PE X (.ListComp elt [⟨tg, iter, ifs, 0⟩] scope pos) (tE g (eLc (own.map (·.2)) it bd t e)) :=
  (pe_lc hc hN hi ok hg ht he hs).imp fun _ _ _ q => tLcP_of hj q
end
section
variable {X : Cx} {g : Ct} {st : Stmt} {vs js : List Nat} {it : Env' → T (List D)} {bd : D → Env' → Option Env'} {t e : Env' → T D} {F : Env' → T Fl}
theorem s_setLcO {i : Nat} (hs : PS X st (tAsg (tLc (tIP g it) (tG g.q js bd) (tT g.q t) (tE g.q e) vs) (gName i))) (hj : ∀ j ∈ js, j ∈ vs) : PS X st (tS g (sSet i (eLc vs it bd t e))) :=
  hs.imp fun E σ H q => tLcP_of hj (Q := fun x H1 => gName i x σ H1 E.nx) (tAsg_of q)
/-- while, the fuel told by the slots -/
def sWhileF (n : Env' → Nat) (t : Env' → T D) (F : Env' → T Fl) : Env' → T Fl := fun ρ => whGo t F (n ρ) ρ
@[simp] theorem ev_WhileF {n : Env' → Nat} {ρ : Env'} : sWhileF n t F ρ = whGo t F (n ρ) ρ := rfl
theorem s_whileF {n : Env' → Nat} (hs : PS X st (tWhile (tT g t) (tS g F))) : PS X st (tS g (sWhileF n t F)) := ⟨fun pins s σ H D I h => by
  obtain ⟨β, A, B, C, H0, ρ, r, q⟩ := h
  exact (s_while (n := n ρ) hs).run pins s σ H D I ⟨β, A, B, C, H0, ρ, r, q⟩⟩
/-- how far the int at slot k is from 0 -/
def farN (k : Nat) : Env' → Nat := fun ρ => match ρ[k]? with
  | some (.d (.int i)) => i.natAbs + 2
  | _ => 0
end
end Wb

set_option Elab.async false
set_option linter.all false
set_option maxRecDepth 100000
set_option maxHeartbeats 4000000
/-! Wb, part 52: a lambda without parameters is handed to a def that calls it. -/
namespace Wb
open PySem PySem.Spec PyProof.Rows L2 RZ LamX
/-- all is kept but what stands at P -/
def KeepBut (P : Addr) (G G' : Hp) : Prop := ∀ x u, x ≠ P → G x = some u → G' x = some u
theorem KeepBut.refl (P : Addr) (G : Hp) : KeepBut P G G := fun _ _ _ e => e
section
variable {X : Cx} {pins : List (Addr × Obj)} {σ : L2.St} {G : Hp} {s : Shared}
/-- the lambda's object is made; but for its table nothing that was known is changed -/
theorem lam_new {cA tA : Addr} {ps : Arguments} {bd : Expr} {sc : Scope} {po : Pos} {Er : Value → Shared → Prop} {Qr : Value → Shared → Prop} (hI : Inv X pins σ G s) (hTB : TabB X.base X.mg cA tA) (hce : X.env.code = .ref cA)
    (hTS : TabS G tA (X.env.qual ++ "<lambda>")) (hd0 : defaultsOf ps X.env = ([], [])) (hfr : ∀ y ∈ sc.names, y.2 = .free → ∃ z, X.env.cells.lookup y.1 = some z)
    (then' : ∀ (fO cO : Addr) (pmV ctV : Value) (G1 : Hp) (s1 : Shared), Inv X pins σ G1 s1 → KeepBut tA G G1 → TabS G1 tA (X.env.qual ++ "<lambda>") →
      s1.heap.get? fO = some (PySem.W.kla_obj "<lambda>" (X.env.qual ++ "<lambda>") ps bd sc (cloFrom X.env.cells sc.names []) pmV cO ctV) → G1 fO = none → fO ∉ frs X.stack → G1 cO = some (CodeO cO (X.env.qual ++ "<lambda>")) → Qr (.ref fO) s1) :
    wpAny (model X.prog X.w) X.A (eval (.Lambda ps bd sc po) X.env) Qr Er s := by
  obtain ⟨rows, atT, okT, allT⟩ := hTS
  have tabO : s.heap.get? tA = some { cls := .none, data := .fields rows } := hI.hok tA _ atT
  have bms : s.heap.BuiltinsAt X.mg tA := hTB.bm.keeps hI.bk
  have fresh_fr : ∀ x, s.heap.objs.size ≤ x → x ∉ frs X.stack := by
    intro x hx hm
    rcases List.mem_cons.mp (hI.stkSub _ hm) with e | e
    · have l := hI.lt
      rw [← e] at l
      exact absurd (Nat.lt_of_lt_of_le l hx) (Nat.lt_irrefl _)
    · exact hI.nofs hx e
  apply PySem.W.kla_eval hd0
  cases hcA : codeAmong po rows.toList with
  | some cv =>
    obtain ⟨cO, ecv, hcO⟩ := allT po cv hcA
    subst ecv
    apply PySem.W.kla_makeFunctionHit (mg := X.mg) (c := cA) (P := tA) (ps := rows) (closure_ok hfr) hI.ok.glob (hI.mod.glob.keeps hI.bk) hce (hTB.code.keeps hI.bk) tabO okT hcA bms
    intro ctV h1 tk1 hx1 hsz1
    refine then' h1.objs.size cO ((X.mg "__name__").getD .none) ctV G _ ?_ (KeepBut.refl tA G) ⟨rows, atT, okT, allT⟩ (Heap.get?_push_size _ rfl) (hI.hok.fresh hsz1) (fresh_fr _ hsz1) hcO
    exact hI.kept (t' := tk1) fun b o e => Heap.get?_push_of_some _ (hx1 b o e)
  | none =>
    apply PySem.W.kla_makeFunction (mg := X.mg) (c := cA) (P := tA) (ps := rows) (closure_ok hfr) hI.ok.glob (hI.mod.glob.keeps hI.bk) hce (hTB.code.keeps hI.bk) tabO okT hcA hTB.gP bms
    intro cO ctV h1 tk1 hx1 hge hlt hrc htb
    obtain ⟨c2, oc, vs, t, ecv, goc, doc', nvs⟩ := hrc
    cases ecv
    have nG : G cO = none := hI.hok.fresh hge
    have szs : s.heap.objs.size ≤ h1.objs.size := by omega
    have tc : tA ≠ cO := ne_of_none atT nG
    have J := inv_table (t' := tk1) (c := cO) (more := #[rawInt po.line, rawInt po.col, .ref cO]) (h' := h1.push (PySem.W.kla_obj "<lambda>" (X.env.qual ++ "<lambda>") ps bd sc (cloFrom X.env.cells sc.names []) ((X.mg "__name__").getD .none) cO ctV)) hI atT
      (fun b o nb e => Heap.get?_push_of_some _ (hx1 b o nb e)) (Heap.get?_push_of_some _ htb) hge ⟨oc, vs, t, Heap.get?_push_of_some _ goc, doc', nvs⟩
    have kb : KeepBut tA G (upd (upd G tA (.tbl (rows ++ #[rawInt po.line, rawInt po.col, .ref cO]))) cO (CodeO cO (X.env.qual ++ "<lambda>"))) := by
      intro x u nx e
      rw [upd_ne (ne_of_none e nG), upd_ne nx]
      exact e
    refine then' h1.objs.size cO ((X.mg "__name__").getD .none) ctV _ _ J kb ⟨_, by rw [upd_ne tc, upd_same], ?_, ?_⟩ (Heap.get?_push_size _ rfl) ?_ (fresh_fr _ szs) upd_same
    · rw [Array.toList_append]
      exact PySem.TriplesOk_snoc _ _ _ _ okT
    · intro p' cv' hcv'
      rw [Array.toList_append] at hcv'
      rcases among_app _ okT hcv' with z | z
      · obtain ⟨c0, z1, z2⟩ := allT p' cv' z
        refine ⟨c0, z1, kb _ _ (fun w => ?_) z2⟩
        rw [w, atT] at z2
        exact codeO_ne rows (Option.some.inj z2).symm
      · exact ⟨cO, z, upd_same⟩
    · have n1 : h1.objs.size ≠ cO := by omega
      have n2 : h1.objs.size ≠ tA := fun w => by
        rw [w] at szs
        exact absurd (Nat.lt_of_lt_of_le (Heap.lt_size tabO) szs) (Nat.lt_irrefl _)
      rw [upd_ne n1, upd_ne n2]
      exact hI.hok.fresh szs
/-- the handed lambda is called, in the def that got it; what its body lets out is wished from the very slots -/
theorem lam_act {CZ : CXT} {EZ : XK} {NZ : List Str} {qZ : Str} {sZc : Scope} {gA fO cO : Addr} {cdZ pmV ctV : Value} {ps : Arguments} {bd : Expr} {sc : Scope} {k i : Nat} {nm : Str} {pnZ : List (Addr × Obj)} {xeZ : Value → Shared → Prop} {W : WX} {t : XK → TE} {p1 p2 : Pos}
    (hI : Inv X pins σ G s) (hL : LamS X.env.scope sc) (hfO : s.heap.get? fO = some (PySem.W.kla_obj "<lambda>" (X.env.qual ++ "<lambda>") ps bd sc (cloFrom X.env.cells sc.names []) pmV cO ctV)) (nfO : G fO = none) (ffO : fO ∉ frs X.stack)
    (hbd : bindArgs (PySem.W.kla_fn "<lambda>" (X.env.qual ++ "<lambda>") ps bd sc (cloFrom X.env.cells sc.names []) pmV (.ref cO) ctV) ⟨[], []⟩ = pure [])
    (tkZ : Takes ((cxOf CZ X.prog X.w X.K X.mg X.base NZ qZ sZc gA cdZ X.A X.stack s G EZ).tr pnZ xeZ) W) (room : Room (k + 1) (X.A.deeper (envOfC qZ sZc s.heap.objs.size gA cdZ)))
    (gZ : X.A.guards = some []) (reads : ∀ (A : Around) (outer : List Env) (s2 : Shared) (G2 : Hp) (E2 : XK), A.guards = some [] → Room k (A.deeper (lamEnv X sc s2.heap.objs.size fO cO)) → PE (lamCx X A outer s2 G2 E2 sc fO cO) bd (t E2))
    (hi : NZ[i]? = some nm) (hv : Vis sZc nm) (h1 : (nm == ("__debug__" : Str)) = false := by decide) (h2 : (nm == ("__classdict__" : Str)) = false := by decide) :
    PE ((cxOf CZ X.prog X.w X.K X.mg X.base NZ qZ sZc gA cdZ X.A X.stack s G EZ).tr pnZ xeZ) (.Call (.Name nm p1) [] [] p2)
      (fun σ1 G1 Q => σ1[i]? = some (some (.ref fO)) ∧ G1 cO = some (CodeO cO (X.env.qual ++ "<lambda>")) ∧ t (fun c d G2 => W c d σ1 G2) σ G1 Q) := by
  constructor
  rintro pz z σ1 G1 Q hJ ⟨at0, atc, ht⟩
  apply wpAny_Call_Name_kw
  refine thn ((pe_var (pos := p1) (i := i) hi hv h1 h2).run pz z σ1 G1 (fun v K1 => v = .ref fO ∧ K1 = G1) hJ ⟨.ref fO, at0, rfl, rfl⟩) ?_
  rintro u z1 ⟨v, K1, J1, r1, rfl, rfl⟩
  obtain rfl : u = Value.ref fO := r1
  have still : z1.heap.get? fO = some (PySem.W.kla_obj "<lambda>" (X.env.qual ++ "<lambda>") ps bd sc (cloFrom X.env.cells sc.names []) pmV cO ctV) :=
    J1.base.keep fO _ hfO nfO ffO (fun w => nomatch (show fO ∈ ([] : List Addr) from w))
  apply PySem.W.callWith_F0 ⟨_, _, _, _, still⟩
  have unc : Un (frs X.stack) [] G K1 s.heap z1.heap := J1.base
  obtain ⟨⟨oc, vs, tk0, goc, doc', nvs⟩, _, _⟩ := J1.hok cO _ atc
  have run : codeAny (model X.prog X.w) (X.A.deeper (envOfC qZ sZc s.heap.objs.size gA cdZ)) (.call (.ref fO) ⟨[], []⟩) (CR (L2.CX X.prog X.w) (envOfC qZ sZc s.heap.objs.size gA cdZ :: X.stack) X.prog X.w K1 z1 Q (fun c d G2 => W c d σ1 G2)) z1 := by
    apply PySem.W.kla_callFunE room.depth still rfl hL.co hL.gen rfl ⟨cO, oc, vs, tk0, rfl, goc, doc', nvs⟩
    rw [hbd]
    apply wpAny_pure
    refine wpAny_newFunctionEnv (fun y hy => (hL.own y hy).2) (fun y hy => absurd hy (by simp)) (fun m1 ns1 sb1 => ⟨J1.nolimit.fresh _ sb1, ?_⟩) hL.kind
    have kp : ∀ b o, z1.heap.get? b = some o → m1.get? b = some o := fun b o e => sb1.extBut b o (Nat.ne_of_lt (Heap.lt_size e)) (Heap.get?_push_of_some _ e)
    have JL : Inv (lamCx X (X.A.deeper (envOfC qZ sZc s.heap.objs.size gA cdZ)) (envOfC qZ sZc s.heap.objs.size gA cdZ :: X.stack) z1 K1 (fun c d G2 => W c d σ1 G2) sc fO cO) [] σ K1 { z1 with heap := m1, toks := z1.toks + ([] : List (Str × Value)).length } :=
      lam_start2 hI hL J1.env0 room.hd unc ns1 kp
    apply PySem.W.kla_codeExpr
    refine wpAny_mono ((reads (X.A.deeper (envOfC qZ sZc s.heap.objs.size gA cdZ)) _ z1 K1 _ gZ (room.deeper _)).run [] _ _ K1 Q JL ht) ?_ fun _ _ w => w
    rintro v s' ⟨w', K2, JE, rv, q⟩
    exact ⟨w', K2, JE.os, JE.bare, JE.base, JE.hok, rv, q⟩
  apply wpAny_call
  refine codeAny_mono run fun r s' w => ?_
  cases r with
  | error e => exact tkZ e s' (XE.of_call J1 (fun _ _ _ q => q) w)
  | ok fl =>
    cases fl with
    | ret u => exact J1.after w
    | next => exact w.elim
    | brk => exact w.elim
    | cont => exact w.elim
end
/-! ### a def that calls what it got -/
/-- the box under another value -/
def Box.at (β : Box) (v : V) : Box := { β with v := v }
theorem Stp.at {β : Box} {v : V} {H0 H H0' H' : Hp} (h : Stp β H0 H H0' H') : Stp (β.at v) H0 H H0' H' := ⟨h.grow, h.ext, h.ok, h.boxf, h.priv⟩
theorem Stp.un {β : Box} {v : V} {H0 H H0' H' : Hp} (h : Stp (β.at v) H0 H H0' H') : Stp β H0 H H0' H' := ⟨h.grow, h.ext, h.ok, h.boxf, h.priv⟩
def tAsk (fO cO : Addr) (q : Str) (σc : L2.St) (tt : XK → TE) (W : WX) : TE := fun σ1 G1 Q => σ1[0]? = some (some (.ref fO)) ∧ G1 cO = some (CodeO cO q) ∧ tt (fun c d G2 => W c d σ1 G2) σc G1 Q
/-- what is handed over does t -/
structure Link (cad : Cad) (lk : Box → Hp → Hp → Prop) (fO cO : Addr) (q : Str) (σc : L2.St) (tt : XK → TE) (t : T D) : Prop where
  val : ∀ β A B, lk β A B → β.v = .ref fO ∧ ∀ H0 H, Stp β A B H0 H → H cO = some (CodeO cO q)
  act : ∀ β A B, lk β A B → ∀ H0 H, Stp β A B H0 H → ∀ (Q : VK) (E : XK),
    t.wp (Out β H0 H Q) (fun x => ∀ c dx H0' H', Stp β H0 H H0' H' → ExcIs cad x c dx H0' → E c dx H') → tt E σc H Q
def askK (t : T D) : Option Sl → T D
  | some .fn => t
  | _ => .bad
/-- a(), a the first parameter -/
def eAsk (t : T D) : Env' → T D := fun ρ => askK t ρ[0]?
@[simp] theorem ev_Ask {t : T D} {ρ : Env'} : eAsk t (.fn :: ρ) = t := rfl
section
variable {Z : Cx} {g : Ct} {st : Stmt} {fO cO : Addr} {q : Str} {σc : L2.St} {tt : XK → TE} {t : T D}
theorem ask_at (L : Link g.cad g.lk fO cO q σc tt t) {β : Box} {A B C H0 H : Hp} {ρ : Env'} {σ : L2.St} {Q : VK} (r : SR g β A B C H0 ρ σ H) (h : (eAsk t ρ).wp (Out β H0 H Q) (g.X β H0 H σ)) : tAsk fO cO q σc tt g.W σ H Q := by
  unfold eAsk at h
  cases hx : ρ[0]? with
  | none =>
    rw [hx] at h
    exact h.elim
  | some sl =>
    rw [hx] at h
    cases sl with
    | fn =>
      have hl : 0 < σ.length := by
        rw [← r.rel.len]
        exact (List.getElem?_eq_some_iff.mp hx).1
      have e := r.rel.sl 0 _ _ hx (List.getElem?_eq_getElem hl)
      obtain ⟨v1, v2⟩ := L.val β A B r.lk
      refine ⟨?_, v2 H0 H r.st, L.act β A B r.lk H0 H r.st Q _ h⟩
      rw [List.getElem?_eq_getElem hl]
      have e' : σ[0] = some β.v := e
      rw [e', v1]
    | _ => exact h.elim
theorem s_ask {i : Nat} (L : Link g.cad g.lk fO cO q σc tt t) (hs : PS Z st (tAsg (tAsk fO cO q σc tt g.W) (gName i))) : PS Z st (tS g (sSet i (eAsk t))) := hs.imp fun E σ H ⟨β, A, B, C, H0, ρ, r, h⟩ => by
  refine ask_at L r (T.wp_mono (fun d hd v H1 H2 s hv => ?_) (fun _ z => excX r z) _ ((T.wp_lift _).mp h))
  exact hd _ H1 H2 ((r.step s).setD hv)
end
/-- a def with one parameter that it calls: what it does where the call does t -/
def Tel (P : Program) (w : World) (K : PySem.W.Frag) (mg : Str → Option Value) (base : Heap) (cad : Cad) (j : Nat) (x : Str) (st : Stmt) (N : List Str) (ga : Addr) (a : Str) (F : T D → Env' → T Fl) : Prop :=
  ∀ (cdv : Value) (A : Around) (outer : List Env) (s : Shared) (G : Hp) (E : XK) (lk : Box → Hp → Hp → Prop) (fO cO : Addr) (q : Str) (σc : L2.St) (tt : XK → TE) (t : T D),
    Room j (A.deeper (envOfC x (defScope st) s.heap.objs.size ga cdv)) → A.guards = some [] → Link cad lk fO cO q σc tt t →
    (∀ (W : WX) (pn : List (Addr × Obj)) (xe : Value → Shared → Prop) (p1 p2 : Pos), Takes ((bodyX P w K mg base N x st ga cdv A outer s G E).tr pn xe) W → PE ((bodyX P w K mg base N x st ga cdv A outer s G E).tr pn xe) (.Call (.Name a p1) [] [] p2) (tAsk fO cO q σc tt W)) →
    PSs (bodyX P w K mg base N x st ga cdv A outer s G E) (defBody st) (tS ⟨cad, none, fun c d _ H' => E c d H', lk⟩ (F t))
/-- the box knows the table at tA -/
structure BoxT (tA : Addr) (q : Str) (β : Box) : Prop where
  tab : ∀ H, β.ok H → TabS H tA q
  own : β.S tA
  cod : ∀ H c y, β.ok H → H c = some (CodeO c y) → ¬ β.S c
  new : ∀ H H', β.ok H → KeepBut tA H H' → TabS H' tA q → β.ok H'
theorem Stp.lam {β : Box} {tA : Addr} {q : Str} {H0 H H' : Hp} (bt : BoxT tA q β) (e : Same H0 H) (ok : β.ok H) (bf : ∀ a, β.S a → H0 a = none) (k : KeepBut tA H H') (t : TabS H' tA q) : Stp β H0 H H0 H' :=
  ⟨fun _ _ z => z, fun b o z => k b o (fun w => by rw [w, bf tA bt.own] at z; cases z) (e b o z), bt.new H H' ok k t, bf, fun p o z n => ⟨n, fun ns => k p o (fun w => ns (w ▸ bt.own)) z⟩⟩
section
variable {X : Cx}
theorem fn_start {cad : Cad} {β : Box} {H0 H : Hp} {N : List Str} {fO : Addr} (hN : 0 < N.length) (e : Same H0 H) (ok : β.ok H) (bf : ∀ a, β.S a → H0 a = none) (tb : cad.bx (β.at (.ref fO))) :
    Rel cad (β.at (.ref fO)) none H0 ([Sl.fn] ++ List.replicate (N.length - 1) .no) (L2.start N [.ref fO]) H := by
  have es : L2.start N [.ref fO] = some (.ref fO) :: List.replicate (N.length - 1) none := by
    unfold L2.start
    obtain ⟨n, hn⟩ : ∃ n, N.length = n + 1 := ⟨N.length - 1, by omega⟩
    simp [hn]
  rw [es]
  refine ⟨e, by simp, fun i sl o ha hb => ?_, fun i _ xs _ p _ ha _ _ _ => ?_, ok, bf, tb⟩
  · match i, ha, hb with
    | 0, ha, hb =>
      cases ha
      cases hb
      rfl
    | i + 1, ha, hb =>
      have ha' : (List.replicate (N.length - 1) Sl.no)[i]? = some sl := ha
      rw [List.getElem?_replicate] at ha'
      split at ha'
      · cases ha'
        trivial
      · cases ha'
  · match i, ha with
    | 0, ha => cases ha
    | i + 1, ha =>
      have ha' : (List.replicate (N.length - 1) Sl.no)[i]? = some (.own xs) := ha
      rw [List.getElem?_replicate] at ha'
      split at ha' <;> cases ha'
/-- x(lambda: e) -/
theorem r_lam {g : Ct} {fb : Env' → T D} {F : T D → Env' → T Fl} {x a : Str} {st : Stmt} {N : List Str} {ga cA tA : Addr} {fd : FuncData} {k : Nat} {ps : Arguments} {bd : Expr} {sc : Scope} {p lpos pos : Pos}
    (hTel : Tel X.prog X.w X.K X.mg X.base g.cad (k + 1) x st N ga a F) (Fu : Fun X.K x x st ga fd) (SN : FnScope N [a] (defScope st)) (hN0 : N[0]? = some a) (hva : Vis (defScope st) a) (hB : Binds X.K fd [a] [])
    (hr : Room (k + 2) X.A) (hgu : X.A.guards = some []) (hg : Gl X x) (hm : X.mg x = some (.ref ga)) (hk : PySem.W.keepIn X.K (.ref ga) = true)
    (hTB : TabB X.base X.mg cA tA) (hce : X.env.code = .ref cA) (hbx : ∀ β, g.cad.bx β → BoxT tA (X.env.qual ++ "<lambda>") β ∧ ∀ v, g.cad.bx (β.at v)) (hL : LamS X.env.scope sc) (hd0 : defaultsOf ps X.env = ([], []))
    (hbd : ∀ (q : Str) (cl : List (Str × Addr)) (pm cv ctv : Value), bindArgs (PySem.W.kla_fn "<lambda>" q ps bd sc cl pm cv ctv) ⟨[], []⟩ = pure []) (tk : Takes X g.W)
    (reads : ∀ (A : Around) (outer : List Env) (s2 : Shared) (G2 : Hp) (E2 : XK) (fO cO : Addr), A.guards = some [] → Room k (A.deeper (lamEnv X sc s2.heap.objs.size fO cO)) → PE (lamCx X A outer s2 G2 E2 sc fO cO) bd (tE ⟨g.cad, g.ξ, fun c d _ G => E2 c d G, fun _ _ _ => True⟩ fb))
    (hdb : (x == ("__debug__" : Str)) = false := by decide) (hd : (a == ("__debug__" : Str)) = false := by decide) (hcd : (a == ("__classdict__" : Str)) = false := by decide) :
    PE X (.Call (.Name x p) [.Lambda ps bd sc lpos] [] pos) (tE g fun ρ => (F (fb ρ) ([Sl.fn] ++ List.replicate (N.length - 1) .no)).run) := by
  constructor
  rintro pins s σ H Q I ⟨β, H0, ρ, rr, h⟩
  obtain ⟨bt, bv⟩ := hbx β rr.tabs
  apply wpAny_Call_Name_kw
  apply ld_glob I hg hm _ hdb
  apply PySem.W.callWith_K (h₀ := X.base) I.ok.mod.kin hk _ (by rfl) (by rfl)
  refine Calls.spliced_cons (lam_new I hTB hce (bt.tab H rr.ok) hd0 (hL.has I.ok) fun fO cO pmV ctV H1 s1 I1 kb t1 hfO nfO ffO hco => ?_)
  refine Calls.spliced_nil ⟨I1.kIn, ?_⟩
  have st1 : Stp β H0 H H0 H1 := Stp.lam bt rr.ext rr.ok rr.boxf kb t1
  have rr1 := rr.step st1
  have nS : ¬ β.S cO := bt.cod H1 cO _ rr1.ok hco
  obtain ⟨oc, od, kV, doc, pm, an, cdv, ct, osl, rfl, lk, hcdv⟩ := Fu.ex
  have hN : 0 < N.length := (List.getElem?_eq_some_iff.mp hN0).1
  have run : codeAny (model X.prog X.w) X.A (.call (.ref ga) ⟨[.ref fO], []⟩) (CR (L2.CX X.prog X.w) X.stack X.prog X.w H1 s1 Q (fun c d G => g.W c d σ G)) s1 := by
    refine run_ofS (N := N) (ps := [a]) (us := [.ref fO]) (vs := [.ref fO]) lk hcdv SN hr I1.env0 (hB s1 [.ref fO] I1.kIn rfl) (.cons rfl .nil) rfl fun hr' => ?_
    have L : Link g.cad (fun β' A B => β' = β.at (.ref fO) ∧ A = H0 ∧ B = H1) fO cO (X.env.qual ++ "<lambda>") σ (fun E2 => tE ⟨g.cad, g.ξ, fun c d _ G => E2 c d G, fun _ _ _ => True⟩ fb) (fb ρ) := by
      refine ⟨?_, ?_⟩
      · rintro β' A' B' ⟨e1, e2, e3⟩
        refine ⟨by rw [e1]; rfl, fun H2 H3 s2 => ?_⟩
        rw [e1, e2, e3] at s2
        cases e0 : H0 cO with
        | none => exact (s2.un.priv cO _ hco e0).2 nS
        | some u =>
          have z := rr1.ext cO u e0
          rw [hco] at z
          cases z
          exact s2.ext _ _ (s2.grow _ _ e0)
      · rintro β' A' B' ⟨e1, e2, e3⟩ H2 H3 s2 Q2 E2 hw
        rw [e1, e2, e3] at s2
        rw [e1] at hw
        refine ⟨β, H2, ρ, rr1.step s2.un, T.wp_mono (fun d z v H4 H5 s3 hv => z v H4 H5 s3.at hv) (fun x z c dx H4 H5 s3 e => z c dx H4 H5 s3.at e) _ hw⟩
    refine ⟨_, hTel cdv X.A X.stack s1 H1 (fun c d G => g.W c d σ G) _ fO cO _ σ _ (fb ρ) hr' hgu L fun W pn xe p1 p2 tkW => ?_, ?_⟩
    · exact lam_act (i := 0) I1 hL hfO nfO ffO (hbd _ _ _ _ _) tkW hr' hgu (fun A outer s2 G2 E2 hg2 hr2 => reads A outer s2 G2 E2 fO cO hg2 hr2) hN0 hva hd hcd
    · refine ⟨β.at (.ref fO), H0, H1, H0, H0, _, ⟨fn_start hN rr1.ext rr1.ok rr1.boxf (bv _), Stp.refl rr1.ext rr1.ok rr1.boxf, fun _ _ z => z, ⟨rfl, rfl, rfl⟩, fun i xs p' ha _ => ?_⟩, ?_⟩
      · match i, ha with
        | 0, ha => cases ha
        | i + 1, ha =>
          have ha' : (List.replicate (N.length - 1) Sl.no)[i]? = some (.own xs) := ha
          rw [List.getElem?_replicate] at ha'
          split at ha' <;> cases ha'
      · refine T.wp_mono (fun fl z => ?_) (fun x z => z) _ ((T.wp_run _).mp h)
        cases fl with
        | nx ρ' => exact fun σ' H0' H' r => z .non H0' H' (st1.trans r.st.un) .non
        | ret d => exact fun v H0' H' s hv => z v H0' H' (st1.trans s.un) hv
        | exc y ρ' => exact fun c dx σ' H0' H' r he => z c dx H0' H' (st1.trans r.st.un) he
        | brk _ => exact z.elim
        | cnt _ => exact z.elim
  refine wpAny_call (codeAny_mono run fun r s' w => ?_)
  cases r with
  | error e => exact tk e s' (XE.of_call I1 (fun _ _ _ q => q) w)
  | ok fl =>
    cases fl with
    | ret u => exact I1.after w
    | next => exact w.elim
    | brk => exact w.elim
    | cont => exact w.elim
end
end Wb

set_option Elab.async false
set_option linter.all false
set_option maxRecDepth 100000
set_option maxHeartbeats 4000000
/-! Wb, part 53: defs that call what they got, by their names; which boxes know their tables. -/
namespace Wb
open PySem PySem.Spec PyProof.Rows L2 RZ LamX
/-- beside the draws' list the tables are known -/
theorem boxT_spring {p : Addr} {T : List (Addr × Str)} {tA : Addr} {q : Str} (h : (tA, q) ∈ T) (hu : ∀ r ∈ T, r.1 = tA → r.2 = q) : BoxT tA q (tabBox (springBox p) T) := by
  refine ⟨fun H ok => ok.2 _ h, .inr ⟨_, h, rfl⟩, fun H c y ok e s => ?_, fun H H' ok k t => ?_⟩
  · obtain ⟨⟨x, y', z, hp, _⟩, tb⟩ := ok
    rcases s with s | ⟨r, hr, s⟩
    · have s' : c = p := s
      rw [s', hp] at e
      unfold CodeO at e
      cases e
    · obtain ⟨ps, e1, _⟩ := tb r hr
      rw [s, e1] at e
      exact codeO_ne ps (Option.some.inj e).symm
  · obtain ⟨⟨x, y, z, hp, r⟩, tb⟩ := ok
    have ne : p ≠ tA := fun w => by
      obtain ⟨ps, e1, _⟩ := tb _ h
      rw [← w, hp] at e1
      cases e1
    refine ⟨⟨x, y, z, k p _ ne hp, r⟩, fun r hr => ?_⟩
    by_cases e : r.1 = tA
    · obtain ⟨a, b⟩ := r
      have e1 : a = tA := e
      have e2 : b = q := hu _ hr e
      rw [e1, e2]
      exact t
    · obtain ⟨ps, e1, e2, e3⟩ := tb r hr
      refine ⟨ps, k _ _ e e1, e2, fun pos cv hc => ?_⟩
      obtain ⟨c, z1, z2⟩ := e3 pos cv hc
      refine ⟨c, z1, k _ _ (fun w => ?_) z2⟩
      obtain ⟨ps', f1, _⟩ := tb _ h
      rw [w, f1] at z2
      exact codeO_ne ps' (Option.some.inj z2).symm
/-- a def that calls what it got, by its name -/
structure CalT (P : Program) (w : World) (K : PySem.W.Frag) (mg : Str → Option Value) (base : Heap) (cad : Cad) (x : Str) (k : Nat) (a : Str) (m : T D → T D) : Prop where
  ex : ∃ (ga : Addr) (fd : FuncData) (st : Stmt) (N : List Str) (F : T D → Env' → T Fl), Tel P w K mg base cad (k + 1) x st N ga a F ∧ Fun K x x st ga fd ∧ FnScope N [a] (defScope st) ∧ N[0]? = some a ∧ Vis (defScope st) a ∧ Binds K fd [a] [] ∧
    mg x = some (.ref ga) ∧ PySem.W.keepIn K (.ref ga) = true ∧ ∀ t, m t = (F t ([Sl.fn] ++ List.replicate (N.length - 1) .no)).run
/-- m of what the handed expression does -/
def eLam (m : T D → T D) (fb : Env' → T D) : Env' → T D := fun ρ => m (fb ρ)
@[simp] theorem ev_Lam {m : T D → T D} {fb : Env' → T D} {ρ : Env'} : eLam m fb ρ = m (fb ρ) := rfl
section
variable {X : Cx}
theorem r_lamT {g : Ct} {fb : Env' → T D} {m : T D → T D} {x a : Str} {cA tA : Addr} {k : Nat} {ps : Arguments} {bd : Expr} {sc : Scope} {p lpos pos : Pos}
    (C : CalT X.prog X.w X.K X.mg X.base g.cad x k a m) (hr : Room (k + 2) X.A) (hgu : X.A.guards = some []) (hg : Gl X x)
    (hTB : TabB X.base X.mg cA tA) (hce : X.env.code = .ref cA) (hbx : ∀ β, g.cad.bx β → BoxT tA (X.env.qual ++ "<lambda>") β ∧ ∀ v, g.cad.bx (β.at v)) (hL : LamS X.env.scope sc) (hd0 : defaultsOf ps X.env = ([], []))
    (hbd : ∀ (q : Str) (cl : List (Str × Addr)) (pm cv ctv : Value), bindArgs (PySem.W.kla_fn "<lambda>" q ps bd sc cl pm cv ctv) ⟨[], []⟩ = pure []) (tk : Takes X g.W)
    (reads : ∀ (A : Around) (outer : List Env) (s2 : Shared) (G2 : Hp) (E2 : XK) (fO cO : Addr), A.guards = some [] → Room k (A.deeper (lamEnv X sc s2.heap.objs.size fO cO)) → PE (lamCx X A outer s2 G2 E2 sc fO cO) bd (tE ⟨g.cad, g.ξ, fun c d _ G => E2 c d G, fun _ _ _ => True⟩ fb))
    (hdb : (x == ("__debug__" : Str)) = false := by decide) (hd : (a == ("__debug__" : Str)) = false := by decide) (hcd : (a == ("__classdict__" : Str)) = false := by decide) :
    PE X (.Call (.Name x p) [.Lambda ps bd sc lpos] [] pos) (tE g (eLam m fb)) := by
  obtain ⟨ga, fd, st, N, F, h1, h2, h3, h4, h5, h6, h7, h8, h9⟩ := C.ex
  have e : eLam m fb = fun ρ => (F (fb ρ) ([Sl.fn] ++ List.replicate (N.length - 1) .no)).run := funext fun ρ => h9 (fb ρ)
  rw [e]
  exact r_lam h1 h2 h3 h4 h5 h6 hr hgu hg h7 h8 hTB hce hbx hL hd0 hbd tk reads hdb hd hcd
end
section
variable {Z : Cx} {g : Ct} {e : Expr} {pos : Pos} {fO cO : Addr} {q : Str} {σc : L2.St} {tt : XK → TE} {t : T D}
/-- return a() -/
theorem s_askR (L : Link g.cad g.lk fO cO q σc tt t) (ha : PE Z e (tAsk fO cO q σc tt g.W)) : PS Z (.Return (some e) pos) (tS g (sRet (eAsk t))) := (ps_ret ha).imp fun E σ H ⟨β, A, B, C, H0, ρ, r, h⟩ => by
  refine ask_at L r (T.wp_mono (fun d hd v H1 H2 s hv => ?_) (fun _ z => excX r z) _ ((T.wp_lift _).mp h))
  exact hd v H1 H2 (r.st.trans s) hv
/-- a() alone -/
theorem s_askD {st : Stmt} (L : Link g.cad g.lk fO cO q σc tt t) (hs : PS Z st (tDrop (tAsk fO cO q σc tt g.W))) : PS Z st (tS g (sDrop (eAsk t))) := hs.imp fun E σ H ⟨β, A, B, C, H0, ρ, r, h⟩ => by
  refine ask_at L r (T.wp_mono (fun d hd v H1 H2 s hv => ?_) (fun _ z => excX r z) _ ((T.wp_lift _).mp h))
  exact hd σ H1 H2 (r.step s)
end
end Wb

set_option Elab.async false
set_option linter.all false
set_option maxRecDepth 100000
set_option maxHeartbeats 4000000
/-! Wb, part 54: the law is called where tables of code objects are tracked. -/
namespace Wb
open PySem PySem.Spec PyProof.Rows L2 RZ LamX
/-- at the law's entry: the script, and the empty tables -/
def entryT (K : PySem.W.Frag) (a : Addr) (o : Obj) (ns : List Int) (tb : List Addr) : Hp := fun b =>
  if b = a ∧ K.lookup a = none then some (.frz o (.lst (ns.map V.int))) else if b ∈ tb then some (.tbl #[]) else none
theorem law_callGT {P : Program} {w : World} {K : PySem.W.Frag} {mg mb : Str → Option Value} {k : Nat} {fa a : Addr} {cs : List (Addr × Addr)} {fd : FuncData} {x : Str} {sp : Sp} {s₁ : Shared} {vs : List Value} {ns : List Int}
    (KX : K.In s₁.heap) (hns : s₁.heap.Ns mainGlobals mg) (hb : s₁.heap.Ns builtinsNs mb) (hbb : ∀ x : Str, x ≠ "__name__" → mb x = bootBuiltins x) (hlim : s₁.heap.NoLimit) (hg : s₁.gens = #[])
    (tabs : ∀ p ∈ cs, s₁.heap.get? p.2 = some { cls := .none, data := .fields #[] }) (tabsK : ∀ p ∈ cs, K.lookup p.2 = none) (codes : ∀ p ∈ cs, PySem.W.CodeHd s₁.heap p.1 p.2)
    (bmod : ∃ (bm : Addr) (ob : Obj), mg "__builtins__" = some (.ref bm) ∧ bm ≠ builtinsNs ∧ s₁.heap.get? bm = some ob ∧ ob.cls = .type "module" ∧ ob.dict = some builtinsNs ∧ ob.data = .plain)
    (ha : s₁.heap.get? a = some { cls := .type "list", data := .seq vs.toArray }) (hi : IntsAre vs ns) (hl : ns.length ≤ sizeLine) (hr : Room k callerA)
    (F : ∀ base : Heap, K.In base → base.Ns mainGlobals mg → (∀ p ∈ cs, TabB base mg p.1 p.2) → FnG P w K mg base k fa fd [x] sp) (hbind : ∀ (s : Shared) (u : Value), BindsTo s fd ⟨[u], []⟩ [(x, u)])
    (hsp : ∀ H : Hp, (∀ p ∈ cs, H p.2 = some (.tbl #[])) → SqL K H a (ns.map V.int) → sp [.ref a] H (fun v _ => v = .bl true) fun _ _ _ => False) :
    codeAny (model P w) callerA (.call (.ref fa) ⟨[.ref a], []⟩)
      (fun r s' => r = .ok (.ret (.bool true)) ∧ OldK s₁.heap s'.heap ∧ s'.os = s₁.os ∧ AllBare s'.gens) s₁ := by
  have rv : Vals (ns.map V.int) vs := vals_ints hi
  have sz := hi.length
  obtain ⟨oS, hoS⟩ : ∃ o : Obj, o = { cls := .type "list", data := .seq vs.toArray } := ⟨_, rfl⟩
  rw [← hoS] at ha
  obtain ⟨tb, htb⟩ : ∃ tb : List Addr, tb = cs.map (·.2) := ⟨_, rfl⟩
  have tabO : ∀ b ∈ tb, s₁.heap.get? b = some { cls := .none, data := .fields #[] } := by
    intro b hb
    rw [htb] at hb
    obtain ⟨p, hp, rfl⟩ := List.mem_map.mp hb
    exact tabs p hp
  have tabK : ∀ b ∈ tb, K.lookup b = none := by
    intro b hb
    rw [htb] at hb
    obtain ⟨p, hp, rfl⟩ := List.mem_map.mp hb
    exact tabsK p hp
  have inT : ∀ p ∈ cs, p.2 ∈ tb := fun p hp => by
    rw [htb]
    exact List.mem_map.mpr ⟨p, hp, rfl⟩
  have aT : a ∉ tb := fun z => by
    have q := tabO a z
    rw [ha, hoS] at q
    cases q
  obtain ⟨H, hH⟩ : ∃ H : Hp, H = entryT K a oS ns tb := ⟨_, rfl⟩
  have atH : ∀ b u, H b = some u → (b = a ∧ K.lookup a = none ∧ u = .frz oS (.lst (ns.map V.int))) ∨ (b ∈ tb ∧ u = .tbl #[]) := by
    intro b u z
    rw [hH] at z
    unfold entryT at z
    split at z
    · next c => exact .inl ⟨c.1, c.2, (Option.some.inj z).symm⟩
    · split at z
      · next c => exact .inr ⟨c, (Option.some.inj z).symm⟩
      · cases z
  have atT : ∀ b ∈ tb, H b = some (.tbl #[]) := by
    intro b hb
    rw [hH]
    unfold entryT
    rw [if_neg (fun z : b = a ∧ K.lookup a = none => aT (z.1 ▸ hb)), if_pos hb]
  have hok : HOk P w H s₁.heap := by
    intro b u z
    rcases atH b u z with ⟨rfl, _, rfl⟩ | ⟨hb, rfl⟩
    · refine ⟨ha, ?_, vs, 0, rv, ?_⟩
      · rw [List.length_map]
        exact hl
      · rw [ha, hoS]
    · exact tabO b hb
  have seq : SqL K H a (ns.map V.int) := by
    cases hk : K.lookup a with
    | none =>
      refine Or.inl (Or.inr ⟨oS, ?_⟩)
      rw [hH]
      exact if_pos ⟨rfl, hk⟩
    | some o =>
      have e := KX a o hk
      rw [ha] at e
      cases e
      refine Or.inr ⟨_, vs.toArray, 0, hk, by rw [hoS], by rw [hoS], by rw [hoS], ?_, by simpa using rv⟩
      rw [List.size_toArray, sz]
      exact hl
  have keepB : ∀ {b : Addr} {o : Obj}, s₁.heap.get? b = some o → H b = none → (hidT s₁.heap H).get? b = some o := fun z n => hidT_get z n
  -- what is neither a list nor an empty table is not tracked
  have free : ∀ {b : Addr} {o : Obj}, s₁.heap.get? b = some o → (∀ ws n, o.data ≠ .seq ws n) → o.data ≠ .fields #[] → H b = none := by
    intro b o z d1 d2
    cases q : H b with
    | none => rfl
    | some u =>
      rcases atH b u q with ⟨rfl, _, _⟩ | ⟨hb, _⟩
      · rw [ha] at z
        cases z
        rw [hoS] at d1
        exact (d1 _ _ rfl).elim
      · rw [tabO b hb] at z
        cases z
        exact (d2 rfl).elim
  have dictFree : ∀ {b : Addr} {o : Obj} {es : Array DictEntry} {ep : Nat}, s₁.heap.get? b = some o → o.data = .dict es ep → H b = none := fun z d =>
    free z (fun _ _ w => by rw [d] at w; cases w) (fun w => by rw [d] at w; cases w)
  have nsB : ∀ {b : Addr} {m : Str → Option Value}, s₁.heap.Ns b m → (hidT s₁.heap H).Ns b m := by
    rintro b m ⟨o, es, ep, z, d, r⟩
    exact ⟨o, es, ep, keepB z (dictFree z d), d, r⟩
  have kinB : K.In (hidT s₁.heap H) := by
    intro b o z
    refine keepB (KX b o z) ?_
    cases q : H b with
    | none => rfl
    | some u =>
      rcases atH b u q with ⟨rfl, hk, _⟩ | ⟨hb, _⟩
      · rw [hk] at z
        cases z
      · rw [tabK b hb] at z
        cases z
  obtain ⟨mc, lim1, lim2⟩ := hlim
  have md : L2.Mod K mg (hidT s₁.heap H) := ⟨kinB, nsB hns, ⟨mb, nsB hb, hbb⟩, ⟨mc, nsB lim1, lim2⟩⟩
  have tabB : ∀ p ∈ cs, TabB (hidT s₁.heap H) mg p.1 p.2 := by
    intro p hp
    have tO := tabs p hp
    obtain ⟨og, esg, epg, eg, dg, _⟩ := hns
    refine ⟨?_, ?_, ?_⟩
    · obtain ⟨o, us, file, tf, flags, tg, inF, text, tt, e1, r1, r2, r3, rest⟩ := codes p hp
      refine ⟨o, us, file, tf, flags, tg, inF, text, tt, keepB e1 (free e1 (fun _ _ w => ?_) (fun w => ?_)), r1, r2, r3, rest⟩
      · rw [r2] at w
        cases w
      · rw [r2] at w
        cases w
        simp at r3
    · obtain ⟨bm, ob, b1, b2, b3, b4, b5, b6⟩ := bmod
      refine ⟨bm, ob, b1, b2, fun w => ?_, fun w => ?_, keepB b3 (free b3 (fun _ _ w => by rw [b6] at w; cases w) (fun w => by rw [b6] at w; cases w)), b4, b5, b6⟩
      · rw [w, eg] at b3
        cases b3
        rw [dg] at b6
        cases b6
      · rw [w, tO] at b3
        cases b3
        cases b6
    · intro w
      rw [w, tO] at eg
      cases eg
      cases dg
  have e0 : Env0 P w K mg (hidT s₁.heap H) callerA [] s₁ H :=
    { frames := rfl, mod := md, bs := fun b o z => of_hidT z, bsz := Nat.le_of_eq (hidT_size _ _), funs := trivial,
      frf := (fun b z => absurd (show b ∈ ([] : List Addr) from z) (by simp)), hok := hok, bare := AllBare.of_eq hg }
  have run := (F _ kinB (nsB hns) tabB).go callerA [] s₁ H ⟨[.ref a], []⟩ [.ref a] [.ref a] _ _ hr rfl e0 (hbind s₁ (.ref a)) (.cons rfl .nil) (hsp H (fun p hp => atT _ (inT p hp)) seq)
  refine codeAny_mono run fun r s' h => ?_
  match r, h with
  | .error e, z => obtain ⟨_, _, _, _, _, _, _, _, _, _, _, _, q⟩ := z; exact q.elim
  | .ok .next, z => exact z.elim
  | .ok .brk, z => exact z.elim
  | .ok .cont, z => exact z.elim
  | .ok (.ret u), z =>
    obtain ⟨v, H', os, bare, un, hok', rvu, q⟩ := z
    have ev : v = .bl true := q
    subst ev
    have eu : u = Value.bool true := rvu
    subst eu
    have same : ∀ b o, b ∉ tb → s₁.heap.get? b = some o → s'.heap.get? b = some o := by
      intro b o nb zb
      cases qb : H b with
      | none => exact un.keep b o zb qb (by simp [frs]) (by simp)
      | some u =>
        rcases atH b u qb with ⟨rfl, _, rfl⟩ | ⟨hb, _⟩
        · obtain ⟨e1, _⟩ := hok _ _ qb
          obtain ⟨e2, _⟩ := hok' _ _ (un.frzs _ _ _ qb)
          rw [zb] at e1
          cases e1
          exact e2
        · exact absurd hb nb
    have grown : ∀ b ∈ tb, ∃ more : Array Value, s'.heap.get? b = some { cls := .none, data := .fields more } := by
      intro b hb
      obtain ⟨more, z⟩ := un.tbls b #[] (atT b hb)
      exact ⟨_, hok' b _ z⟩
    refine ⟨rfl, ⟨fun b o zb => ?_, fun b o zb => ?_⟩, os, bare⟩
    · by_cases hb : b ∈ tb
      · obtain ⟨more, hm⟩ := grown b hb
        rw [tabO b hb] at zb
        cases zb
        rw [htb] at hb
        obtain ⟨p, hp, rfl⟩ := List.mem_map.mp hb
        exact .inr (.inl ⟨((codes p hp).tab (tabs p hp)).isCodeTable, rfl, #[], more, rfl, by rw [Array.empty_append]; exact hm⟩)
      · exact .inl (same b o hb zb)
    · by_cases hb : b ∈ tb
      · obtain ⟨more, hm⟩ := grown b hb
        exact ⟨_, hm⟩
      · exact ⟨o, same b o hb zb⟩
/-- what is known of the law at the head's heap, with its tables -/
structure LawTab (l : PySem.W.OpenLaw) (w : World) (K : PySem.W.Frag) (k n : Nat) (x : Str) (mg : Str → Option Value) (fa : Addr) (h : Heap) (fd : FuncData) (cs : List (Addr × Addr)) (sp : Sp) : Prop where
  tabs : ∀ p ∈ cs, h.get? p.2 = some { cls := .none, data := .fields #[] }
  tabsK : ∀ p ∈ cs, K.lookup p.2 = none
  codes : ∀ p ∈ cs, PySem.W.CodeHd h p.1 p.2
  binds : ∀ (s : Shared) (u : Value), BindsTo s fd ⟨[u], []⟩ [(x, u)]
  says : ∀ (H : Hp) (a : Addr) (ns : List Int), ns.length ≤ n → (∀ p ∈ cs, H p.2 = some (.tbl #[])) → SqL K H a (ns.map V.int) → sp [.ref a] H (fun v _ => v = .bl true) fun _ _ _ => False
  does : ∀ base : Heap, K.In base → base.Ns mainGlobals mg → (∀ p ∈ cs, TabB base mg p.1 p.2) → FnG l.prog w K mg base k fa fd [x] sp
/-- what the head tells of a def's code and its table -/
def TabFact (mg : Str → Option Value) (h : Heap) (x : Str) : Prop := ∃ a o fd c P, mg x = some (.ref a) ∧ h.get? a = some o ∧ o.data = .func fd ∧ fd.code = .ref c ∧ PySem.W.CodeHd h c P ∧ h.get? P = some { cls := .none, data := .fields #[] }
theorem walkGT {l : PySem.W.OpenLaw} {n k : Nat} {q : Program} {loose : List Str} {XP : (Str → Option Value) → Heap → Prop} {YP : World → Heap → Prop} {d : DefRec} {K : Params → PySem.W.Frag} {x : Str}
    (hn : l.most = some n) (hn2 : n ≤ sizeLine) (hdf : d.params.defaults = []) (hr : Room k callerA) (hY : ∀ (w : World) (h : Heap), YP w h → (K w.params).In h)
    (F : ∀ (w : World) (mg : Str → Option Value) (fa : Addr) (h : Heap), YP w h → (K w.params).In h → h.Ns mainGlobals mg → mg d.name = some (.ref fa) → (∀ y, ((recsOf q).any fun e => e.name == y) = true → TabFact mg h y) → ∃ fd cs sp, LawTab l w (K w.params) k n x mg fa h fd cs sp) :
    PySem.W.WalkO q loose XP YP l.row.toRowW d [] (fun f vs => PySem.call f vs) := by
  apply Att.attach_call hn hdf
  intro w s₀ s₁ mg mb fa o pm cd doc a vs ns G Y ho hd hcd hmg hobj hints hlen hg
  have KX := hY w _ Y
  have tf : ∀ y, ((recsOf q).any fun e => e.name == y) = true → TabFact mg s₁.heap y := by
    intro y hy
    obtain ⟨dL, hm, hn1⟩ := List.any_eq_true.mp hy
    have en : dL.name = y := beq_iff_eq.mp hn1
    obtain ⟨a', o', fd', c', P', f1, f2, f3, f4, f5, f6⟩ := G.T.tab dL hm
    rw [en] at f1
    exact ⟨a', o', fd', c', P', f1, f2, f3, f4, PySem.W.CodeHd.of f5 f6, f6.2⟩
  obtain ⟨fd, cs, sp, L⟩ := F w mg fa _ Y KX G.T.g hmg tf
  exact law_callGT KX G.T.g G.T.b G.T.builtins G.T.nolimit hg L.tabs L.tabsK L.codes G.T.bmain hobj hints (Nat.le_trans hlen hn2) hr L.does L.binds fun H hT hS => L.says H a ns hlen hT hS
/-- the boxes that know all the tables -/
def BxAll (TB : List (Addr × Str)) (β : Box) : Prop := ∀ r ∈ TB, BoxT r.1 r.2 β
theorem BxAll.one {TB : List (Addr × Str)} {β : Box} {tA : Addr} {q : Str} (h : (tA, q) ∈ TB) (b : BxAll TB β) : BoxT tA q β ∧ ∀ v, BxAll TB (β.at v) :=
  ⟨b _ h, fun v r hr => ⟨(b r hr).tab, (b r hr).own, (b r hr).cod, (b r hr).new⟩⟩
theorem bxAll_spring {TB : List (Addr × Str)} (nd : ∀ r ∈ TB, ∀ z ∈ TB, z.1 = r.1 → z.2 = r.2) (β : Box) (v : V) (h : boxIs false β v) (e : β.tabs = TB) : BxAll TB β := by
  obtain ⟨p, T, rfl, _⟩ := h
  have e' : T = TB := e
  subst e'
  exact fun r hr => boxT_spring (T := T) hr fun z hz w => nd r hr z hz w
end Wb

set_option Elab.async false
set_option linter.all false
set_option maxRecDepth 100000
set_option maxHeartbeats 4000000
/-! Wb, part 55: the end of a law whose defs make lambdas. -/
namespace Wb
open PySem PySem.Spec PyProof.Rows L2 RZ LamX
/-- the code object and the table of a def, by what K tells of it -/
theorem TabFact.use {K : PySem.W.Frag} {mg : Str → Option Value} {h : Heap} {x : Str} {f c P : Addr} {oc e : Value} {od dd : Option Addr} {fd : FuncData} {sl slc : Array (Option Value)} {vs : Array Value} (tf : TabFact mg h x) (X : K.In h)
    (m : mg x = some (.ref f)) (lf : K.lookup f = some ⟨oc, od, .func fd, sl⟩) (hc : fd.code = .ref c) (lc : K.lookup c = some ⟨e, dd, .fields vs, slc⟩) (v11 : vs[11]? = some (.ref P)) :
    PySem.W.CodeHd h c P ∧ h.get? P = some { cls := .none, data := .fields #[] } := by
  obtain ⟨a, o, fd', c', P', f1, f2, f3, f4, f5, f6⟩ := tf
  rw [m] at f1
  cases f1
  have g1 := X _ _ lf
  rw [g1] at f2
  cases f2
  cases f3
  rw [hc] at f4
  cases f4
  have f5' := f5
  obtain ⟨o2, us, file, tf, flags, tg, inF, text, tt, e1, r1, r2, r3, rest⟩ := f5
  have g2 := X _ _ lc
  rw [g2] at e1
  cases e1
  cases r2
  rw [v11] at r3
  cases r3
  exact ⟨f5', f6⟩
theorem tabs_nil {TB : List (Addr × Str)} {cs : List (Addr × Addr)} {H : Hp} (h : ∀ p ∈ cs, H p.2 = some (.tbl #[])) (e : TB.map (·.1) = cs.map (·.2)) : Tabs TB H := by
  intro r hr
  have : r.1 ∈ cs.map (·.2) := e ▸ List.mem_map.mpr ⟨r, hr, rfl⟩
  obtain ⟨p, hp, e2⟩ := List.mem_map.mp this
  refine TabS.nil ?_
  rw [← e2]
  exact h p hp
theorem nd_of {TB : List (Addr × Str)} (nd : (TB.map (·.1)).Nodup) : ∀ r ∈ TB, ∀ z ∈ TB, z.1 = r.1 → z.2 = r.2 := by
  induction TB with
  | nil =>
    intro r hr
    cases hr
  | cons t T ih =>
    rw [List.map_cons, List.nodup_cons] at nd
    intro r hr z hz e
    rcases List.mem_cons.mp hr with rfl | hr' <;> rcases List.mem_cons.mp hz with rfl | hz'
    · rfl
    · exact absurd (List.mem_map.mpr ⟨z, hz', e⟩) nd.1
    · exact absurd (List.mem_map.mpr ⟨r, hr', e.symm⟩) nd.1
    · exact ih nd.2 r hr' z hz' e
theorem all_nil {α : Type} {P : α → Prop} : ∀ p ∈ ([] : List α), P p := fun p hp => nomatch hp
theorem all_cons {α : Type} {P : α → Prop} {a : α} {l : List α} (h : P a) (t : ∀ p ∈ l, P p) : ∀ p ∈ a :: l, P p := fun p hp => by
  rcases List.mem_cons.mp hp with rfl | hp'
  · exact h
  · exact t p hp'
end Wb

set_option Elab.async false
set_option linter.all false
set_option maxRecDepth 100000
set_option maxHeartbeats 4000000
namespace Wk40
open PySem PySem.Spec PyProof.Rows L2 Wb
def topS (i : Nat) : Stmt := PySem.Challenge.pw_wirebeats_k40_lines_counted.main.body.getD i (.Pass ⟨0, 0, 0, 0⟩)
def cm_BadDirection : Str → Option Bool := fun x => [(("BadDirection" : Str), true), (("NoCount" : Str), false)].lookup x
def cm_NoCount : Str → Option Bool := fun x => [(("BadDirection" : Str), false), (("NoCount" : Str), true)].lookup x
/-! is_integer -/
abbrev St_is_integer : Stmt := topS 7
abbrev N_is_integer : List Str := ["value"]
theorem sc_is_integer : FnScope N_is_integer ["value"] (defScope St_is_integer) := ⟨rfl, rfl, rfl, by decide +kernel, rfl, by decide +kernel, by decide +kernel⟩
def F_is_integer : Env' → T Fl := (sRet (eAnd (eUn (oIsI "int") (eV 0)) (eUn oNot (eUn (oIsI "bool") (eV 0)))))
@[irreducible] def m_is_integer : List Ar → T D := mkDef 1 F_is_integer
theorem mq_is_integer : m_is_integer = mkDef 1 F_is_integer := by
  unfold m_is_integer
  rfl
theorem ok_is_integer {P : Program} {w : World} {K : PySem.W.Frag} {mg : Str → Option Value} {base : Heap} {cad : Cad} {fa : Addr} {fd : FuncData} (Fu : Fun K "is_integer" "is_integer" St_is_integer fa fd) (b_isinstance : mg "isinstance" = none) (b_int : mg "int" = none) (b_bool : mg "bool" = none) : FnG P w K mg base 2 fa fd ["value"] (spD cad 1 m_is_integer) :=
  by
  rw [mq_is_integer]
  exact FnG.ofD (F := F_is_integer) (N := N_is_integer) Fu sc_is_integer fun cdv A outer s H E hr hgu => (ss_one (s_ret (r_and (r_isa (by rfl) b_isinstance (pe_bltn (by rfl) b_int (by decide +kernel) rfl) (r_v 0 (pv 0)) kit_int) (r_one (r_not (r_isa (by rfl) b_isinstance (pe_bltn (by rfl) b_bool (by decide +kernel) rfl) (r_v 0 (pv 0)) kit_bool))))))
/-! is_within -/
abbrev St_is_within : Stmt := topS 8
abbrev N_is_within : List Str := ["value", "low", "high"]
theorem sc_is_within : FnScope N_is_within ["value", "low", "high"] (defScope St_is_within) := ⟨rfl, rfl, rfl, by decide +kernel, rfl, by decide +kernel, by decide +kernel⟩
def F_is_within : Env' → T Fl := (sRet (eAnd (eUn (oIsI "int") (eV 0)) (eAnd (eUn oNot (eUn (oIsI "bool") (eV 0))) (eCh oLe oLe (eV 1) (eV 0) (eV 2)))))
@[irreducible] def m_is_within : List Ar → T D := mkDef 3 F_is_within
theorem mq_is_within : m_is_within = mkDef 3 F_is_within := by
  unfold m_is_within
  rfl
theorem ok_is_within {P : Program} {w : World} {K : PySem.W.Frag} {mg : Str → Option Value} {base : Heap} {cad : Cad} {fa : Addr} {fd : FuncData} (Fu : Fun K "is_within" "is_within" St_is_within fa fd) (b_isinstance : mg "isinstance" = none) (b_int : mg "int" = none) (b_bool : mg "bool" = none) : FnG P w K mg base 2 fa fd ["value", "low", "high"] (spD cad 3 m_is_within) :=
  by
  rw [mq_is_within]
  exact FnG.ofD (F := F_is_within) (N := N_is_within) Fu sc_is_within fun cdv A outer s H E hr hgu => (ss_one (s_ret (r_and (r_isa (by rfl) b_isinstance (pe_bltn (by rfl) b_int (by decide +kernel) rfl) (r_v 0 (pv 0)) kit_int) (r_and (r_not (r_isa (by rfl) b_isinstance (pe_bltn (by rfl) b_bool (by decide +kernel) rfl) (r_v 0 (pv 0)) kit_bool)) (r_one (r_chain op_le op_le u_cmp d_cmp (r_v 1 (pv 1)) (r_v 0 (pv 0)) (r_v 2 (pv 2))))))))
/-! is_bounded -/
abbrev St_is_bounded : Stmt := topS 9
abbrev N_is_bounded : List Str := ["dims", "value", "most", "item"]
theorem sc_is_bounded : FnScope N_is_bounded ["dims", "value", "most"] (defScope St_is_bounded) := ⟨rfl, rfl, rfl, by decide +kernel, rfl, by decide +kernel, by decide +kernel⟩
def F_is_bounded : Env' → T Fl := (sSeq (sIf (eOr (eUn oNot (eUn (oIsI "tuple") (eV 1))) (eBin oNe (eCb oLen (aCons (eV 1) aNil)) (eV 0))) (sRet (eC (.bool false))) sNil) (sSeq (sFor (iSeq (eV 1)) (bName 3) (sIf (eUn oNot (eCall 3 m_is_within (aCons (eV 3) (aCons (eUn oNeg (eV 2)) (aCons (eV 2) aNil))))) (sRet (eC (.bool false))) sNil)) (sRet (eC (.bool true)))))
@[irreducible] def m_is_bounded : List Ar → T D := mkDef 4 F_is_bounded
theorem mq_is_bounded : m_is_bounded = mkDef 4 F_is_bounded := by
  unfold m_is_bounded
  rfl
theorem ok_is_bounded {P : Program} {w : World} {K : PySem.W.Frag} {mg : Str → Option Value} {base : Heap} {cad : Cad} {fa : Addr} {fd : FuncData} (Fu : Fun K "is_bounded" "is_bounded" St_is_bounded fa fd) (C_is_within : Cal P w K mg base cad "is_within" 2 3 m_is_within) (b_isinstance : mg "isinstance" = none) (b_tuple : mg "tuple" = none) (b_len : mg "len" = none) : FnG P w K mg base 3 fa fd ["dims", "value", "most"] (spD cad 3 m_is_bounded) :=
  by
  rw [mq_is_bounded]
  exact FnG.ofD (F := F_is_bounded) (N := N_is_bounded) Fu sc_is_bounded fun cdv A outer s H E hr hgu => (ss_cons (s_if (q_or (q_not (q_val (r_isa (by rfl) b_isinstance (pe_bltn (by rfl) b_tuple (by decide +kernel) rfl) (r_v 1 (pv 1)) kit_tuple))) (q_or1 (q_cmp (op_neW hr.units) d_ne (r_b call_len_seq d_len (by rfl) b_len (by decide +kernel) (a_cons (r_v 1 (pv 1)) a_nil)) (r_v 0 (pv 0)) (nomark _)))).pt (ss_one (s_ret r_bl)) ss_nil) (ss_cons (s_for (b_name (K := K)) (ps_for (passes_of rfl) rfl (i_seq (r_v 1 (pv 1))) (pg_name (i := 3) sc_is_bounded.nd rfl (by first | exact .inl rfl | exact .inr rfl)) (ss_one (s_if (q_not (q_val (r_cal C_is_within hr (by first | decide | omega) hgu (by rfl) (takes_of rfl rfl rfl rfl) (a_cons (r_v 3 (pv 3)) (a_cons (r_un un_neg d_neg (r_v 2 (pv 2))) (a_cons (r_v 2 (pv 2)) a_nil)))))) (ss_one (s_ret r_bl)) ss_nil)))) (ss_one (s_ret r_bl))))
/-! count_points -/
abbrev St_count_points : Stmt := topS 11
abbrev N_count_points : List Str := ["box", "many", "size"]
theorem sc_count_points : FnScope N_count_points ["box"] (defScope St_count_points) := ⟨rfl, rfl, rfl, by decide +kernel, rfl, by decide +kernel, by decide +kernel⟩
def F_count_points : Env' → T Fl := (sSeq (sSet 1 (eC (.int 1))) (sSeq (sFor (iSeq (eV 0)) (bName 2) (sSet 1 (eBin oMul (eV 1) (eV 2)))) (sRet (eV 1))))
@[irreducible] def m_count_points : List Ar → T D := mkDef 3 F_count_points
theorem mq_count_points : m_count_points = mkDef 3 F_count_points := by
  unfold m_count_points
  rfl
theorem ok_count_points {P : Program} {w : World} {K : PySem.W.Frag} {mg : Str → Option Value} {base : Heap} {cad : Cad} {fa : Addr} {fd : FuncData} (Fu : Fun K "count_points" "count_points" St_count_points fa fd)  : FnG P w K mg base 2 fa fd ["box"] (spD cad 1 m_count_points) :=
  by
  rw [mq_count_points]
  exact FnG.ofD (F := F_count_points) (N := N_count_points) Fu sc_count_points fun cdv A outer s H E hr hgu => (ss_cons (s_set (ps_set (i := 1) sc_count_points.nd rfl (by first | exact .inl rfl | exact .inr rfl) r_int)) (ss_cons (s_for (b_name (K := K)) (ps_for (passes_of rfl) rfl (i_seq (r_v 0 (pv 0))) (pg_name (i := 2) sc_count_points.nd rfl (by first | exact .inl rfl | exact .inr rfl)) (ss_one (s_set (ps_set (i := 1) sc_count_points.nd rfl (by first | exact .inl rfl | exact .inr rfl) (r_op op_mulD d_mul (r_v 1 (pv 1)) (r_v 2 (pv 2)))))))) (ss_one (s_ret (r_v 1 (pv 1))))))
/-! common_divisor -/
abbrev St_common_divisor : Stmt := topS 13
abbrev N_common_divisor : List Str := ["vector", "divisor", "item"]
theorem sc_common_divisor : FnScope N_common_divisor ["vector"] (defScope St_common_divisor) := ⟨rfl, rfl, rfl, by decide +kernel, rfl, by decide +kernel, by decide +kernel⟩
def F_common_divisor : Env' → T Fl := (sSeq (sSet 1 (eC (.int 0))) (sSeq (sFor (iSeq (eV 0)) (bName 2) (sSet 1 (eCb (o2 oGcd) (aCons (eV 1) (aCons (eV 2) aNil))))) (sRet (eV 1))))
@[irreducible] def m_common_divisor : List Ar → T D := mkDef 3 F_common_divisor
theorem mq_common_divisor : m_common_divisor = mkDef 3 F_common_divisor := by
  unfold m_common_divisor
  rfl
theorem ok_common_divisor {P : Program} {w : World} {K : PySem.W.Frag} {mg : Str → Option Value} {base : Heap} {cad : Cad} {fa : Addr} {fd : FuncData} (Fu : Fun K "common_divisor" "common_divisor" St_common_divisor fa fd) (g_gcd : mg "gcd" = some (.builtin "math.gcd")) : FnG P w K mg base 2 fa fd ["vector"] (spD cad 1 m_common_divisor) :=
  by
  rw [mq_common_divisor]
  exact FnG.ofD (F := F_common_divisor) (N := N_common_divisor) Fu sc_common_divisor fun cdv A outer s H E hr hgu => (ss_cons (s_set (ps_set (i := 1) sc_common_divisor.nd rfl (by first | exact .inl rfl | exact .inr rfl) r_int)) (ss_cons (s_for (b_name (K := K)) (ps_for (passes_of rfl) rfl (i_seq (r_v 0 (pv 0))) (pg_name (i := 2) sc_common_divisor.nd rfl (by first | exact .inl rfl | exact .inr rfl)) (ss_one (s_set (ps_set (i := 1) sc_common_divisor.nd rfl (by first | exact .inl rfl | exact .inr rfl) (r_bf cr_gcd d_gcd (by rfl) g_gcd (a_cons (r_v 1 (pv 1)) (a_cons (r_v 2 (pv 2)) a_nil)))))))) (ss_one (s_ret (r_v 1 (pv 1))))))
/-! is_direction -/
abbrev St_is_direction : Stmt := topS 14
abbrev N_is_direction : List Str := ["dims", "value"]
theorem sc_is_direction : FnScope N_is_direction ["dims", "value"] (defScope St_is_direction) := ⟨rfl, rfl, rfl, by decide +kernel, rfl, by decide +kernel, by decide +kernel⟩
def F_is_direction : Env' → T Fl := (sRet (eAnd (eCall 3 m_is_bounded (aCons (eV 0) (aCons (eV 1) (aCons (eC (.int 4)) aNil)))) (eBin oEq (eCall 1 m_common_divisor (aCons (eV 1) aNil)) (eC (.int 1)))))
@[irreducible] def m_is_direction : List Ar → T D := mkDef 2 F_is_direction
theorem mq_is_direction : m_is_direction = mkDef 2 F_is_direction := by
  unfold m_is_direction
  rfl
theorem ok_is_direction {P : Program} {w : World} {K : PySem.W.Frag} {mg : Str → Option Value} {base : Heap} {cad : Cad} {fa : Addr} {fd : FuncData} (Fu : Fun K "is_direction" "is_direction" St_is_direction fa fd) (C_is_bounded : Cal P w K mg base cad "is_bounded" 3 3 m_is_bounded) (C_common_divisor : Cal P w K mg base cad "common_divisor" 2 1 m_common_divisor) {tok_MAX_DIST : Tok} (c_MAX_DIST : mg "MAX_DIST" = some (.int 4 tok_MAX_DIST)) : FnG P w K mg base 4 fa fd ["dims", "value"] (spD cad 2 m_is_direction) :=
  by
  rw [mq_is_direction]
  exact FnG.ofD (F := F_is_direction) (N := N_is_direction) Fu sc_is_direction fun cdv A outer s H E hr hgu => (ss_one (s_ret (r_and (r_cal C_is_bounded hr (by first | decide | omega) hgu (by rfl) (takes_of rfl rfl rfl rfl) (a_cons (r_v 0 (pv 0)) (a_cons (r_v 1 (pv 1)) (a_cons (r_glob (v := .int 4) (by rfl) c_MAX_DIST ⟨_, rfl⟩ fun _ => .int 4) a_nil)))) (r_one (r_cmp (op_eqW hr.units) d_eq (r_cal C_common_divisor hr (by first | decide | omega) hgu (by rfl) (takes_of rfl rfl rfl rfl) (a_cons (r_v 1 (pv 1)) a_nil)) r_int (nomark _))))))
/-! check_direction -/
abbrev St_check_direction : Stmt := topS 15
abbrev N_check_direction : List Str := ["dims", "direction"]
theorem sc_check_direction : FnScope N_check_direction ["dims", "direction"] (defScope St_check_direction) := ⟨rfl, rfl, rfl, by decide +kernel, rfl, by decide +kernel, by decide +kernel⟩
def F_check_direction : Env' → T Fl := (sIf (eUn oNot (eCall 2 m_is_direction (aCons (eV 0) (aCons (eV 1) aNil)))) (sRaise1 "BadDirection" "direction" (eV 1)) sNil)
@[irreducible] def m_check_direction : List Ar → T D := mkDef 2 F_check_direction
theorem mq_check_direction : m_check_direction = mkDef 2 F_check_direction := by
  unfold m_check_direction
  rfl
theorem ok_check_direction {P : Program} {w : World} {K : PySem.W.Frag} {mg : Str → Option Value} {base : Heap} {cad : Cad} {fa : Addr} {fd : FuncData} (Fu : Fun K "check_direction" "check_direction" St_check_direction fa fd) (C_is_direction : Cal P w K mg base cad "is_direction" 4 2 m_is_direction) (E_BadDirection : Err1 P w K mg base cad "BadDirection" "direction") : FnG P w K mg base 5 fa fd ["dims", "direction"] (spD cad 2 m_check_direction) :=
  by
  rw [mq_check_direction]
  exact FnG.ofD (F := F_check_direction) (N := N_check_direction) Fu sc_check_direction fun cdv A outer s H E hr hgu => (ss_one (s_if (q_not (q_val (r_cal C_is_direction hr (by first | decide | omega) hgu (by rfl) (takes_of rfl rfl rfl rfl) (a_cons (r_v 0 (pv 0)) (a_cons (r_v 1 (pv 1)) a_nil))))) (ss_one (s_raiseE E_BadDirection rfl (takes_of rfl rfl rfl rfl) hr (by first | decide | omega) (by rfl) (r_v 1 (pv 1)))) ss_nil))
/-! count_staying -/
abbrev St_count_staying : Stmt := topS 17
abbrev N_count_staying : List Str := ["box", "direction", "steps", "size", "move"]
theorem sc_count_staying : FnScope N_count_staying ["box", "direction", "steps"] (defScope St_count_staying) := ⟨rfl, rfl, rfl, by decide +kernel, rfl, by decide +kernel, by decide +kernel⟩
def F_count_staying : Env' → T Fl := (sRet (eCall 1 m_count_points (aCons (eLc [3, 4] (iArg oZipM (aCons (eV 0) (aCons (eV 1) aNil))) (bTup [3, 4]) tTrue (eCb oMax2 (aCons (eC (.int 0)) (aCons (eBin oSub (eV 3) (eBin oMul (eV 2) (eCb (o1 oAbs) (aCons (eV 4) aNil)))) aNil)))) aNil)))
@[irreducible] def m_count_staying : List Ar → T D := mkDef 5 F_count_staying
theorem mq_count_staying : m_count_staying = mkDef 5 F_count_staying := by
  unfold m_count_staying
  rfl
theorem ok_count_staying {P : Program} {w : World} {K : PySem.W.Frag} {mg : Str → Option Value} {base : Heap} {cad : Cad} {fa : Addr} {fd : FuncData} (Fu : Fun K "count_staying" "count_staying" St_count_staying fa fd) (C_count_points : Cal P w K mg base cad "count_points" 2 1 m_count_points) (b_zip : mg "zip" = none) (b_max : mg "max" = none) (b_abs : mg "abs" = none) : FnG P w K mg base 3 fa fd ["box", "direction", "steps"] (spD cad 3 m_count_staying) :=
  by
  rw [mq_count_staying]
  exact FnG.ofD (F := F_count_staying) (N := N_count_staying) Fu sc_count_staying fun cdv A outer s H E hr hgu => (ss_one (s_ret (r_cal C_count_points hr (by first | decide | omega) hgu (by rfl) (takes_of rfl rfl rfl rfl) (a_cons (r_lc (own := [("size", 3), ("move", 4)]) rfl sc_count_staying.nd (i_zipM (by rfl) b_zip (a_cons (r_v 0 (pv 0)) (a_cons (r_v 1 (pv 1)) a_nil))) (blkOk_by (N := N_count_staying) (sc := defScope St_count_staying) (by decide +kernel)) (fun _ _ _ _ _ => (g_tup rfl (pg_tup rfl (pgs_cons (pg_name (i := 3) sc_count_staying.nd rfl (by first | exact .inl rfl | exact .inr rfl)) (pgs_cons (pg_name (i := 4) sc_count_staying.nd rfl (by first | exact .inl rfl | exact .inr rfl)) pgs_nil))))) (fun _ _ _ _ _ => pts_yes) (fun _ _ _ _ _ => (r_b (call_max2 rfl) d_max2 (by rfl) b_max (by decide +kernel) (a_cons r_int (a_cons (r_op op_sub d_sub (r_v 3 (pv 3)) (r_op op_mulD d_mul (r_v 2 (pv 2)) (r_b call_abs d_abs (by rfl) b_abs (by decide +kernel) (a_cons (r_v 4 (pv 4)) a_nil)))) a_nil)))) (by decide)) a_nil))))
/-! greatest_step -/
abbrev St_greatest_step : Stmt := topS 18
abbrev N_greatest_step : List Str := ["box", "direction", "size", "move"]
theorem sc_greatest_step : FnScope N_greatest_step ["box", "direction"] (defScope St_greatest_step) := ⟨rfl, rfl, rfl, by decide +kernel, rfl, by decide +kernel, by decide +kernel⟩
def F_greatest_step : Env' → T Fl := (sRet (eCb (o1 oMinL) (aCons (eLc [2, 3] (iArg oZipM (aCons (eV 0) (aCons (eV 1) aNil))) (bTup [2, 3]) (eBin oNe (eV 3) (eC (.int 0))) (eBin oFdiv (eBin oSub (eV 2) (eC (.int 1))) (eCb (o1 oAbs) (aCons (eV 3) aNil)))) aNil)))
@[irreducible] def m_greatest_step : List Ar → T D := mkDef 4 F_greatest_step
theorem mq_greatest_step : m_greatest_step = mkDef 4 F_greatest_step := by
  unfold m_greatest_step
  rfl
theorem ok_greatest_step {P : Program} {w : World} {K : PySem.W.Frag} {mg : Str → Option Value} {base : Heap} {cad : Cad} {fa : Addr} {fd : FuncData} (Fu : Fun K "greatest_step" "greatest_step" St_greatest_step fa fd) (b_min : mg "min" = none) (b_zip : mg "zip" = none) (b_abs : mg "abs" = none) : FnG P w K mg base 2 fa fd ["box", "direction"] (spD cad 2 m_greatest_step) :=
  by
  rw [mq_greatest_step]
  exact FnG.ofD (F := F_greatest_step) (N := N_greatest_step) Fu sc_greatest_step fun cdv A outer s H E hr hgu => (ss_one (s_ret (r_b (cr_min rfl) d_minL (by rfl) b_min (by decide +kernel) (a_cons (r_lc (own := [("size", 2), ("move", 3)]) rfl sc_greatest_step.nd (i_zipM (by rfl) b_zip (a_cons (r_v 0 (pv 0)) (a_cons (r_v 1 (pv 1)) a_nil))) (blkOk_by (N := N_greatest_step) (sc := defScope St_greatest_step) (by decide +kernel)) (fun _ _ _ _ _ => (g_tup rfl (pg_tup rfl (pgs_cons (pg_name (i := 2) sc_greatest_step.nd rfl (by first | exact .inl rfl | exact .inr rfl)) (pgs_cons (pg_name (i := 3) sc_greatest_step.nd rfl (by first | exact .inl rfl | exact .inr rfl)) pgs_nil))))) (fun _ _ _ _ _ => (pts_if (q_cmp (op_neW hr.units) d_ne (r_v 3 (pv 3)) r_int (nomark _)))) (fun _ _ _ _ _ => (r_op op_fdivD d_fdiv (r_op op_sub d_sub (r_v 2 (pv 2)) r_int) (r_b call_abs d_abs (by rfl) b_abs (by decide +kernel) (a_cons (r_v 3 (pv 3)) a_nil)))) (by decide)) a_nil))))
/-! count_lines -/
abbrev St_count_lines : Stmt := topS 19
abbrev N_count_lines : List Str := ["box", "direction"]
theorem sc_count_lines : FnScope N_count_lines ["box", "direction"] (defScope St_count_lines) := ⟨rfl, rfl, rfl, by decide +kernel, rfl, by decide +kernel, by decide +kernel⟩
def F_count_lines : Env' → T Fl := (sSeq (sDrop (eCall 2 m_check_direction (aCons (eCb oLen (aCons (eV 0) aNil)) (aCons (eV 1) aNil)))) (sRet (eBin oSub (eCall 1 m_count_points (aCons (eV 0) aNil)) (eCall 3 m_count_staying (aCons (eV 0) (aCons (eV 1) (aCons (eC (.int 1)) aNil)))))))
@[irreducible] def m_count_lines : List Ar → T D := mkDef 2 F_count_lines
theorem mq_count_lines : m_count_lines = mkDef 2 F_count_lines := by
  unfold m_count_lines
  rfl
theorem ok_count_lines {P : Program} {w : World} {K : PySem.W.Frag} {mg : Str → Option Value} {base : Heap} {cad : Cad} {fa : Addr} {fd : FuncData} (Fu : Fun K "count_lines" "count_lines" St_count_lines fa fd) (C_check_direction : Cal P w K mg base cad "check_direction" 5 2 m_check_direction) (C_count_points : Cal P w K mg base cad "count_points" 2 1 m_count_points) (C_count_staying : Cal P w K mg base cad "count_staying" 3 3 m_count_staying) (b_len : mg "len" = none) : FnG P w K mg base 6 fa fd ["box", "direction"] (spD cad 2 m_count_lines) :=
  by
  rw [mq_count_lines]
  exact FnG.ofD (F := F_count_lines) (N := N_count_lines) Fu sc_count_lines fun cdv A outer s H E hr hgu => (ss_cons (s_drop (ps_expr (r_cal C_check_direction hr (by first | decide | omega) hgu (by rfl) (takes_of rfl rfl rfl rfl) (a_cons (r_b call_len_seq d_len (by rfl) b_len (by decide +kernel) (a_cons (r_v 0 (pv 0)) a_nil)) (a_cons (r_v 1 (pv 1)) a_nil))))) (ss_one (s_ret (r_op op_sub d_sub (r_cal C_count_points hr (by first | decide | omega) hgu (by rfl) (takes_of rfl rfl rfl rfl) (a_cons (r_v 0 (pv 0)) a_nil)) (r_cal C_count_staying hr (by first | decide | omega) hgu (by rfl) (takes_of rfl rfl rfl rfl) (a_cons (r_v 0 (pv 0)) (a_cons (r_v 1 (pv 1)) (a_cons r_int a_nil))))))))
/-! longest_line -/
abbrev St_longest_line : Stmt := topS 20
abbrev N_longest_line : List Str := ["box", "direction"]
theorem sc_longest_line : FnScope N_longest_line ["box", "direction"] (defScope St_longest_line) := ⟨rfl, rfl, rfl, by decide +kernel, rfl, by decide +kernel, by decide +kernel⟩
def F_longest_line : Env' → T Fl := (sSeq (sDrop (eCall 2 m_check_direction (aCons (eCb oLen (aCons (eV 0) aNil)) (aCons (eV 1) aNil)))) (sRet (eBin oAdd (eCall 2 m_greatest_step (aCons (eV 0) (aCons (eV 1) aNil))) (eC (.int 1)))))
@[irreducible] def m_longest_line : List Ar → T D := mkDef 2 F_longest_line
theorem mq_longest_line : m_longest_line = mkDef 2 F_longest_line := by
  unfold m_longest_line
  rfl
theorem ok_longest_line {P : Program} {w : World} {K : PySem.W.Frag} {mg : Str → Option Value} {base : Heap} {cad : Cad} {fa : Addr} {fd : FuncData} (Fu : Fun K "longest_line" "longest_line" St_longest_line fa fd) (C_check_direction : Cal P w K mg base cad "check_direction" 5 2 m_check_direction) (C_greatest_step : Cal P w K mg base cad "greatest_step" 2 2 m_greatest_step) (b_len : mg "len" = none) : FnG P w K mg base 6 fa fd ["box", "direction"] (spD cad 2 m_longest_line) :=
  by
  rw [mq_longest_line]
  exact FnG.ofD (F := F_longest_line) (N := N_longest_line) Fu sc_longest_line fun cdv A outer s H E hr hgu => (ss_cons (s_drop (ps_expr (r_cal C_check_direction hr (by first | decide | omega) hgu (by rfl) (takes_of rfl rfl rfl rfl) (a_cons (r_b call_len_seq d_len (by rfl) b_len (by decide +kernel) (a_cons (r_v 0 (pv 0)) a_nil)) (a_cons (r_v 1 (pv 1)) a_nil))))) (ss_one (s_ret (r_op op_addD d_add (r_cal C_greatest_step hr (by first | decide | omega) hgu (by rfl) (takes_of rfl rfl rfl rfl) (a_cons (r_v 0 (pv 0)) (a_cons (r_v 1 (pv 1)) a_nil))) r_int))))
/-! count_long -/
abbrev St_count_long : Stmt := topS 21
abbrev N_count_long : List Str := ["box", "direction", "many"]
theorem sc_count_long : FnScope N_count_long ["box", "direction", "many"] (defScope St_count_long) := ⟨rfl, rfl, rfl, by decide +kernel, rfl, by decide +kernel, by decide +kernel⟩
def F_count_long : Env' → T Fl := (sSeq (sDrop (eCall 2 m_check_direction (aCons (eCb oLen (aCons (eV 0) aNil)) (aCons (eV 1) aNil)))) (sSeq (sIf (eOr (eUn oNot (eCall 1 m_is_integer (aCons (eV 2) aNil))) (eBin oLt (eV 2) (eC (.int 1)))) (sRaise1 "NoCount" "many" (eV 2)) sNil) (sRet (eBin oSub (eCall 3 m_count_staying (aCons (eV 0) (aCons (eV 1) (aCons (eBin oSub (eV 2) (eC (.int 1))) aNil)))) (eCall 3 m_count_staying (aCons (eV 0) (aCons (eV 1) (aCons (eV 2) aNil))))))))
@[irreducible] def m_count_long : List Ar → T D := mkDef 3 F_count_long
theorem mq_count_long : m_count_long = mkDef 3 F_count_long := by
  unfold m_count_long
  rfl
theorem ok_count_long {P : Program} {w : World} {K : PySem.W.Frag} {mg : Str → Option Value} {base : Heap} {cad : Cad} {fa : Addr} {fd : FuncData} (Fu : Fun K "count_long" "count_long" St_count_long fa fd) (C_check_direction : Cal P w K mg base cad "check_direction" 5 2 m_check_direction) (C_is_integer : Cal P w K mg base cad "is_integer" 2 1 m_is_integer) (C_count_staying : Cal P w K mg base cad "count_staying" 3 3 m_count_staying) (b_len : mg "len" = none) (E_NoCount : Err1 P w K mg base cad "NoCount" "many") : FnG P w K mg base 6 fa fd ["box", "direction", "many"] (spD cad 3 m_count_long) :=
  by
  rw [mq_count_long]
  exact FnG.ofD (F := F_count_long) (N := N_count_long) Fu sc_count_long fun cdv A outer s H E hr hgu => (ss_cons (s_drop (ps_expr (r_cal C_check_direction hr (by first | decide | omega) hgu (by rfl) (takes_of rfl rfl rfl rfl) (a_cons (r_b call_len_seq d_len (by rfl) b_len (by decide +kernel) (a_cons (r_v 0 (pv 0)) a_nil)) (a_cons (r_v 1 (pv 1)) a_nil))))) (ss_cons (s_if (q_or (q_not (q_val (r_cal C_is_integer hr (by first | decide | omega) hgu (by rfl) (takes_of rfl rfl rfl rfl) (a_cons (r_v 2 (pv 2)) a_nil)))) (q_or1 (q_cmp op_lt d_cmp (r_v 2 (pv 2)) r_int (nomark _)))).pt (ss_one (s_raiseE E_NoCount rfl (takes_of rfl rfl rfl rfl) hr (by first | decide | omega) (by rfl) (r_v 2 (pv 2)))) ss_nil) (ss_one (s_ret (r_op op_sub d_sub (r_cal C_count_staying hr (by first | decide | omega) hgu (by rfl) (takes_of rfl rfl rfl rfl) (a_cons (r_v 0 (pv 0)) (a_cons (r_v 1 (pv 1)) (a_cons (r_op op_sub d_sub (r_v 2 (pv 2)) r_int) a_nil)))) (r_cal C_count_staying hr (by first | decide | omega) hgu (by rfl) (takes_of rfl rfl rfl rfl) (a_cons (r_v 0 (pv 0)) (a_cons (r_v 1 (pv 1)) (a_cons (r_v 2 (pv 2)) a_nil)))))))))
/-! _law_spring -/
abbrev St_law_spring : Stmt := topS 23
abbrev N_law_spring : List Str := ["_law_script", "_law_great_here", "_law_mixed", "_law_cell"]
theorem sc_law_spring : FnScope N_law_spring ["_law_script"] (defScope St_law_spring) := ⟨rfl, rfl, rfl, by decide +kernel, rfl, by decide +kernel, by decide +kernel⟩
theorem ok_law_spring {P : Program} {w : World} {K : PySem.W.Frag} {mg : Str → Option Value} {base : Heap} {cad : Cad} {fa : Addr} {fd : FuncData} (Fu : Fun K "_law_spring" "_law_spring" St_law_spring fa fd) (b_int : mg "int" = none) (b_abs : mg "abs" = none) : FnG P w K mg base 1 fa fd ["_law_script"] (spSpring K) :=
  FnG.of Fu sc_law_spring (fun vs H Q E h => by
    obtain ⟨a, ns, rfl, _⟩ := h
    rfl) fun cdv A outer s H vs Q E hr hg h => by
    refine ⟨_, pss_cons (ps_asg (pe_tup (pa_cons pe_int (pa_cons pe_int pa_nil))) (pg_tup rfl (pgs_cons (pg_name (i := 1) sc_law_spring.nd rfl (by first | exact .inl rfl | exact .inr rfl)) (pgs_cons (pg_name (i := 2) sc_law_spring.nd rfl (by first | exact .inl rfl | exact .inr rfl)) pgs_nil))))
    (pss_cons (ps_for (passes_of rfl) rfl (pi_list (pe_slice sl_list (pv 0) po_none (po_some pe_int))) (pg_name (i := 3) sc_law_spring.nd rfl (by first | exact .inl rfl | exact .inr rfl))
      (pss_cons (ps_set (i := 2) sc_law_spring.nd rfl (by first | exact .inl rfl | exact .inr rfl) (pe_op op_add (pe_op op_add (pe_op op_add (pe_op op_mul (pv 2) pe_int) (pe_op op_mul pe_int (pe_callB call_abs (by rfl) b_abs (by decide +kernel) (pa_cons (pv 3) pa_nil)))) (pe_callTy call_int1 (by rfl) b_int (by decide +kernel) (pa_cons (pe_cmpR op_lt (pv 3) pe_int (nomark _)) pa_nil))) pe_int))
        (pss_cons (ps_set (i := 2) sc_law_spring.nd rfl (by first | exact .inl rfl | exact .inr rfl) (pe_op op_modN (pe_callTy call_int1 (by rfl) b_int (by decide +kernel) (pa_cons (pv 2) pa_nil)) pe_int))
          (pss_one (ps_if (pt_cmpR op_ge (pe_callB call_abs (by rfl) b_abs (by decide +kernel) (pa_cons (pv 3) pa_nil)) (pe_op op_pow pe_int pe_int) (nomark _))
            (pss_one (ps_set (i := 1) sc_law_spring.nd rfl (by first | exact .inl rfl | exact .inr rfl) (pe_op op_add (pe_op op_mul (pv 1) pe_int) (pe_callB call_abs (by rfl) b_abs (by decide +kernel) (pa_cons (pv 3) pa_nil))))) pss_nil)))))
      (pss_one (ps_ret (pe_lst (pa_cons (pv 1) (pa_cons (pv 2) (pa_cons pe_int pa_nil))))))), ?_⟩
    exact spring_reads rfl h
/-! _law_dip -/
abbrev St_law_dip : Stmt := topS 24
abbrev N_law_dip : List Str := ["_law_spring_here", "_law_many", "_law_digit"]
theorem sc_law_dip : FnScope N_law_dip ["_law_spring_here", "_law_many"] (defScope St_law_dip) := ⟨rfl, rfl, rfl, by decide +kernel, rfl, by decide +kernel, by decide +kernel⟩
abbrev m_law_dip := mDip
theorem ok_law_dip {P : Program} {w : World} {K : PySem.W.Frag} {mg : Str → Option Value} {base : Heap} {cad : Cad} {fa : Addr} {fd : FuncData} (Fu : Fun K "_law_dip" "_law_dip" St_law_dip fa fd) (b_int : mg "int" = none) : FnG P w K mg base 1 fa fd ["_law_spring_here", "_law_many"] (spD cad 2 mDip) :=
  FnG.of Fu sc_law_dip (fun vs H Q E h => h.1) fun cdv A outer s H vs Q E hr hg h => by
    refine ⟨_, pss_cons (ps_if (pt_cmpR op_gt (pe_ix ix_list (pv 0) pe_int (fun _ _ => rfl)) pe_int (nomark _))
      (pss_cons (ps_set (i := 2) sc_law_dip.nd rfl (by first | exact .inl rfl | exact .inr rfl) (pe_op op_modN (pe_callTy call_int1 (by rfl) b_int (by decide +kernel) (pa_cons (pe_ix ix_list (pv 0) pe_int (fun _ _ => rfl)) pa_nil)) (pv 1)))
        (pss_cons (ps_asg (pe_op op_fdivN (pe_ix ix_list (pv 0) pe_int (fun _ _ => rfl)) (pv 1)) (pg_sub (pv 0) pe_int set_list)) (pss_one (ps_ret (pv 2))))) pss_nil)
    (pss_cons (ps_asg (pe_op op_add (pe_ix ix_list (pv 0) pe_int (fun _ _ => rfl)) pe_int) (pg_sub (pv 0) pe_int set_list))
      (pss_cons (ps_asg (pe_op op_modN (pe_callTy call_int1 (by rfl) b_int (by decide +kernel) (pa_cons (pe_op op_add (pe_op op_add (pe_op op_mul (pe_ix ix_list (pv 0) pe_int (fun _ _ => rfl)) pe_int) (pe_op op_mul pe_int (pe_ix ix_list (pv 0) pe_int (fun _ _ => rfl)))) pe_int) pa_nil)) pe_int) (pg_sub (pv 0) pe_int set_list))
        (pss_one (ps_ret (pe_op op_modN (pe_callTy call_int1 (by rfl) b_int (by decide +kernel) (pa_cons (pe_op op_fdivN (pe_op op_modN (pe_callTy call_int1 (by rfl) b_int (by decide +kernel) (pa_cons (pe_op op_mul (pe_ix ix_list (pv 0) pe_int (fun _ _ => rfl)) (pe_ix ix_list (pv 0) pe_int (fun _ _ => rfl))) pa_nil)) pe_int) pe_int) pa_nil)) (pv 1)))))), ?_⟩
    exact dip_reads rfl h
/-! _law_pick -/
abbrev St_law_pick : Stmt := topS 25
abbrev N_law_pick : List Str := ["_law_spring_here", "_law_some"]
theorem sc_law_pick : FnScope N_law_pick ["_law_spring_here", "_law_some"] (defScope St_law_pick) := ⟨rfl, rfl, rfl, by decide +kernel, rfl, by decide +kernel, by decide +kernel⟩
def F_law_pick : Env' → T Fl := (sRet (eBin oIx (eV 1) (eCall 2 m_law_dip (aBox 0 (aCons (eCb oLen (aCons (eV 1) aNil)) aNil)))))
@[irreducible] def m_law_pick : List Ar → T D := mkDef 2 F_law_pick
theorem mq_law_pick : m_law_pick = mkDef 2 F_law_pick := by
  unfold m_law_pick
  rfl
theorem ok_law_pick {P : Program} {w : World} {K : PySem.W.Frag} {mg : Str → Option Value} {base : Heap} {cad : Cad} {fa : Addr} {fd : FuncData} (Fu : Fun K "_law_pick" "_law_pick" St_law_pick fa fd) (C_law_dip : Cal P w K mg base cad "_law_dip" 1 2 m_law_dip) (b_len : mg "len" = none) : FnG P w K mg base 2 fa fd ["_law_spring_here", "_law_some"] (spD cad 2 m_law_pick) :=
  by
  rw [mq_law_pick]
  exact FnG.ofD (F := F_law_pick) (N := N_law_pick) Fu sc_law_pick fun cdv A outer s H E hr hgu => (ss_one (s_ret (r_ix ix_seq d_ix (r_v 1 (pv 1)) (r_cal C_law_dip hr (by first | decide | omega) hgu (by rfl) (takes_of rfl rfl rfl rfl) (a_box (i := 0) (pv 0) (a_cons (r_b call_len_seq d_len (by rfl) b_len (by decide +kernel) (a_cons (r_v 1 (pv 1)) a_nil)) a_nil))) (fun _ _ => rfl))))
/-! _law_far -/
abbrev St_law_far : Stmt := topS 26
abbrev N_law_far : List Str := ["_law_spring_here", "_law_most"]
theorem sc_law_far : FnScope N_law_far ["_law_spring_here", "_law_most"] (defScope St_law_far) := ⟨rfl, rfl, rfl, by decide +kernel, rfl, by decide +kernel, by decide +kernel⟩
def F_law_far : Env' → T Fl := (sRet (eBin oAdd (eC (.int 1)) (eBin oMod (eCb (o1 oInt) (aCons (eBin oAdd (eBin oMul (eCall 2 m_law_dip (aBox 0 (aCons (eBin oPow (eC (.int 10)) (eC (.int 6))) aNil))) (eBin oPow (eC (.int 10)) (eC (.int 6)))) (eCall 2 m_law_dip (aBox 0 (aCons (eBin oPow (eC (.int 10)) (eC (.int 6))) aNil)))) aNil)) (eV 1))))
@[irreducible] def m_law_far : List Ar → T D := mkDef 2 F_law_far
theorem mq_law_far : m_law_far = mkDef 2 F_law_far := by
  unfold m_law_far
  rfl
theorem ok_law_far {P : Program} {w : World} {K : PySem.W.Frag} {mg : Str → Option Value} {base : Heap} {cad : Cad} {fa : Addr} {fd : FuncData} (Fu : Fun K "_law_far" "_law_far" St_law_far fa fd) (C_law_dip : Cal P w K mg base cad "_law_dip" 1 2 m_law_dip) (b_int : mg "int" = none) : FnG P w K mg base 2 fa fd ["_law_spring_here", "_law_most"] (spD cad 2 m_law_far) :=
  by
  rw [mq_law_far]
  exact FnG.ofD (F := F_law_far) (N := N_law_far) Fu sc_law_far fun cdv A outer s H E hr hgu => (ss_one (s_ret (r_op op_addD d_add r_int (r_op op_modN d_mod (r_bt call_int1 d_int (by rfl) b_int (by decide +kernel) (a_cons (r_op op_addD d_add (r_op op_mulD d_mul (r_cal C_law_dip hr (by first | decide | omega) hgu (by rfl) (takes_of rfl rfl rfl rfl) (a_box (i := 0) (pv 0) (a_cons (r_op op_pow d_pow r_int r_int) a_nil))) (r_op op_pow d_pow r_int r_int)) (r_cal C_law_dip hr (by first | decide | omega) hgu (by rfl) (takes_of rfl rfl rfl rfl) (a_box (i := 0) (pv 0) (a_cons (r_op op_pow d_pow r_int r_int) a_nil)))) a_nil)) (r_v 1 (pv 1))))))
/-! _law_gcd -/
abbrev St_law_gcd : Stmt := topS 27
abbrev N_law_gcd : List Str := ["_law_one", "_law_other"]
theorem sc_law_gcd : FnScope N_law_gcd ["_law_one", "_law_other"] (defScope St_law_gcd) := ⟨rfl, rfl, rfl, by decide +kernel, rfl, by decide +kernel, by decide +kernel⟩
def F_law_gcd : Env' → T Fl := (sSeq (sPar 0 1 (aCons (eCb (o1 oAbs) (aCons (eV 0) aNil)) (aCons (eCb (o1 oAbs) (aCons (eV 1) aNil)) aNil))) (sSeq (sWhile 300 (eBin oGt (eV 1) (eC (.int 0))) (sPar 0 1 (aCons (eV 1) (aCons (eBin oMod (eCb (o1 oInt) (aCons (eV 0) aNil)) (eV 1)) aNil)))) (sRet (eV 0))))
@[irreducible] def m_law_gcd : List Ar → T D := mkDef 2 F_law_gcd
theorem mq_law_gcd : m_law_gcd = mkDef 2 F_law_gcd := by
  unfold m_law_gcd
  rfl
theorem ok_law_gcd {P : Program} {w : World} {K : PySem.W.Frag} {mg : Str → Option Value} {base : Heap} {cad : Cad} {fa : Addr} {fd : FuncData} (Fu : Fun K "_law_gcd" "_law_gcd" St_law_gcd fa fd) (b_abs : mg "abs" = none) (b_int : mg "int" = none) : FnG P w K mg base 2 fa fd ["_law_one", "_law_other"] (spD cad 2 m_law_gcd) :=
  by
  rw [mq_law_gcd]
  exact FnG.ofD (F := F_law_gcd) (N := N_law_gcd) Fu sc_law_gcd fun cdv A outer s H E hr hgu => (ss_cons (s_par (ps_par (i := 0) (j := 1) rfl sc_law_gcd.nd rfl rfl (by decide) rfl rfl (a_cons (r_b call_abs d_abs (by rfl) b_abs (by decide +kernel) (a_cons (r_v 0 (pv 0)) a_nil)) (a_cons (r_b call_abs d_abs (by rfl) b_abs (by decide +kernel) (a_cons (r_v 1 (pv 1)) a_nil)) a_nil)) (by rfl))) (ss_cons (s_while (n := 300) (ps_while (passes_of rfl) (q_cmp op_gt d_cmp (r_v 1 (pv 1)) r_int (nomark _)) (ss_one (s_par (ps_par (i := 0) (j := 1) rfl sc_law_gcd.nd rfl rfl (by decide) rfl rfl (a_cons (r_v 1 (pv 1)) (a_cons (r_op op_modN d_mod (r_bt call_int1 d_int (by rfl) b_int (by decide +kernel) (a_cons (r_v 0 (pv 0)) a_nil)) (r_v 1 (pv 1))) a_nil)) (by rfl)))))) (ss_one (s_ret (r_v 0 (pv 0))))))
/-! _law_share -/
abbrev St_law_share : Stmt := topS 28
abbrev N_law_share : List Str := ["_law_items", "_law_found", "_law_item"]
theorem sc_law_share : FnScope N_law_share ["_law_items"] (defScope St_law_share) := ⟨rfl, rfl, rfl, by decide +kernel, rfl, by decide +kernel, by decide +kernel⟩
def F_law_share : Env' → T Fl := (sSeq (sSet 1 (eC (.int 0))) (sSeq (sFor (iSeq (eV 0)) (bName 2) (sSet 1 (eCall 2 m_law_gcd (aCons (eV 1) (aCons (eV 2) aNil))))) (sRet (eV 1))))
@[irreducible] def m_law_share : List Ar → T D := mkDef 3 F_law_share
theorem mq_law_share : m_law_share = mkDef 3 F_law_share := by
  unfold m_law_share
  rfl
theorem ok_law_share {P : Program} {w : World} {K : PySem.W.Frag} {mg : Str → Option Value} {base : Heap} {cad : Cad} {fa : Addr} {fd : FuncData} (Fu : Fun K "_law_share" "_law_share" St_law_share fa fd) (C_law_gcd : Cal P w K mg base cad "_law_gcd" 2 2 m_law_gcd) : FnG P w K mg base 3 fa fd ["_law_items"] (spD cad 1 m_law_share) :=
  by
  rw [mq_law_share]
  exact FnG.ofD (F := F_law_share) (N := N_law_share) Fu sc_law_share fun cdv A outer s H E hr hgu => (ss_cons (s_set (ps_set (i := 1) sc_law_share.nd rfl (by first | exact .inl rfl | exact .inr rfl) r_int)) (ss_cons (s_for (b_name (K := K)) (ps_for (passes_of rfl) rfl (i_seq (r_v 0 (pv 0))) (pg_name (i := 2) sc_law_share.nd rfl (by first | exact .inl rfl | exact .inr rfl)) (ss_one (s_set (ps_set (i := 1) sc_law_share.nd rfl (by first | exact .inl rfl | exact .inr rfl) (r_cal C_law_gcd hr (by first | decide | omega) hgu (by rfl) (takes_of rfl rfl rfl rfl) (a_cons (r_v 1 (pv 1)) (a_cons (r_v 2 (pv 2)) a_nil)))))))) (ss_one (s_ret (r_v 1 (pv 1))))))
/-! _law_direction -/
abbrev St_law_direction : Stmt := topS 29
abbrev N_law_direction : List Str := ["_law_spring_here", "_law_dims", "_law_items", "_law_axis", "_law_item"]
theorem sc_law_direction : FnScope N_law_direction ["_law_spring_here", "_law_dims"] (defScope St_law_direction) := ⟨rfl, rfl, rfl, by decide +kernel, rfl, by decide +kernel, by decide +kernel⟩
def F_law_direction : Env' → T Fl := (sSeq (sSet 2 (eLc [3] (iArg oRng1 (aCons (eV 1) aNil)) (bName 3) tTrue (eCall 2 m_law_pick (aBox 0 (aCons (eLst (aCons (eC (.int 0)) (aCons (eC (.int 1)) (aCons (eUn oNeg (eC (.int 1))) (aCons (eC (.int 2)) (aCons (eUn oNeg (eC (.int 2))) (aCons (eC (.int 3)) (aCons (eUn oNeg (eC (.int 3))) (aCons (eC (.int 4)) (aCons (eUn oNeg (eC (.int 4))) aNil)))))))))) aNil))))) (sSeq (sIf (eBin oEq (eCall 1 m_law_share (aCons (eV 2) aNil)) (eC (.int 0))) (sSet 2 (eLc [3] (iArg oRng1 (aCons (eV 1) aNil)) (bName 3) tTrue (eCb (o1 oInt) (aCons (eBin oEq (eV 3) (eC (.int 0))) aNil)))) sNil) (sRet (eCb (o1 oTupleOf) (aCons (eLc [4] (iSeq (eV 2)) (bName 4) tTrue (eBin oFdiv (eV 4) (eCall 1 m_law_share (aCons (eV 2) aNil)))) aNil)))))
@[irreducible] def m_law_direction : List Ar → T D := mkDef 5 F_law_direction
theorem mq_law_direction : m_law_direction = mkDef 5 F_law_direction := by
  unfold m_law_direction
  rfl
theorem ok_law_direction {P : Program} {w : World} {K : PySem.W.Frag} {mg : Str → Option Value} {base : Heap} {cad : Cad} {fa : Addr} {fd : FuncData} (Fu : Fun K "_law_direction" "_law_direction" St_law_direction fa fd) (C_law_pick : Cal P w K mg base cad "_law_pick" 2 2 m_law_pick) (C_law_share : Cal P w K mg base cad "_law_share" 3 1 m_law_share) (b_range : mg "range" = none) (b_int : mg "int" = none) (b_tuple : mg "tuple" = none) : FnG P w K mg base 4 fa fd ["_law_spring_here", "_law_dims"] (spD cad 2 m_law_direction) :=
  by
  rw [mq_law_direction]
  exact FnG.ofD (F := F_law_direction) (N := N_law_direction) Fu sc_law_direction fun cdv A outer s H E hr hgu => (ss_cons (s_set (ps_set (i := 2) sc_law_direction.nd rfl (by first | exact .inl rfl | exact .inr rfl) (r_lc (own := [("_law_axis", 3)]) rfl sc_law_direction.nd (i_rng1 (by rfl) b_range (a_cons (r_v 1 (pv 1)) a_nil)) (blkOk_by (N := N_law_direction) (sc := defScope St_law_direction) (by decide +kernel)) (fun _ _ _ _ _ => (g_name (pg_name (i := 3) sc_law_direction.nd rfl (by first | exact .inl rfl | exact .inr rfl)))) (fun _ _ _ _ _ => pts_yes) (fun _ _ _ _ _ => (r_cal C_law_pick hr (by first | decide | omega) hgu (by rfl) takes0 (a_box (i := 0) (pv 0) (a_cons (r_lst (a_cons r_int (a_cons r_int (a_cons (r_un un_neg d_neg r_int) (a_cons r_int (a_cons (r_un un_neg d_neg r_int) (a_cons r_int (a_cons (r_un un_neg d_neg r_int) (a_cons r_int (a_cons (r_un un_neg d_neg r_int) a_nil)))))))))) a_nil)))) (by decide)))) (ss_cons (s_if (q_cmp (op_eqW hr.units) d_eq (r_cal C_law_share hr (by first | decide | omega) hgu (by rfl) (takes_of rfl rfl rfl rfl) (a_cons (r_v 2 (pv 2)) a_nil)) r_int (nomark _)) (ss_one (s_set (ps_set (i := 2) sc_law_direction.nd rfl (by first | exact .inl rfl | exact .inr rfl) (r_lc (own := [("_law_axis", 3)]) rfl sc_law_direction.nd (i_rng1 (by rfl) b_range (a_cons (r_v 1 (pv 1)) a_nil)) (blkOk_by (N := N_law_direction) (sc := defScope St_law_direction) (by decide +kernel)) (fun _ _ _ _ _ => (g_name (pg_name (i := 3) sc_law_direction.nd rfl (by first | exact .inl rfl | exact .inr rfl)))) (fun _ _ _ _ _ => pts_yes) (fun _ _ _ _ _ => (r_bt call_int1 d_int (by rfl) b_int (by decide +kernel) (a_cons (r_cmp (op_eqW hr.units) d_eq (r_v 3 (pv 3)) r_int (nomark _)) a_nil))) (by decide))))) ss_nil) (ss_one (s_ret (r_bt call_tuple_of d_tuple (by rfl) b_tuple (by decide +kernel) (a_cons (r_lc (own := [("_law_item", 4)]) rfl sc_law_direction.nd (i_seq (r_v 2 (pv 2))) (blkOk_by (N := N_law_direction) (sc := defScope St_law_direction) (by decide +kernel)) (fun _ _ _ _ _ => (g_name (pg_name (i := 4) sc_law_direction.nd rfl (by first | exact .inl rfl | exact .inr rfl)))) (fun _ _ _ _ _ => pts_yes) (fun _ _ _ _ _ => (r_op op_fdivD d_fdiv (r_v 4 (pv 4)) (r_cal C_law_share hr (by first | decide | omega) hgu (by rfl) takes0 (a_cons (r_v 2 (pv 2)) a_nil)))) (by decide)) a_nil))))))
/-! _law_box -/
abbrev St_law_box : Stmt := topS 30
abbrev N_law_box : List Str := ["_law_spring_here", "_law_dims", "_law_most", "_law_axis"]
theorem sc_law_box : FnScope N_law_box ["_law_spring_here", "_law_dims"] (defScope St_law_box) := ⟨rfl, rfl, rfl, by decide +kernel, rfl, by decide +kernel, by decide +kernel⟩
def F_law_box : Env' → T Fl := (sSeq (sSet 2 (eBin oIx (eLst (aCons (eC (.int 8)) (aCons (eC (.int 5)) aNil))) (eBin oSub (eV 1) (eC (.int 2))))) (sRet (eCb (o1 oTupleOf) (aCons (eLc [3] (iArg oRng1 (aCons (eV 1) aNil)) (bName 3) tTrue (eBin oAdd (eC (.int 1)) (eCall 2 m_law_dip (aBox 0 (aCons (eV 2) aNil))))) aNil))))
@[irreducible] def m_law_box : List Ar → T D := mkDef 4 F_law_box
theorem mq_law_box : m_law_box = mkDef 4 F_law_box := by
  unfold m_law_box
  rfl
theorem ok_law_box {P : Program} {w : World} {K : PySem.W.Frag} {mg : Str → Option Value} {base : Heap} {cad : Cad} {fa : Addr} {fd : FuncData} (Fu : Fun K "_law_box" "_law_box" St_law_box fa fd) (C_law_dip : Cal P w K mg base cad "_law_dip" 1 2 m_law_dip) (b_tuple : mg "tuple" = none) (b_range : mg "range" = none) : FnG P w K mg base 2 fa fd ["_law_spring_here", "_law_dims"] (spD cad 2 m_law_box) :=
  by
  rw [mq_law_box]
  exact FnG.ofD (F := F_law_box) (N := N_law_box) Fu sc_law_box fun cdv A outer s H E hr hgu => (ss_cons (s_set (ps_set (i := 2) sc_law_box.nd rfl (by first | exact .inl rfl | exact .inr rfl) (r_ix ix_seq d_ix (r_lst (a_cons r_int (a_cons r_int a_nil))) (r_op op_sub d_sub (r_v 1 (pv 1)) r_int) (fun _ _ => rfl)))) (ss_one (s_ret (r_bt call_tuple_of d_tuple (by rfl) b_tuple (by decide +kernel) (a_cons (r_lc (own := [("_law_axis", 3)]) rfl sc_law_box.nd (i_rng1 (by rfl) b_range (a_cons (r_v 1 (pv 1)) a_nil)) (blkOk_by (N := N_law_box) (sc := defScope St_law_box) (by decide +kernel)) (fun _ _ _ _ _ => (g_name (pg_name (i := 3) sc_law_box.nd rfl (by first | exact .inl rfl | exact .inr rfl)))) (fun _ _ _ _ _ => pts_yes) (fun _ _ _ _ _ => (r_op op_addD d_add r_int (r_cal C_law_dip hr (by first | decide | omega) hgu (by rfl) takes0 (a_box (i := 0) (pv 0) (a_cons (r_v 2 (pv 2)) a_nil))))) (by decide)) a_nil)))))
/-! _law_great -/
abbrev St_law_great : Stmt := topS 31
abbrev N_law_great : List Str := ["_law_spring_here", "_law_dims", "_law_some", "_law_axis"]
theorem sc_law_great : FnScope N_law_great ["_law_spring_here", "_law_dims"] (defScope St_law_great) := ⟨rfl, rfl, rfl, by decide +kernel, rfl, by decide +kernel, by decide +kernel⟩
def F_law_great : Env' → T Fl := (sSeq (sSet 2 (eLst (aCons (eBin oPow (eC (.int 10)) (eC (.int 9))) (aCons (eBin oSub (eBin oPow (eC (.int 10)) (eC (.int 9))) (eC (.int 1))) (aCons (eBin oAdd (eC (.int 1)) (eCall 2 m_law_dip (aBox 0 (aCons (eC (.int 6)) aNil)))) (aCons (eCall 2 m_law_far (aBox 0 (aCons (eBin oPow (eC (.int 10)) (eC (.int 9))) aNil))) (aCons (eCall 2 m_law_far (aBox 0 (aCons (eBin oPow (eC (.int 10)) (eC (.int 9))) aNil))) aNil))))))) (sRet (eCb (o1 oTupleOf) (aCons (eLc [3] (iArg oRng1 (aCons (eV 1) aNil)) (bName 3) tTrue (eCall 2 m_law_pick (aBox 0 (aCons (eV 2) aNil)))) aNil))))
@[irreducible] def m_law_great : List Ar → T D := mkDef 4 F_law_great
theorem mq_law_great : m_law_great = mkDef 4 F_law_great := by
  unfold m_law_great
  rfl
theorem ok_law_great {P : Program} {w : World} {K : PySem.W.Frag} {mg : Str → Option Value} {base : Heap} {cad : Cad} {fa : Addr} {fd : FuncData} (Fu : Fun K "_law_great" "_law_great" St_law_great fa fd) (C_law_far : Cal P w K mg base cad "_law_far" 2 2 m_law_far) (C_law_dip : Cal P w K mg base cad "_law_dip" 1 2 m_law_dip) (C_law_pick : Cal P w K mg base cad "_law_pick" 2 2 m_law_pick) (b_tuple : mg "tuple" = none) (b_range : mg "range" = none) : FnG P w K mg base 3 fa fd ["_law_spring_here", "_law_dims"] (spD cad 2 m_law_great) :=
  by
  rw [mq_law_great]
  exact FnG.ofD (F := F_law_great) (N := N_law_great) Fu sc_law_great fun cdv A outer s H E hr hgu => (ss_cons (s_set (ps_set (i := 2) sc_law_great.nd rfl (by first | exact .inl rfl | exact .inr rfl) (r_lst (a_cons (r_op op_pow d_pow r_int r_int) (a_cons (r_op op_sub d_sub (r_op op_pow d_pow r_int r_int) r_int) (a_cons (r_op op_addD d_add r_int (r_cal C_law_dip hr (by first | decide | omega) hgu (by rfl) (takes_of rfl rfl rfl rfl) (a_box (i := 0) (pv 0) (a_cons r_int a_nil)))) (a_cons (r_cal C_law_far hr (by first | decide | omega) hgu (by rfl) (takes_of rfl rfl rfl rfl) (a_box (i := 0) (pv 0) (a_cons (r_op op_pow d_pow r_int r_int) a_nil))) (a_cons (r_cal C_law_far hr (by first | decide | omega) hgu (by rfl) (takes_of rfl rfl rfl rfl) (a_box (i := 0) (pv 0) (a_cons (r_op op_pow d_pow r_int r_int) a_nil))) a_nil)))))))) (ss_one (s_ret (r_bt call_tuple_of d_tuple (by rfl) b_tuple (by decide +kernel) (a_cons (r_lc (own := [("_law_axis", 3)]) rfl sc_law_great.nd (i_rng1 (by rfl) b_range (a_cons (r_v 1 (pv 1)) a_nil)) (blkOk_by (N := N_law_great) (sc := defScope St_law_great) (by decide +kernel)) (fun _ _ _ _ _ => (g_name (pg_name (i := 3) sc_law_great.nd rfl (by first | exact .inl rfl | exact .inr rfl)))) (fun _ _ _ _ _ => pts_yes) (fun _ _ _ _ _ => (r_cal C_law_pick hr (by first | decide | omega) hgu (by rfl) takes0 (a_box (i := 0) (pv 0) (a_cons (r_v 2 (pv 2)) a_nil)))) (by decide)) a_nil)))))
/-! _law_on -/
abbrev St_law_on : Stmt := topS 32
abbrev N_law_on : List Str := ["_law_point", "_law_vector_here", "_law_many", "_law_item", "_law_step"]
theorem sc_law_on : FnScope N_law_on ["_law_point", "_law_vector_here", "_law_many"] (defScope St_law_on) := ⟨rfl, rfl, rfl, by decide +kernel, rfl, by decide +kernel, by decide +kernel⟩
def F_law_on : Env' → T Fl := (sRet (eCb (o1 oTupleOf) (aCons (eLc [3, 4] (iArg oZipM (aCons (eV 0) (aCons (eV 1) aNil))) (bTup [3, 4]) tTrue (eBin oAdd (eV 3) (eBin oMul (eV 2) (eV 4)))) aNil)))
@[irreducible] def m_law_on : List Ar → T D := mkDef 5 F_law_on
theorem mq_law_on : m_law_on = mkDef 5 F_law_on := by
  unfold m_law_on
  rfl
theorem ok_law_on {P : Program} {w : World} {K : PySem.W.Frag} {mg : Str → Option Value} {base : Heap} {cad : Cad} {fa : Addr} {fd : FuncData} (Fu : Fun K "_law_on" "_law_on" St_law_on fa fd) (b_tuple : mg "tuple" = none) (b_zip : mg "zip" = none) : FnG P w K mg base 2 fa fd ["_law_point", "_law_vector_here", "_law_many"] (spD cad 3 m_law_on) :=
  by
  rw [mq_law_on]
  exact FnG.ofD (F := F_law_on) (N := N_law_on) Fu sc_law_on fun cdv A outer s H E hr hgu => (ss_one (s_ret (r_bt call_tuple_of d_tuple (by rfl) b_tuple (by decide +kernel) (a_cons (r_lc (own := [("_law_item", 3), ("_law_step", 4)]) rfl sc_law_on.nd (i_zipM (by rfl) b_zip (a_cons (r_v 0 (pv 0)) (a_cons (r_v 1 (pv 1)) a_nil))) (blkOk_by (N := N_law_on) (sc := defScope St_law_on) (by decide +kernel)) (fun _ _ _ _ _ => (g_tup rfl (pg_tup rfl (pgs_cons (pg_name (i := 3) sc_law_on.nd rfl (by first | exact .inl rfl | exact .inr rfl)) (pgs_cons (pg_name (i := 4) sc_law_on.nd rfl (by first | exact .inl rfl | exact .inr rfl)) pgs_nil))))) (fun _ _ _ _ _ => pts_yes) (fun _ _ _ _ _ => (r_op op_addD d_add (r_v 3 (pv 3)) (r_op op_mulD d_mul (r_v 2 (pv 2)) (r_v 4 (pv 4))))) (by decide)) a_nil))))
/-! _law_inside -/
abbrev St_law_inside : Stmt := topS 33
abbrev N_law_inside : List Str := ["_law_box_here", "_law_point", "_law_item", "_law_size"]
theorem sc_law_inside : FnScope N_law_inside ["_law_box_here", "_law_point"] (defScope St_law_inside) := ⟨rfl, rfl, rfl, by decide +kernel, rfl, by decide +kernel, by decide +kernel⟩
def F_law_inside : Env' → T Fl := (sRet (eBin oEqN (eLc [2, 3] (iArg oZipM (aCons (eV 1) (aCons (eV 0) aNil))) (bTup [2, 3]) (eUn oNot (eCh oLe oLt (eC (.int 0)) (eV 2) (eV 3))) (eC (.int 1))) (eLst aNil)))
@[irreducible] def m_law_inside : List Ar → T D := mkDef 4 F_law_inside
theorem mq_law_inside : m_law_inside = mkDef 4 F_law_inside := by
  unfold m_law_inside
  rfl
theorem ok_law_inside {P : Program} {w : World} {K : PySem.W.Frag} {mg : Str → Option Value} {base : Heap} {cad : Cad} {fa : Addr} {fd : FuncData} (Fu : Fun K "_law_inside" "_law_inside" St_law_inside fa fd) (b_zip : mg "zip" = none) : FnG P w K mg base 2 fa fd ["_law_box_here", "_law_point"] (spD cad 2 m_law_inside) :=
  by
  rw [mq_law_inside]
  exact FnG.ofD (F := F_law_inside) (N := N_law_inside) Fu sc_law_inside fun cdv A outer s H E hr hgu => (ss_one (s_ret (r_cmp (op_eqN hr.units) d_eqN (r_lc (own := [("_law_item", 2), ("_law_size", 3)]) rfl sc_law_inside.nd (i_zipM (by rfl) b_zip (a_cons (r_v 1 (pv 1)) (a_cons (r_v 0 (pv 0)) a_nil))) (blkOk_by (N := N_law_inside) (sc := defScope St_law_inside) (by decide +kernel)) (fun _ _ _ _ _ => (g_tup rfl (pg_tup rfl (pgs_cons (pg_name (i := 2) sc_law_inside.nd rfl (by first | exact .inl rfl | exact .inr rfl)) (pgs_cons (pg_name (i := 3) sc_law_inside.nd rfl (by first | exact .inl rfl | exact .inr rfl)) pgs_nil))))) (fun _ _ _ _ _ => (pts_if (q_not (q_chain op_le op_lt u_cmp d_cmp r_int (r_v 2 (pv 2)) (r_v 3 (pv 3)))))) (fun _ _ _ _ _ => r_int) (by decide)) (r_lst a_nil) (nomark _))))
/-! _law_points -/
abbrev St_law_points : Stmt := topS 34
abbrev N_law_points : List Str := ["_law_box_here", "_law_found", "_law_size", "_law_longer", "_law_ahead", "_law_item"]
theorem sc_law_points : FnScope N_law_points ["_law_box_here"] (defScope St_law_points) := ⟨rfl, rfl, rfl, by decide +kernel, rfl, by decide +kernel, by decide +kernel⟩
def B0_law_points : Env' → T Fl := (sExt 3 (eLc [5] (iArg oRng1 (aCons (eV 2) aNil)) (bName 5) tTrue (eBin oAdd (eV 4) (eTup (aCons (eV 5) aNil)))))
def B1_law_points : Env' → T Fl := (sSeq (sOwn 3 (lLst aNil)) (sSeq (sFor (iSeq (eV 1)) (bName 4) B0_law_points) (sFrz 3 (sSet 1 (eV 3)))))
def F_law_points : Env' → T Fl := (sSeq (sSet 1 (eLst (aCons (eTup aNil) aNil))) (sSeq (sFor (iSeq (eV 0)) (bName 2) B1_law_points) (sRet (eV 1))))
@[irreducible] def m_law_points : List Ar → T D := mkDef 6 F_law_points
theorem mq_law_points : m_law_points = mkDef 6 F_law_points := by
  unfold m_law_points
  rfl
theorem ok_law_points {P : Program} {w : World} {K : PySem.W.Frag} {mg : Str → Option Value} {base : Heap} {cad : Cad} {fa : Addr} {fd : FuncData} (Fu : Fun K "_law_points" "_law_points" St_law_points fa fd) (b_range : mg "range" = none) : FnG P w K mg base 2 fa fd ["_law_box_here"] (spD cad 1 m_law_points) :=
  by
  rw [mq_law_points]
  exact FnG.ofD (F := F_law_points) (N := N_law_points) Fu sc_law_points fun cdv A outer s H E hr hgu => (ss_cons (s_set (ps_set (i := 1) sc_law_points.nd rfl (by first | exact .inl rfl | exact .inr rfl) (r_lst (a_cons (r_tup a_nil) a_nil)))) (ss_cons (s_for (b_name (K := K)) (ps_for (passes_of rfl) rfl (i_seq (r_v 0 (pv 0))) (pg_name (i := 2) sc_law_points.nd rfl (by first | exact .inl rfl | exact .inr rfl)) (ss_cons (s_own (ps_set (i := 3) sc_law_points.nd rfl (by first | exact .inl rfl | exact .inr rfl) (pe_lst a_nil))) (ss_cons (s_for (b_name (K := K)) (ps_for (passes_of rfl) rfl (i_seq (r_v 1 (pv 1))) (pg_name (i := 4) sc_law_points.nd rfl (by first | exact .inl rfl | exact .inr rfl)) (ss_one (s_ext (ps_expr (pe_bm PySem.F.plainAttrs_list PySem.F.slot_list_extend PySem.F.type_list_extend mt_extend (pv 3) (pa_cons (r_lc (own := [("_law_item", 5)]) rfl sc_law_points.nd (i_rng1 (by rfl) b_range (a_cons (r_v 2 (pv 2)) a_nil)) (blkOk_by (N := N_law_points) (sc := defScope St_law_points) (by decide +kernel)) (fun _ _ _ _ _ => (g_name (pg_name (i := 5) sc_law_points.nd rfl (by first | exact .inl rfl | exact .inr rfl)))) (fun _ _ _ _ _ => pts_yes) (fun _ _ _ _ _ => (r_op op_addD d_add (r_v 4 (pv 4)) (r_tup (a_cons (r_v 5 (pv 5)) a_nil)))) (by decide)) pa_nil))))))) (ss_frz (i := 3) (ss_one (s_set (ps_set (i := 1) sc_law_points.nd rfl (by first | exact .inl rfl | exact .inr rfl) (r_v 3 (pv 3)))))))))) (ss_one (s_ret (r_v 1 (pv 1))))))
/-! _law_walk -/
abbrev St_law_walk : Stmt := topS 35
abbrev N_law_walk : List Str := ["_law_box_here", "_law_direction_here", "_law_point", "_law_first", "_law_found"]
theorem sc_law_walk : FnScope N_law_walk ["_law_box_here", "_law_direction_here", "_law_point"] (defScope St_law_walk) := ⟨rfl, rfl, rfl, by decide +kernel, rfl, by decide +kernel, by decide +kernel⟩
def F_law_walk : Env' → T Fl := (sSeq (sParOwn 3 4 (eV 2) (lLst aNil)) (sSeq (sWhile 20 (eCall 2 m_law_inside (aCons (eV 0) (aCons (eCall 3 m_law_on (aCons (eV 3) (aCons (eV 1) (aCons (eUn oNeg (eC (.int 1))) aNil)))) aNil))) (sSet 3 (eCall 3 m_law_on (aCons (eV 3) (aCons (eV 1) (aCons (eUn oNeg (eC (.int 1))) aNil)))))) (sSeq (sWhile 20 (eCall 2 m_law_inside (aCons (eV 0) (aCons (eV 3) aNil))) (sSeq (sApp 4 (eV 3)) (sSet 3 (eCall 3 m_law_on (aCons (eV 3) (aCons (eV 1) (aCons (eC (.int 1)) aNil))))))) (sFrz 4 (sRet (eV 4))))))
@[irreducible] def m_law_walk : List Ar → T D := mkDef 5 F_law_walk
theorem mq_law_walk : m_law_walk = mkDef 5 F_law_walk := by
  unfold m_law_walk
  rfl
theorem ok_law_walk {P : Program} {w : World} {K : PySem.W.Frag} {mg : Str → Option Value} {base : Heap} {cad : Cad} {fa : Addr} {fd : FuncData} (Fu : Fun K "_law_walk" "_law_walk" St_law_walk fa fd) (C_law_inside : Cal P w K mg base cad "_law_inside" 2 2 m_law_inside) (C_law_on : Cal P w K mg base cad "_law_on" 2 3 m_law_on) : FnG P w K mg base 3 fa fd ["_law_box_here", "_law_direction_here", "_law_point"] (spD cad 3 m_law_walk) :=
  by
  rw [mq_law_walk]
  exact FnG.ofD (F := F_law_walk) (N := N_law_walk) Fu sc_law_walk fun cdv A outer s H E hr hgu => (ss_cons (s_parOwn (ps_par (i := 3) (j := 4) rfl sc_law_walk.nd rfl rfl (by decide) rfl rfl (pa_cons (r_v 2 (pv 2)) (pa_cons (pe_lst a_nil) pa_nil)) (by rfl))) (ss_cons (s_while (n := 20) (ps_while (passes_of rfl) (q_val (r_cal C_law_inside hr (by first | decide | omega) hgu (by rfl) (takes_of rfl rfl rfl rfl) (a_cons (r_v 0 (pv 0)) (a_cons (r_cal C_law_on hr (by first | decide | omega) hgu (by rfl) (takes_of rfl rfl rfl rfl) (a_cons (r_v 3 (pv 3)) (a_cons (r_v 1 (pv 1)) (a_cons (r_un un_neg d_neg r_int) a_nil)))) a_nil)))) (ss_one (s_set (ps_set (i := 3) sc_law_walk.nd rfl (by first | exact .inl rfl | exact .inr rfl) (r_cal C_law_on hr (by first | decide | omega) hgu (by rfl) (takes_of rfl rfl rfl rfl) (a_cons (r_v 3 (pv 3)) (a_cons (r_v 1 (pv 1)) (a_cons (r_un un_neg d_neg r_int) a_nil))))))))) (ss_cons (s_while (n := 20) (ps_while (passes_of rfl) (q_val (r_cal C_law_inside hr (by first | decide | omega) hgu (by rfl) (takes_of rfl rfl rfl rfl) (a_cons (r_v 0 (pv 0)) (a_cons (r_v 3 (pv 3)) a_nil)))) (ss_cons (s_app (ps_expr (pe_bm PySem.F.plainAttrs_list PySem.F.slot_list_append PySem.F.type_list_append mt_append (pv 4) (pa_cons (r_v 3 (pv 3)) pa_nil)))) (ss_one (s_set (ps_set (i := 3) sc_law_walk.nd rfl (by first | exact .inl rfl | exact .inr rfl) (r_cal C_law_on hr (by first | decide | omega) hgu (by rfl) (takes_of rfl rfl rfl rfl) (a_cons (r_v 3 (pv 3)) (a_cons (r_v 1 (pv 1)) (a_cons r_int a_nil)))))))))) (ss_frz (i := 4) (ss_one (s_ret (r_v 4 (pv 4))))))))
/-! _law_firsts -/
abbrev St_law_firsts : Stmt := topS 36
abbrev N_law_firsts : List Str := ["_law_box_here", "_law_direction_here", "_law_point"]
theorem sc_law_firsts : FnScope N_law_firsts ["_law_box_here", "_law_direction_here"] (defScope St_law_firsts) := ⟨rfl, rfl, rfl, by decide +kernel, rfl, by decide +kernel, by decide +kernel⟩
def F_law_firsts : Env' → T Fl := (sRet (eLc [2] (iSeq (eCall 1 m_law_points (aCons (eV 0) aNil))) (bName 2) (eUn oNot (eCall 2 m_law_inside (aCons (eV 0) (aCons (eCall 3 m_law_on (aCons (eV 2) (aCons (eV 1) (aCons (eUn oNeg (eC (.int 1))) aNil)))) aNil)))) (eV 2)))
@[irreducible] def m_law_firsts : List Ar → T D := mkDef 3 F_law_firsts
theorem mq_law_firsts : m_law_firsts = mkDef 3 F_law_firsts := by
  unfold m_law_firsts
  rfl
theorem ok_law_firsts {P : Program} {w : World} {K : PySem.W.Frag} {mg : Str → Option Value} {base : Heap} {cad : Cad} {fa : Addr} {fd : FuncData} (Fu : Fun K "_law_firsts" "_law_firsts" St_law_firsts fa fd) (C_law_points : Cal P w K mg base cad "_law_points" 2 1 m_law_points) (C_law_inside : Cal P w K mg base cad "_law_inside" 2 2 m_law_inside) (C_law_on : Cal P w K mg base cad "_law_on" 2 3 m_law_on) : FnG P w K mg base 3 fa fd ["_law_box_here", "_law_direction_here"] (spD cad 2 m_law_firsts) :=
  by
  rw [mq_law_firsts]
  exact FnG.ofD (F := F_law_firsts) (N := N_law_firsts) Fu sc_law_firsts fun cdv A outer s H E hr hgu => (ss_one (s_ret (r_lc (own := [("_law_point", 2)]) rfl sc_law_firsts.nd (i_seq (r_cal C_law_points hr (by first | decide | omega) hgu (by rfl) (takes_of rfl rfl rfl rfl) (a_cons (r_v 0 (pv 0)) a_nil))) (blkOk_by (N := N_law_firsts) (sc := defScope St_law_firsts) (by decide +kernel)) (fun _ _ _ _ _ => (g_name (pg_name (i := 2) sc_law_firsts.nd rfl (by first | exact .inl rfl | exact .inr rfl)))) (fun _ _ _ _ _ => (pts_if (q_not (q_val (r_cal C_law_inside hr (by first | decide | omega) hgu (by rfl) takes0 (a_cons (r_v 0 (pv 0)) (a_cons (r_cal C_law_on hr (by first | decide | omega) hgu (by rfl) takes0 (a_cons (r_v 2 (pv 2)) (a_cons (r_v 1 (pv 1)) (a_cons (r_un un_neg d_neg r_int) a_nil)))) a_nil))))))) (fun _ _ _ _ _ => (r_v 2 (pv 2))) (by decide))))
/-! _law_whole -/
abbrev St_law_whole : Stmt := topS 37
abbrev N_law_whole : List Str := ["_law_value", "_law_low", "_law_high"]
theorem sc_law_whole : FnScope N_law_whole ["_law_value", "_law_low", "_law_high"] (defScope St_law_whole) := ⟨rfl, rfl, rfl, by decide +kernel, rfl, by decide +kernel, by decide +kernel⟩
def F_law_whole : Env' → T Fl := (sRet (eAnd (eUn (oIsI "int") (eV 0)) (eAnd (eUn oNot (eUn (oIsI "bool") (eV 0))) (eCh oLe oLe (eV 1) (eV 0) (eV 2)))))
@[irreducible] def m_law_whole : List Ar → T D := mkDef 3 F_law_whole
theorem mq_law_whole : m_law_whole = mkDef 3 F_law_whole := by
  unfold m_law_whole
  rfl
theorem ok_law_whole {P : Program} {w : World} {K : PySem.W.Frag} {mg : Str → Option Value} {base : Heap} {cad : Cad} {fa : Addr} {fd : FuncData} (Fu : Fun K "_law_whole" "_law_whole" St_law_whole fa fd) (b_isinstance : mg "isinstance" = none) (b_int : mg "int" = none) (b_bool : mg "bool" = none) : FnG P w K mg base 2 fa fd ["_law_value", "_law_low", "_law_high"] (spD cad 3 m_law_whole) :=
  by
  rw [mq_law_whole]
  exact FnG.ofD (F := F_law_whole) (N := N_law_whole) Fu sc_law_whole fun cdv A outer s H E hr hgu => (ss_one (s_ret (r_and (r_isa (by rfl) b_isinstance (pe_bltn (by rfl) b_int (by decide +kernel) rfl) (r_v 0 (pv 0)) kit_int) (r_and (r_not (r_isa (by rfl) b_isinstance (pe_bltn (by rfl) b_bool (by decide +kernel) rfl) (r_v 0 (pv 0)) kit_bool)) (r_one (r_chain op_le op_le u_cmp d_cmp (r_v 1 (pv 1)) (r_v 0 (pv 0)) (r_v 2 (pv 2))))))))
/-! _law_vector -/
abbrev St_law_vector : Stmt := topS 38
abbrev N_law_vector : List Str := ["_law_value", "_law_many", "_law_most", "_law_item"]
theorem sc_law_vector : FnScope N_law_vector ["_law_value", "_law_many", "_law_most"] (defScope St_law_vector) := ⟨rfl, rfl, rfl, by decide +kernel, rfl, by decide +kernel, by decide +kernel⟩
def F_law_vector : Env' → T Fl := (sSeq (sIf (eOr (eUn oNot (eUn (oIsI "tuple") (eV 0))) (eBin oNe (eCb oLen (aCons (eV 0) aNil)) (eV 1))) (sRet (eC (.bool false))) sNil) (sRet (eBin oEqN (eLc [3] (iSeq (eV 0)) (bName 3) (eUn oNot (eCall 3 m_law_whole (aCons (eV 3) (aCons (eBin oSub (eC (.int 0)) (eV 2)) (aCons (eV 2) aNil))))) (eV 3)) (eLst aNil))))
@[irreducible] def m_law_vector : List Ar → T D := mkDef 4 F_law_vector
theorem mq_law_vector : m_law_vector = mkDef 4 F_law_vector := by
  unfold m_law_vector
  rfl
theorem ok_law_vector {P : Program} {w : World} {K : PySem.W.Frag} {mg : Str → Option Value} {base : Heap} {cad : Cad} {fa : Addr} {fd : FuncData} (Fu : Fun K "_law_vector" "_law_vector" St_law_vector fa fd) (C_law_whole : Cal P w K mg base cad "_law_whole" 2 3 m_law_whole) (b_isinstance : mg "isinstance" = none) (b_tuple : mg "tuple" = none) (b_len : mg "len" = none) : FnG P w K mg base 3 fa fd ["_law_value", "_law_many", "_law_most"] (spD cad 3 m_law_vector) :=
  by
  rw [mq_law_vector]
  exact FnG.ofD (F := F_law_vector) (N := N_law_vector) Fu sc_law_vector fun cdv A outer s H E hr hgu => (ss_cons (s_if (q_or (q_not (q_val (r_isa (by rfl) b_isinstance (pe_bltn (by rfl) b_tuple (by decide +kernel) rfl) (r_v 0 (pv 0)) kit_tuple))) (q_or1 (q_cmp (op_neW hr.units) d_ne (r_b call_len_seq d_len (by rfl) b_len (by decide +kernel) (a_cons (r_v 0 (pv 0)) a_nil)) (r_v 1 (pv 1)) (nomark _)))).pt (ss_one (s_ret r_bl)) ss_nil) (ss_one (s_ret (r_cmp (op_eqN hr.units) d_eqN (r_lc (own := [("_law_item", 3)]) rfl sc_law_vector.nd (i_seq (r_v 0 (pv 0))) (blkOk_by (N := N_law_vector) (sc := defScope St_law_vector) (by decide +kernel)) (fun _ _ _ _ _ => (g_name (pg_name (i := 3) sc_law_vector.nd rfl (by first | exact .inl rfl | exact .inr rfl)))) (fun _ _ _ _ _ => (pts_if (q_not (q_val (r_cal C_law_whole hr (by first | decide | omega) hgu (by rfl) takes0 (a_cons (r_v 3 (pv 3)) (a_cons (r_op op_sub d_sub r_int (r_v 2 (pv 2))) (a_cons (r_v 2 (pv 2)) a_nil)))))))) (fun _ _ _ _ _ => (r_v 3 (pv 3))) (by decide)) (r_lst a_nil) (nomark _)))))
/-! _law_is_direction -/
abbrev St_law_is_direction : Stmt := topS 39
abbrev N_law_is_direction : List Str := ["_law_value", "_law_dims"]
theorem sc_law_is_direction : FnScope N_law_is_direction ["_law_value", "_law_dims"] (defScope St_law_is_direction) := ⟨rfl, rfl, rfl, by decide +kernel, rfl, by decide +kernel, by decide +kernel⟩
def F_law_is_direction : Env' → T Fl := (sRet (eAnd (eCall 3 m_law_vector (aCons (eV 0) (aCons (eV 1) (aCons (eC (.int 4)) aNil)))) (eBin oEq (eCall 1 m_law_share (aCons (eV 0) aNil)) (eC (.int 1)))))
@[irreducible] def m_law_is_direction : List Ar → T D := mkDef 2 F_law_is_direction
theorem mq_law_is_direction : m_law_is_direction = mkDef 2 F_law_is_direction := by
  unfold m_law_is_direction
  rfl
theorem ok_law_is_direction {P : Program} {w : World} {K : PySem.W.Frag} {mg : Str → Option Value} {base : Heap} {cad : Cad} {fa : Addr} {fd : FuncData} (Fu : Fun K "_law_is_direction" "_law_is_direction" St_law_is_direction fa fd) (C_law_vector : Cal P w K mg base cad "_law_vector" 3 3 m_law_vector) (C_law_share : Cal P w K mg base cad "_law_share" 3 1 m_law_share) : FnG P w K mg base 4 fa fd ["_law_value", "_law_dims"] (spD cad 2 m_law_is_direction) :=
  by
  rw [mq_law_is_direction]
  exact FnG.ofD (F := F_law_is_direction) (N := N_law_is_direction) Fu sc_law_is_direction fun cdv A outer s H E hr hgu => (ss_one (s_ret (r_and (r_cal C_law_vector hr (by first | decide | omega) hgu (by rfl) (takes_of rfl rfl rfl rfl) (a_cons (r_v 0 (pv 0)) (a_cons (r_v 1 (pv 1)) (a_cons r_int a_nil)))) (r_one (r_cmp (op_eqW hr.units) d_eq (r_cal C_law_share hr (by first | decide | omega) hgu (by rfl) (takes_of rfl rfl rfl rfl) (a_cons (r_v 0 (pv 0)) a_nil)) r_int (nomark _))))))
/-! _law_odd -/
abbrev St_law_odd : Stmt := topS 40
abbrev N_law_odd : List Str := ["_law_spring_here", "_law_some"]
theorem sc_law_odd : FnScope N_law_odd ["_law_spring_here"] (defScope St_law_odd) := ⟨rfl, rfl, rfl, by decide +kernel, rfl, by decide +kernel, by decide +kernel⟩
def F_law_odd : Env' → T Fl := (sSeq (sSet 1 (eLst (aCons (eC .none) (aCons (eC (.bool true)) (aCons (eC (.bool false)) (aCons (eC (.str "")) (aCons (eC (.str "1")) (aCons (eTup aNil) (aCons (eLst aNil) (aCons (eC (.dict [])) (aCons (eTup (aCons (eC (.int 1)) aNil)) (aCons (eBin oPow (eC (.int 10)) (eC (.int 39))) (aCons (eUn oNeg (eC (.int 1))) (aCons (eTup (aCons (eTup aNil) (aCons (eTup aNil) aNil))) (aCons (eTup (aCons (eC .none) (aCons (eC (.int 1)) aNil))) (aCons (eLst (aCons (eC (.int 1)) (aCons (eC (.int 0)) aNil))) (aCons (eTup (aCons (eC (.int 1)) (aCons (eC (.int 0)) (aCons (eC (.int 0)) (aCons (eC (.int 0)) aNil))))) (aCons (eC (.str "10")) aNil)))))))))))))))))) (sRet (eCall 2 m_law_pick (aBox 0 (aCons (eV 1) aNil)))))
@[irreducible] def m_law_odd : List Ar → T D := mkDef 2 F_law_odd
theorem mq_law_odd : m_law_odd = mkDef 2 F_law_odd := by
  unfold m_law_odd
  rfl
theorem ok_law_odd {P : Program} {w : World} {K : PySem.W.Frag} {mg : Str → Option Value} {base : Heap} {cad : Cad} {fa : Addr} {fd : FuncData} (Fu : Fun K "_law_odd" "_law_odd" St_law_odd fa fd) (C_law_pick : Cal P w K mg base cad "_law_pick" 2 2 m_law_pick) : FnG P w K mg base 3 fa fd ["_law_spring_here"] (spD cad 1 m_law_odd) :=
  by
  rw [mq_law_odd]
  exact FnG.ofD (F := F_law_odd) (N := N_law_odd) Fu sc_law_odd fun cdv A outer s H E hr hgu => (ss_cons (s_set (ps_set (i := 1) sc_law_odd.nd rfl (by first | exact .inl rfl | exact .inr rfl) (r_lst (a_cons r_non (a_cons r_bl (a_cons r_bl (a_cons r_str (a_cons r_str (a_cons (r_tup a_nil) (a_cons (r_lst a_nil) (a_cons r_dct0 (a_cons (r_tup (a_cons r_int a_nil)) (a_cons (r_op op_pow d_pow r_int r_int) (a_cons (r_un un_neg d_neg r_int) (a_cons (r_tup (a_cons (r_tup a_nil) (a_cons (r_tup a_nil) a_nil))) (a_cons (r_tup (a_cons r_non (a_cons r_int a_nil))) (a_cons (r_lst (a_cons r_int (a_cons r_int a_nil))) (a_cons (r_tup (a_cons r_int (a_cons r_int (a_cons r_int (a_cons r_int a_nil))))) (a_cons r_str a_nil))))))))))))))))))) (ss_one (s_ret (r_cal C_law_pick hr (by first | decide | omega) hgu (by rfl) (takes_of rfl rfl rfl rfl) (a_box (i := 0) (pv 0) (a_cons (r_v 1 (pv 1)) a_nil))))))
/-! _law_bent -/
abbrev St_law_bent : Stmt := topS 41
abbrev N_law_bent : List Str := ["_law_spring_here", "_law_vector_here", "_law_at", "_law_item", "_law_some", "_law_one"]
theorem sc_law_bent : FnScope N_law_bent ["_law_spring_here", "_law_vector_here"] (defScope St_law_bent) := ⟨rfl, rfl, rfl, by decide +kernel, rfl, by decide +kernel, by decide +kernel⟩
def F_law_bent : Env' → T Fl := (sSeq (sSet 2 (eCall 2 m_law_dip (aBox 0 (aCons (eCb oLen (aCons (eV 1) aNil)) aNil)))) (sSeq (sSet 3 (eCall 2 m_law_pick (aBox 0 (aCons (eLst (aCons (eC (.bool true)) (aCons (eC (.bool false)) (aCons (eC .none) (aCons (eC (.str "1")) (aCons (eC (.int 5)) (aCons (eUn oNeg (eC (.int 5))) (aCons (eBin oAdd (eBin oIx (eV 1) (eV 2)) (eC (.int 1))) (aCons (eBin oSub (eBin oIx (eV 1) (eV 2)) (eC (.int 1))) (aCons (eTup (aCons (eC (.int 1)) aNil)) (aCons (eBin oPow (eC (.int 10)) (eC (.int 30))) (aCons (eUn oNeg (eBin oPow (eC (.int 10)) (eC (.int 31)))) aNil)))))))))))) aNil)))) (sSeq (sSet 4 (eLst (aCons (eBin oAdd (eBin oAdd (eSl (eV 1) pNone (pSome (eV 2))) (eTup (aCons (eV 3) aNil))) (eSl (eV 1) (pSome (eBin oAdd (eV 2) (eC (.int 1)))) pNone)) (aCons (eBin oAdd (eBin oAdd (eSl (eV 1) pNone (pSome (eV 2))) (eTup (aCons (eV 3) aNil))) (eSl (eV 1) (pSome (eBin oAdd (eV 2) (eC (.int 1)))) pNone)) (aCons (eCb (o1 oListOf) (aCons (eV 1) aNil)) aNil))))) (sRet (eCall 2 m_law_pick (aBox 0 (aCons (eBin oAdd (eV 4) (eLst (aCons (eBin oAdd (eV 1) (eTup (aCons (eC (.int 0)) aNil))) (aCons (eSl (eV 1) pNone (pSome (eUn oNeg (eC (.int 1))))) (aCons (eCb (o1 oTupleOf) (aCons (eLc [5] (iSeq (eV 1)) (bName 5) tTrue (eBin oMul (eC (.int 2)) (eV 5))) aNil)) (aCons (eTup (aCons (eV 1) aNil)) aNil)))))) aNil)))))))
@[irreducible] def m_law_bent : List Ar → T D := mkDef 6 F_law_bent
theorem mq_law_bent : m_law_bent = mkDef 6 F_law_bent := by
  unfold m_law_bent
  rfl
theorem ok_law_bent {P : Program} {w : World} {K : PySem.W.Frag} {mg : Str → Option Value} {base : Heap} {cad : Cad} {fa : Addr} {fd : FuncData} (Fu : Fun K "_law_bent" "_law_bent" St_law_bent fa fd) (C_law_dip : Cal P w K mg base cad "_law_dip" 1 2 m_law_dip) (C_law_pick : Cal P w K mg base cad "_law_pick" 2 2 m_law_pick) (b_len : mg "len" = none) (b_list : mg "list" = none) (b_tuple : mg "tuple" = none) : FnG P w K mg base 3 fa fd ["_law_spring_here", "_law_vector_here"] (spD cad 2 m_law_bent) :=
  by
  rw [mq_law_bent]
  exact FnG.ofD (F := F_law_bent) (N := N_law_bent) Fu sc_law_bent fun cdv A outer s H E hr hgu => (ss_cons (s_set (ps_set (i := 2) sc_law_bent.nd rfl (by first | exact .inl rfl | exact .inr rfl) (r_cal C_law_dip hr (by first | decide | omega) hgu (by rfl) (takes_of rfl rfl rfl rfl) (a_box (i := 0) (pv 0) (a_cons (r_b call_len_seq d_len (by rfl) b_len (by decide +kernel) (a_cons (r_v 1 (pv 1)) a_nil)) a_nil))))) (ss_cons (s_set (ps_set (i := 3) sc_law_bent.nd rfl (by first | exact .inl rfl | exact .inr rfl) (r_cal C_law_pick hr (by first | decide | omega) hgu (by rfl) (takes_of rfl rfl rfl rfl) (a_box (i := 0) (pv 0) (a_cons (r_lst (a_cons r_bl (a_cons r_bl (a_cons r_non (a_cons r_str (a_cons r_int (a_cons (r_un un_neg d_neg r_int) (a_cons (r_op op_addD d_add (r_ix ix_seq d_ix (r_v 1 (pv 1)) (r_v 2 (pv 2)) (fun _ _ => rfl)) r_int) (a_cons (r_op op_sub d_sub (r_ix ix_seq d_ix (r_v 1 (pv 1)) (r_v 2 (pv 2)) (fun _ _ => rfl)) r_int) (a_cons (r_tup (a_cons r_int a_nil)) (a_cons (r_op op_pow d_pow r_int r_int) (a_cons (r_un un_neg d_neg (r_op op_pow d_pow r_int r_int)) a_nil)))))))))))) a_nil))))) (ss_cons (s_set (ps_set (i := 4) sc_law_bent.nd rfl (by first | exact .inl rfl | exact .inr rfl) (r_lst (a_cons (r_op op_addD d_add (r_op op_addD d_add (r_sl (r_v 1 (pv 1)) p_none (p_some (r_v 2 (pv 2)))) (r_tup (a_cons (r_v 3 (pv 3)) a_nil))) (r_sl (r_v 1 (pv 1)) (p_some (r_op op_addD d_add (r_v 2 (pv 2)) r_int)) p_none)) (a_cons (r_op op_addD d_add (r_op op_addD d_add (r_sl (r_v 1 (pv 1)) p_none (p_some (r_v 2 (pv 2)))) (r_tup (a_cons (r_v 3 (pv 3)) a_nil))) (r_sl (r_v 1 (pv 1)) (p_some (r_op op_addD d_add (r_v 2 (pv 2)) r_int)) p_none)) (a_cons (r_bt call_list_of d_list (by rfl) b_list (by decide +kernel) (a_cons (r_v 1 (pv 1)) a_nil)) a_nil)))))) (ss_one (s_ret (r_cal C_law_pick hr (by first | decide | omega) hgu (by rfl) (takes_of rfl rfl rfl rfl) (a_box (i := 0) (pv 0) (a_cons (r_op op_addD d_add (r_v 4 (pv 4)) (r_lst (a_cons (r_op op_addD d_add (r_v 1 (pv 1)) (r_tup (a_cons r_int a_nil))) (a_cons (r_sl (r_v 1 (pv 1)) p_none (p_some (r_un un_neg d_neg r_int))) (a_cons (r_bt call_tuple_of d_tuple (by rfl) b_tuple (by decide +kernel) (a_cons (r_lc (own := [("_law_one", 5)]) rfl sc_law_bent.nd (i_seq (r_v 1 (pv 1))) (blkOk_by (N := N_law_bent) (sc := defScope St_law_bent) (by decide +kernel)) (fun _ _ _ _ _ => (g_name (pg_name (i := 5) sc_law_bent.nd rfl (by first | exact .inl rfl | exact .inr rfl)))) (fun _ _ _ _ _ => pts_yes) (fun _ _ _ _ _ => (r_op op_mulD d_mul r_int (r_v 5 (pv 5)))) (by decide)) a_nil)) (a_cons (r_tup (a_cons (r_v 1 (pv 1)) a_nil)) a_nil)))))) a_nil))))))))
/-! _law_wrong -/
abbrev St_law_wrong : Stmt := topS 42
abbrev N_law_wrong : List Str := ["_law_spring_here", "_law_dims", "_law_nth", "_law_value"]
theorem sc_law_wrong : FnScope N_law_wrong ["_law_spring_here", "_law_dims"] (defScope St_law_wrong) := ⟨rfl, rfl, rfl, by decide +kernel, rfl, by decide +kernel, by decide +kernel⟩
def F_law_wrong : Env' → T Fl := (sSeq (sFor (iArg oRng1 (aCons (eC (.int 8)) aNil)) (bName 2) (sSeq (sSet 3 (eCall 2 m_law_pick (aBox 0 (aCons (eLst (aCons (eCall 2 m_law_bent (aBox 0 (aCons (eCall 2 m_law_direction (aBox 0 (aCons (eV 1) aNil))) aNil))) (aCons (eCall 1 m_law_odd (aBox 0 aNil)) aNil))) aNil)))) (sIf (eUn oNot (eCall 2 m_law_is_direction (aCons (eV 3) (aCons (eV 1) aNil)))) (sRet (eV 3)) sNil))) (sRet (eC .none)))
@[irreducible] def m_law_wrong : List Ar → T D := mkDef 4 F_law_wrong
theorem mq_law_wrong : m_law_wrong = mkDef 4 F_law_wrong := by
  unfold m_law_wrong
  rfl
theorem ok_law_wrong {P : Program} {w : World} {K : PySem.W.Frag} {mg : Str → Option Value} {base : Heap} {cad : Cad} {fa : Addr} {fd : FuncData} (Fu : Fun K "_law_wrong" "_law_wrong" St_law_wrong fa fd) (C_law_pick : Cal P w K mg base cad "_law_pick" 2 2 m_law_pick) (C_law_odd : Cal P w K mg base cad "_law_odd" 3 1 m_law_odd) (C_law_bent : Cal P w K mg base cad "_law_bent" 3 2 m_law_bent) (C_law_direction : Cal P w K mg base cad "_law_direction" 4 2 m_law_direction) (C_law_is_direction : Cal P w K mg base cad "_law_is_direction" 4 2 m_law_is_direction) (b_range : mg "range" = none) : FnG P w K mg base 5 fa fd ["_law_spring_here", "_law_dims"] (spD cad 2 m_law_wrong) :=
  by
  rw [mq_law_wrong]
  exact FnG.ofD (F := F_law_wrong) (N := N_law_wrong) Fu sc_law_wrong fun cdv A outer s H E hr hgu => (ss_cons (s_for (b_name (K := K)) (ps_for (passes_of rfl) rfl (i_rng1 (by rfl) b_range (a_cons r_int a_nil)) (pg_name (i := 2) sc_law_wrong.nd rfl (by first | exact .inl rfl | exact .inr rfl)) (ss_cons (s_set (ps_set (i := 3) sc_law_wrong.nd rfl (by first | exact .inl rfl | exact .inr rfl) (r_cal C_law_pick hr (by first | decide | omega) hgu (by rfl) (takes_of rfl rfl rfl rfl) (a_box (i := 0) (pv 0) (a_cons (r_lst (a_cons (r_cal C_law_bent hr (by first | decide | omega) hgu (by rfl) (takes_of rfl rfl rfl rfl) (a_box (i := 0) (pv 0) (a_cons (r_cal C_law_direction hr (by first | decide | omega) hgu (by rfl) (takes_of rfl rfl rfl rfl) (a_box (i := 0) (pv 0) (a_cons (r_v 1 (pv 1)) a_nil))) a_nil))) (a_cons (r_cal C_law_odd hr (by first | decide | omega) hgu (by rfl) (takes_of rfl rfl rfl rfl) (a_box (i := 0) (pv 0) a_nil)) a_nil))) a_nil))))) (ss_one (s_if (q_not (q_val (r_cal C_law_is_direction hr (by first | decide | omega) hgu (by rfl) (takes_of rfl rfl rfl rfl) (a_cons (r_v 3 (pv 3)) (a_cons (r_v 1 (pv 1)) a_nil))))) (ss_one (s_ret (r_v 3 (pv 3)))) ss_nil))))) (ss_one (s_ret r_non)))
/-! _law_inner -/
abbrev St_law_inner : Stmt := topS 43
abbrev N_law_inner : List Str := ["_law_box_here", "_law_way", "_law_many", "_law_found", "_law_size", "_law_step"]
theorem sc_law_inner : FnScope N_law_inner ["_law_box_here", "_law_way", "_law_many"] (defScope St_law_inner) := ⟨rfl, rfl, rfl, by decide +kernel, rfl, by decide +kernel, by decide +kernel⟩
def B0_law_inner : Env' → T Fl := (sSet 3 (eBin oMul (eV 3) (eCb oMax2 (aCons (eC (.int 0)) (aCons (eBin oSub (eV 4) (eBin oMul (eV 2) (eCb (o1 oAbs) (aCons (eV 5) aNil)))) aNil)))))
def F_law_inner : Env' → T Fl := (sSeq (sSet 3 (eC (.int 1))) (sSeq (sFor (iArg oZipM (aCons (eV 0) (aCons (eV 1) aNil))) (bTup [4, 5]) B0_law_inner) (sRet (eV 3))))
@[irreducible] def m_law_inner : List Ar → T D := mkDef 6 F_law_inner
theorem mq_law_inner : m_law_inner = mkDef 6 F_law_inner := by
  unfold m_law_inner
  rfl
theorem ok_law_inner {P : Program} {w : World} {K : PySem.W.Frag} {mg : Str → Option Value} {base : Heap} {cad : Cad} {fa : Addr} {fd : FuncData} (Fu : Fun K "_law_inner" "_law_inner" St_law_inner fa fd) (b_zip : mg "zip" = none) (b_max : mg "max" = none) (b_abs : mg "abs" = none) : FnG P w K mg base 2 fa fd ["_law_box_here", "_law_way", "_law_many"] (spD cad 3 m_law_inner) :=
  by
  rw [mq_law_inner]
  exact FnG.ofD (F := F_law_inner) (N := N_law_inner) Fu sc_law_inner fun cdv A outer s H E hr hgu => (ss_cons (s_set (ps_set (i := 3) sc_law_inner.nd rfl (by first | exact .inl rfl | exact .inr rfl) r_int)) (ss_cons (s_for (b_tup rfl) (ps_for (passes_of rfl) rfl (i_zipM (by rfl) b_zip (a_cons (r_v 0 (pv 0)) (a_cons (r_v 1 (pv 1)) a_nil))) (pg_tup rfl (pgs_cons (pg_name (i := 4) sc_law_inner.nd rfl (by first | exact .inl rfl | exact .inr rfl)) (pgs_cons (pg_name (i := 5) sc_law_inner.nd rfl (by first | exact .inl rfl | exact .inr rfl)) pgs_nil))) (ss_one (s_set (ps_set (i := 3) sc_law_inner.nd rfl (by first | exact .inl rfl | exact .inr rfl) (r_op op_mulD d_mul (r_v 3 (pv 3)) (r_b (call_max2 rfl) d_max2 (by rfl) b_max (by decide +kernel) (a_cons r_int (a_cons (r_op op_sub d_sub (r_v 4 (pv 4)) (r_op op_mulD d_mul (r_v 2 (pv 2)) (r_b call_abs d_abs (by rfl) b_abs (by decide +kernel) (a_cons (r_v 5 (pv 5)) a_nil)))) a_nil))))))))) (ss_one (s_ret (r_v 3 (pv 3))))))
/-! _law_longest -/
abbrev St_law_longest : Stmt := topS 44
abbrev N_law_longest : List Str := ["_law_box_here", "_law_way", "_law_some", "_law_size", "_law_step"]
theorem sc_law_longest : FnScope N_law_longest ["_law_box_here", "_law_way"] (defScope St_law_longest) := ⟨rfl, rfl, rfl, by decide +kernel, rfl, by decide +kernel, by decide +kernel⟩
def F_law_longest : Env' → T Fl := (sSeq (sSet 2 (eLc [3, 4] (iArg oZipM (aCons (eV 0) (aCons (eV 1) aNil))) (bTup [3, 4]) (eBin oNe (eV 4) (eC (.int 0))) (eBin oFdiv (eBin oSub (eV 3) (eC (.int 1))) (eCb (o1 oAbs) (aCons (eV 4) aNil))))) (sRet (eBin oAdd (eC (.int 1)) (eCb (o1 oMinL) (aCons (eV 2) aNil)))))
@[irreducible] def m_law_longest : List Ar → T D := mkDef 5 F_law_longest
theorem mq_law_longest : m_law_longest = mkDef 5 F_law_longest := by
  unfold m_law_longest
  rfl
theorem ok_law_longest {P : Program} {w : World} {K : PySem.W.Frag} {mg : Str → Option Value} {base : Heap} {cad : Cad} {fa : Addr} {fd : FuncData} (Fu : Fun K "_law_longest" "_law_longest" St_law_longest fa fd) (b_zip : mg "zip" = none) (b_abs : mg "abs" = none) (b_min : mg "min" = none) : FnG P w K mg base 2 fa fd ["_law_box_here", "_law_way"] (spD cad 2 m_law_longest) :=
  by
  rw [mq_law_longest]
  exact FnG.ofD (F := F_law_longest) (N := N_law_longest) Fu sc_law_longest fun cdv A outer s H E hr hgu => (ss_cons (s_setLc (ps_setLc (i := 2) (own := [("_law_size", 3), ("_law_step", 4)]) rfl sc_law_longest.nd rfl rfl (by rfl) (i_zipM (by rfl) b_zip (a_cons (r_v 0 (pv 0)) (a_cons (r_v 1 (pv 1)) a_nil))) (blkOk_by (N := N_law_longest) (sc := defScope St_law_longest) (by decide +kernel)) (fun _ _ _ _ _ => (g_tup rfl (pg_tup rfl (pgs_cons (pg_name (i := 3) sc_law_longest.nd rfl (by first | exact .inl rfl | exact .inr rfl)) (pgs_cons (pg_name (i := 4) sc_law_longest.nd rfl (by first | exact .inl rfl | exact .inr rfl)) pgs_nil))))) (fun _ _ _ _ _ => (pts_if (q_cmp (op_neW hr.units) d_ne (r_v 4 (pv 4)) r_int (nomark _)))) (fun _ _ _ _ _ => (r_op op_fdivD d_fdiv (r_op op_sub d_sub (r_v 3 (pv 3)) r_int) (r_b call_abs d_abs (by rfl) b_abs (by decide +kernel) (a_cons (r_v 4 (pv 4)) a_nil))))) (by decide)) (ss_one (s_ret (r_op op_addD d_add r_int (r_b (cr_min rfl) d_minL (by rfl) b_min (by decide +kernel) (a_cons (r_v 2 (pv 2)) a_nil))))))
/-! _law_told -/
abbrev St_law_told : Stmt := topS 45
abbrev N_law_told : List Str := ["_law_ask", "_law_found", "error"]
theorem sc_law_told : FnScope N_law_told ["_law_ask"] (defScope St_law_told) := ⟨rfl, rfl, rfl, by decide +kernel, rfl, by decide +kernel, by decide +kernel⟩
def F_law_told (t : T D) : Env' → T Fl := (sSeq (sSet 1 (eC .none)) (sSeq (sTryM [⟨(some 2), cm_BadDirection, (sSet 1 (eLst (aCons (eC (.str "direction")) (aCons (eFld 2 "BadDirection" "direction") aNil))))⟩, ⟨(some 2), cm_NoCount, (sSet 1 (eLst (aCons (eC (.str "many")) (aCons (eFld 2 "NoCount" "many") aNil))))⟩] (sSet 1 (eAsk t))) (sRet (eV 1))))
@[irreducible] def m_law_told : T D → T D := fun t => (F_law_told t ([Sl.fn] ++ List.replicate 2 .no)).run
theorem mq_law_told : ∀ t, m_law_told t = (F_law_told t ([Sl.fn] ++ List.replicate 2 .no)).run := by
  intro t
  unfold m_law_told
  rfl
theorem ok_law_told {P : Program} {w : World} {K : PySem.W.Frag} {mg : Str → Option Value} {base : Heap} {cad : Cad} {fa : Addr} {A_BadDirection : Addr} (n_BadDirection : mg "BadDirection" = some (.ref A_BadDirection)) (hcm_BadDirection : ∀ x C b, cad x = some C → cm_BadDirection x = some b → PySem.W.exmOne K (.ref C) (.ref A_BadDirection) = some b) {A_NoCount : Addr} (n_NoCount : mg "NoCount" = some (.ref A_NoCount)) (hcm_NoCount : ∀ x C b, cad x = some C → cm_NoCount x = some b → PySem.W.exmOne K (.ref C) (.ref A_NoCount) = some b) (X_BadDirection : Caught K mg cad "BadDirection" "direction" A_BadDirection) (X_NoCount : Caught K mg cad "NoCount" "many" A_NoCount) : Tel P w K mg base cad 12 "_law_told" St_law_told N_law_told fa "_law_ask" F_law_told := fun cdv A outer s H E lk fO cO qn σc tt t hr hgu L hask => (ss_cons (s_set (ps_set (i := 1) sc_law_told.nd rfl (by first | exact .inl rfl | exact .inr rfl) r_non)) (ss_cons (s_tryM (l := [(.ref A_BadDirection, ⟨(some 2), cm_BadDirection, (sSet 1 (eLst (aCons (eC (.str "direction")) (aCons (eFld 2 "BadDirection" "direction") aNil))))⟩), (.ref A_NoCount, ⟨(some 2), cm_NoCount, (sSet 1 (eLst (aCons (eC (.str "many")) (aCons (eFld 2 "NoCount" "many") aNil))))⟩)]) rfl (fun p hp => by
      simp only [List.mem_cons, List.not_mem_nil, or_false] at hp
      rcases hp with rfl | rfl
      · exact hcm_BadDirection
      · exact hcm_NoCount) (ps_try_mix (tb := fun W => tS ⟨cad, none, W, lk⟩ (sSet 1 (eAsk t))) rfl rfl sc_law_told.nd (takes_of rfl rfl rfl rfl) (fun W pn xe tk hp => (ss_one (s_ask L (ps_set (i := 1) sc_law_told.nd rfl (by first | exact .inl rfl | exact .inr rfl) (hask _ _ _ _ _ tk))))) (.cons ⟨by rfl, by decide, .inl n_BadDirection⟩ ⟨rfl, rfl⟩ (fun a oe cls d pn hz hf => (ss_one (s_set (ps_set (i := 1) sc_law_told.nd rfl (by first | exact .inl rfl | exact .inr rfl) (r_lst (a_cons r_str (a_cons (r_fld X_BadDirection.xf X_BadDirection.no X_BadDirection.cad rfl hz hf (pv 2)) a_nil))))))) (.cons ⟨by rfl, by decide, .inl n_NoCount⟩ ⟨rfl, rfl⟩ (fun a oe cls d pn hz hf => (ss_one (s_set (ps_set (i := 1) sc_law_told.nd rfl (by first | exact .inl rfl | exact .inr rfl) (r_lst (a_cons r_str (a_cons (r_fld X_NoCount.xf X_NoCount.no X_NoCount.cad rfl hz hf (pv 2)) a_nil))))))) .nil)))) (ss_one (s_ret (r_v 1 (pv 1))))))
/-! _law_refused_right -/
abbrev St_law_refused_right : Stmt := topS 46
abbrev N_law_refused_right : List Str := ["_law_spring_here", "_law_box_here", "_law_way", "_law_wrong_here", "_law_odd_here", "_law_told_here"]
theorem sc_law_refused_right : FnScope N_law_refused_right ["_law_spring_here", "_law_box_here", "_law_way"] (defScope St_law_refused_right) := ⟨rfl, rfl, rfl, by decide +kernel, rfl, by decide +kernel, by decide +kernel⟩
def F_law_refused_right : Env' → T Fl := (sSeq (sUnp (bTup [3, 4]) (eTup (aCons (eCall 2 m_law_wrong (aBox 0 (aCons (eCb oLen (aCons (eV 1) aNil)) aNil))) (aCons (eCall 2 m_law_pick (aBox 0 (aCons (eLst (aCons (eC (.int 0)) (aCons (eUn oNeg (eC (.int 1))) (aCons (eC (.bool true)) (aCons (eC (.bool false)) (aCons (eC .none) (aCons (eC (.str "1")) (aCons (eTup (aCons (eC (.int 1)) aNil)) (aCons (eLst (aCons (eC (.int 2)) aNil)) (aCons (eC (.int 0)) aNil)))))))))) aNil))) aNil)))) (sSeq (sOwn 5 (lLst (aCons (eLam m_law_told (eCall 2 m_count_lines (aCons (eV 1) (aCons (eV 3) aNil)))) aNil))) (sSeq (sApp 5 (eLam m_law_told (eCall 2 m_longest_line (aCons (eV 1) (aCons (eV 3) aNil))))) (sSeq (sApp 5 (eLam m_law_told (eCall 3 m_count_long (aCons (eV 1) (aCons (eV 3) (aCons (eV 4) aNil)))))) (sSeq (sApp 5 (eLam m_law_told (eCall 3 m_count_long (aCons (eV 1) (aCons (eV 2) (aCons (eV 4) aNil)))))) (sFrz 5 (sRet (eBin oEq (eCb (o1 oRepr) (aCons (eV 5) aNil)) (eCb (o1 oRepr) (aCons (eBin oAdd (eBin oMul (eLst (aCons (eLst (aCons (eC (.str "direction")) (aCons (eV 3) aNil))) aNil)) (eC (.int 3))) (eLst (aCons (eLst (aCons (eC (.str "many")) (aCons (eV 4) aNil))) aNil))) aNil))))))))))
@[irreducible] def m_law_refused_right : List Ar → T D := mkDef 6 F_law_refused_right
theorem mq_law_refused_right : m_law_refused_right = mkDef 6 F_law_refused_right := by
  unfold m_law_refused_right
  rfl
theorem ok_law_refused_right {P : Program} {w : World} {K : PySem.W.Frag} {mg : Str → Option Value} {base : Heap} {cad : Cad} {fa : Addr} {fd : FuncData} (Fu : Fun K "_law_refused_right" "_law_refused_right" St_law_refused_right fa fd) (C_law_pick : Cal P w K mg base cad "_law_pick" 2 2 m_law_pick) (C_law_wrong : Cal P w K mg base cad "_law_wrong" 5 2 m_law_wrong) (C_law_told : CalT P w K mg base cad "_law_told" 11 "_law_ask" m_law_told) (C_count_lines : Cal P w K mg base cad "count_lines" 6 2 m_count_lines) (C_longest_line : Cal P w K mg base cad "longest_line" 6 2 m_longest_line) (C_count_long : Cal P w K mg base cad "count_long" 6 3 m_count_long) {cA_law_refused_right tA_law_refused_right : Addr} (TB_law_refused_right : LamX.TabB base mg cA_law_refused_right tA_law_refused_right) (hce_law_refused_right : fd.code = .ref cA_law_refused_right) (hbx_law_refused_right : ∀ β, cad.bx β → BoxT tA_law_refused_right ((envOfC "_law_refused_right" (defScope St_law_refused_right) 0 fa .none).qual ++ "<lambda>") β ∧ ∀ v, cad.bx (β.at v)) (b_len : mg "len" = none) (b_repr : mg "repr" = none) : FnG P w K mg base 14 fa fd ["_law_spring_here", "_law_box_here", "_law_way"] (spD cad 3 m_law_refused_right) :=
  by
  rw [mq_law_refused_right]
  exact FnG.ofDE (F := F_law_refused_right) (N := N_law_refused_right) Fu sc_law_refused_right fun cdv A outer s H E hcd hr hgu => (ss_cons (s_unp (is := [3, 4]) rfl (ps_asg (r_tup (a_cons (r_cal C_law_wrong hr (by first | decide | omega) hgu (by rfl) (takes_of rfl rfl rfl rfl) (a_box (i := 0) (pv 0) (a_cons (r_b call_len_seq d_len (by rfl) b_len (by decide +kernel) (a_cons (r_v 1 (pv 1)) a_nil)) a_nil))) (a_cons (r_cal C_law_pick hr (by first | decide | omega) hgu (by rfl) (takes_of rfl rfl rfl rfl) (a_box (i := 0) (pv 0) (a_cons (r_lst (a_cons r_int (a_cons (r_un un_neg d_neg r_int) (a_cons r_bl (a_cons r_bl (a_cons r_non (a_cons r_str (a_cons (r_tup (a_cons r_int a_nil)) (a_cons (r_lst (a_cons r_int a_nil)) (a_cons r_int a_nil)))))))))) a_nil))) a_nil))) (pg_tup rfl (pgs_cons (pg_name (i := 3) sc_law_refused_right.nd rfl (by first | exact .inl rfl | exact .inr rfl)) (pgs_cons (pg_name (i := 4) sc_law_refused_right.nd rfl (by first | exact .inl rfl | exact .inr rfl)) pgs_nil))))) (ss_cons (s_own (ps_set (i := 5) sc_law_refused_right.nd rfl (by first | exact .inl rfl | exact .inr rfl) (pe_lst (a_cons (r_lamT (k := 11) C_law_told (hr.mono (by decide)) hgu (by rfl) TB_law_refused_right (hcd.symm.trans hce_law_refused_right) hbx_law_refused_right (LamX.lamS_by (sc := defScope St_law_refused_right) (by decide +kernel)) rfl (fun _ _ _ _ _ => rfl) (takes_of rfl rfl rfl rfl) (fun A outer s2 G2 E2 fO cO hgu hr => (r_cal C_count_lines hr (by first | decide | omega) hgu (by rfl) (takes_of rfl rfl rfl rfl) (a_cons (r_v 1 (pv 1)) (a_cons (r_v 3 (pv 3)) a_nil))))) a_nil)))) (ss_cons (s_app (ps_expr (pe_bm PySem.F.plainAttrs_list PySem.F.slot_list_append PySem.F.type_list_append mt_append (pv 5) (pa_cons (r_lamT (k := 11) C_law_told (hr.mono (by decide)) hgu (by rfl) TB_law_refused_right (hcd.symm.trans hce_law_refused_right) hbx_law_refused_right (LamX.lamS_by (sc := defScope St_law_refused_right) (by decide +kernel)) rfl (fun _ _ _ _ _ => rfl) (takes_of rfl rfl rfl rfl) (fun A outer s2 G2 E2 fO cO hgu hr => (r_cal C_longest_line hr (by first | decide | omega) hgu (by rfl) (takes_of rfl rfl rfl rfl) (a_cons (r_v 1 (pv 1)) (a_cons (r_v 3 (pv 3)) a_nil))))) pa_nil)))) (ss_cons (s_app (ps_expr (pe_bm PySem.F.plainAttrs_list PySem.F.slot_list_append PySem.F.type_list_append mt_append (pv 5) (pa_cons (r_lamT (k := 11) C_law_told (hr.mono (by decide)) hgu (by rfl) TB_law_refused_right (hcd.symm.trans hce_law_refused_right) hbx_law_refused_right (LamX.lamS_by (sc := defScope St_law_refused_right) (by decide +kernel)) rfl (fun _ _ _ _ _ => rfl) (takes_of rfl rfl rfl rfl) (fun A outer s2 G2 E2 fO cO hgu hr => (r_cal C_count_long hr (by first | decide | omega) hgu (by rfl) (takes_of rfl rfl rfl rfl) (a_cons (r_v 1 (pv 1)) (a_cons (r_v 3 (pv 3)) (a_cons (r_v 4 (pv 4)) a_nil)))))) pa_nil)))) (ss_cons (s_app (ps_expr (pe_bm PySem.F.plainAttrs_list PySem.F.slot_list_append PySem.F.type_list_append mt_append (pv 5) (pa_cons (r_lamT (k := 11) C_law_told (hr.mono (by decide)) hgu (by rfl) TB_law_refused_right (hcd.symm.trans hce_law_refused_right) hbx_law_refused_right (LamX.lamS_by (sc := defScope St_law_refused_right) (by decide +kernel)) rfl (fun _ _ _ _ _ => rfl) (takes_of rfl rfl rfl rfl) (fun A outer s2 G2 E2 fO cO hgu hr => (r_cal C_count_long hr (by first | decide | omega) hgu (by rfl) (takes_of rfl rfl rfl rfl) (a_cons (r_v 1 (pv 1)) (a_cons (r_v 2 (pv 2)) (a_cons (r_v 4 (pv 4)) a_nil)))))) pa_nil)))) (ss_frz (i := 5) (ss_one (s_ret (r_cmp (op_eqW hr.units) d_eq (r_b (call_repr hgu (un200 hr)) d_repr (by rfl) b_repr (by decide +kernel) (a_cons (r_v 5 (pv 5)) a_nil)) (r_b (call_repr hgu (un200 hr)) d_repr (by rfl) b_repr (by decide +kernel) (a_cons (r_op op_addD d_add (r_op op_mulD d_mul (r_lst (a_cons (r_lst (a_cons r_str (a_cons (r_v 3 (pv 3)) a_nil))) a_nil)) r_int) (r_lst (a_cons (r_lst (a_cons r_str (a_cons (r_v 4 (pv 4)) a_nil))) a_nil))) a_nil)) (nomark _))))))))))
/-! law -/
abbrev St_law : Stmt := topS 47
abbrev N_law : List Str := ["_law_script", "_law_spring_here", "_law_nth", "_law_dims", "_law_box_here", "_law_way", "_law_longest_here", "_law_due", "_law_some", "_law_many", "_law_rows", "_law_item", "_law_first", "_law_row"]
theorem sc_law : FnScope N_law ["_law_script"] (defScope St_law) := ⟨rfl, rfl, rfl, by decide +kernel, rfl, by decide +kernel, by decide +kernel⟩
def B0_law : Env' → T Fl := (sIf (eBin oNe (eCall 3 m_count_long (aCons (eV 4) (aCons (eV 5) (aCons (eV 9) aNil)))) (eBin oSub (eCall 3 m_law_inner (aCons (eV 4) (aCons (eV 5) (aCons (eBin oSub (eV 9) (eC (.int 1))) aNil)))) (eCall 3 m_law_inner (aCons (eV 4) (aCons (eV 5) (aCons (eV 9) aNil)))))) (sRet (eC (.bool false))) sNil)
def B1_law : Env' → T Fl := (sSeq (sSet 3 (eBin oAdd (eC (.int 2)) (eCall 2 m_law_dip (aBox 1 (aCons (eC (.int 2)) aNil))))) (sSeq (sUnp (bTup [4, 5]) (eTup (aCons (eCall 2 m_law_pick (aBox 1 (aCons (eLst (aCons (eCall 2 m_law_great (aBox 1 (aCons (eV 3) aNil))) (aCons (eCall 2 m_law_box (aBox 1 (aCons (eV 3) aNil))) aNil))) aNil))) (aCons (eCall 2 m_law_direction (aBox 1 (aCons (eV 3) aNil))) aNil)))) (sSeq (sSet 6 (eCall 2 m_law_longest (aCons (eV 4) (aCons (eV 5) aNil)))) (sSeq (sSet 7 (eLst (aCons (eBin oSub (eCall 3 m_law_inner (aCons (eV 4) (aCons (eV 5) (aCons (eC (.int 0)) aNil)))) (eCall 3 m_law_inner (aCons (eV 4) (aCons (eV 5) (aCons (eC (.int 1)) aNil))))) (aCons (eV 6) aNil)))) (sSeq (sIf (eBin oNe (eLst (aCons (eCall 2 m_count_lines (aCons (eV 4) (aCons (eV 5) aNil))) (aCons (eCall 2 m_longest_line (aCons (eV 4) (aCons (eV 5) aNil))) aNil))) (eV 7)) (sRet (eC (.bool false))) sNil) (sSeq (sSet 8 (eLst (aCons (eC (.int 1)) (aCons (eC (.int 2)) (aCons (eC (.int 3)) (aCons (eBin oSub (eV 6) (eC (.int 1))) (aCons (eV 6) (aCons (eBin oAdd (eV 6) (eC (.int 1))) (aCons (eBin oFdiv (eV 6) (eC (.int 2))) (aCons (eCall 2 m_law_far (aBox 1 (aCons (eV 6) aNil))) (aCons (eBin oPow (eC (.int 10)) (eC (.int 39))) aNil))))))))))) (sSeq (sFor (iSeq (eLc [11] (iSeq (eV 8)) (bName 11) (eBin oGt (eV 11) (eC (.int 0))) (eV 11))) (bName 9) B0_law) (sIf (eOr (eBin oLt (eCall 3 m_count_long (aCons (eV 4) (aCons (eV 5) (aCons (eV 6) aNil)))) (eC (.int 1))) (eUn oNot (eCall 3 m_law_refused_right (aBox 1 (aCons (eV 4) (aCons (eV 5) aNil)))))) (sRet (eC (.bool false))) sNil))))))))
def B2_law : Env' → T Fl := (sSeq (sSet 3 (eBin oAdd (eC (.int 2)) (eCall 2 m_law_dip (aBox 1 (aCons (eC (.int 2)) aNil))))) (sSeq (sUnp (bTup [4, 5]) (eTup (aCons (eCall 2 m_law_box (aBox 1 (aCons (eV 3) aNil))) (aCons (eCall 2 m_law_direction (aBox 1 (aCons (eV 3) aNil))) aNil)))) (sSeq (sSet 10 (eLc [12] (iSeq (eCall 2 m_law_firsts (aCons (eV 4) (aCons (eV 5) aNil)))) (bName 12) tTrue (eCb oLen (aCons (eCall 3 m_law_walk (aCons (eV 4) (aCons (eV 5) (aCons (eV 12) aNil)))) aNil)))) (sSeq (sIf (eBin oNe (eCb (o1 oRepr) (aCons (eLst (aCons (eCall 2 m_count_lines (aCons (eV 4) (aCons (eV 5) aNil))) (aCons (eCall 2 m_longest_line (aCons (eV 4) (aCons (eV 5) aNil))) aNil))) aNil)) (eCb (o1 oRepr) (aCons (eLst (aCons (eCb oLen (aCons (eV 10) aNil)) (aCons (eCb (o1 oMaxL) (aCons (eV 10) aNil)) aNil))) aNil))) (sRet (eC (.bool false))) sNil) (sSeq (sSet 7 (eLc [9] (iArg oRng2 (aCons (eC (.int 1)) (aCons (eC (.int 10)) aNil))) (bName 9) tTrue (eCb oLen (aCons (eLc [13] (iSeq (eV 10)) (bName 13) (eBin oGe (eV 13) (eV 9)) (eV 13)) aNil)))) (sIf (eBin oNe (eCb (o1 oRepr) (aCons (eLc [9] (iArg oRng2 (aCons (eC (.int 1)) (aCons (eC (.int 10)) aNil))) (bName 9) tTrue (eCall 3 m_count_long (aCons (eV 4) (aCons (eV 5) (aCons (eV 9) aNil))))) aNil)) (eCb (o1 oRepr) (aCons (eV 7) aNil))) (sRet (eC (.bool false))) sNil))))))
def R_law : Env' → T D := (eBin oEq (eCall 2 m_count_lines (aCons (eTup (aCons (eBin oPow (eC (.int 10)) (eC (.int 9))) (aCons (eBin oPow (eC (.int 10)) (eC (.int 9))) aNil))) (aCons (eTup (aCons (eC (.int 1)) (aCons (eUn oNeg (eC (.int 1))) aNil))) aNil))) (eBin oSub (eBin oMul (eC (.int 2)) (eBin oPow (eC (.int 10)) (eC (.int 9)))) (eC (.int 1))))
def F_law : Env' → T Fl := (sSeq (sFor (iArg oRng1 (aCons (eC (.int 10)) aNil)) (bName 2) B1_law) (sSeq (sFor (iArg oRng1 (aCons (eC (.int 3)) aNil)) (bName 2) B2_law) (sRet R_law)))
abbrev spL (TB : List (Addr × Str)) (K : PySem.W.Frag) : Sp := fun vs H Q _ => ∃ (a : Addr) (ns : List Int), vs = [.ref a] ∧ SqL K H a (ns.map V.int) ∧ ns.length ≤ 63 ∧ LamX.Tabs TB H ∧ ∀ H', Q (.bl true) H'
theorem ok_law {P : Program} {w : World} {K : PySem.W.Frag} {mg : Str → Option Value} {base : Heap} {cad : Cad} {fa fO : Addr} {fd fdO : FuncData} (Fu : Fun K "law" "law" St_law fa fd) (FO : FnG P w K mg base 1 fO fdO ["_law_script"] (spSpring K)) (gO : mg "_law_spring" = some (.ref fO)) (kO : PySem.W.keepIn K (.ref fO) = true) (BO : Binds K fdO ["_law_script"] []) (C_law_dip : Cal P w K mg base cad "_law_dip" 1 2 m_law_dip) (C_law_direction : Cal P w K mg base cad "_law_direction" 4 2 m_law_direction) (C_law_pick : Cal P w K mg base cad "_law_pick" 2 2 m_law_pick) (C_law_box : Cal P w K mg base cad "_law_box" 2 2 m_law_box) (C_law_great : Cal P w K mg base cad "_law_great" 3 2 m_law_great) (C_law_longest : Cal P w K mg base cad "_law_longest" 2 2 m_law_longest) (C_law_inner : Cal P w K mg base cad "_law_inner" 2 3 m_law_inner) (C_longest_line : Cal P w K mg base cad "longest_line" 6 2 m_longest_line) (C_count_lines : Cal P w K mg base cad "count_lines" 6 2 m_count_lines) (C_law_far : Cal P w K mg base cad "_law_far" 2 2 m_law_far) (C_count_long : Cal P w K mg base cad "count_long" 6 3 m_count_long) (C_law_refused_right : Cal P w K mg base cad "_law_refused_right" 14 3 m_law_refused_right) (C_law_firsts : Cal P w K mg base cad "_law_firsts" 3 2 m_law_firsts) (C_law_walk : Cal P w K mg base cad "_law_walk" 3 3 m_law_walk) (b_range : mg "range" = none) (b_len : mg "len" = none) (b_repr : mg "repr" = none) (b_max : mg "max" = none)
    {TB : List (Addr × Str)} (hbx : ∀ (β : Box) (v : V), boxIs false β v → β.tabs = TB → cad.bx β) (hF : (F_law ([Sl.no, .box false] ++ List.replicate 12 .no)).run.wp (fun d => d = .bool true) (fun _ => False)) : FnG P w K mg base 15 fa fd ["_law_script"] (spL TB K) :=
  FnG.lawT (TB := TB) (cad := cad) (k0 := false) (F := F_law) (N := N_law) Fu sc_law rfl (by decide) hbx spring_opens
    (fun cdv A outer s H E hr hgu => ps_set (i := 1) sc_law.nd rfl (by first | exact .inl rfl | exact .inr rfl) (pe_callG FO (hr.mono (by decide)) hgu (by rfl) gO kO BO .nil takes0 (pa_cons (pv 0) pa_nil)))
    (fun cdv A outer s H E hr hgu => (ss_cons (s_for (b_name (K := K)) (ps_for (passes_of rfl) rfl (i_rng1 (by rfl) b_range (a_cons r_int a_nil)) (pg_name (i := 2) sc_law.nd rfl (by first | exact .inl rfl | exact .inr rfl)) (ss_cons (s_set (ps_set (i := 3) sc_law.nd rfl (by first | exact .inl rfl | exact .inr rfl) (r_op op_addD d_add r_int (r_cal C_law_dip hr (by first | decide | omega) hgu (by rfl) (takes_of rfl rfl rfl rfl) (a_box (i := 1) (pv 1) (a_cons r_int a_nil)))))) (ss_cons (s_unp (is := [4, 5]) rfl (ps_asg (r_tup (a_cons (r_cal C_law_pick hr (by first | decide | omega) hgu (by rfl) (takes_of rfl rfl rfl rfl) (a_box (i := 1) (pv 1) (a_cons (r_lst (a_cons (r_cal C_law_great hr (by first | decide | omega) hgu (by rfl) (takes_of rfl rfl rfl rfl) (a_box (i := 1) (pv 1) (a_cons (r_v 3 (pv 3)) a_nil))) (a_cons (r_cal C_law_box hr (by first | decide | omega) hgu (by rfl) (takes_of rfl rfl rfl rfl) (a_box (i := 1) (pv 1) (a_cons (r_v 3 (pv 3)) a_nil))) a_nil))) a_nil))) (a_cons (r_cal C_law_direction hr (by first | decide | omega) hgu (by rfl) (takes_of rfl rfl rfl rfl) (a_box (i := 1) (pv 1) (a_cons (r_v 3 (pv 3)) a_nil))) a_nil))) (pg_tup rfl (pgs_cons (pg_name (i := 4) sc_law.nd rfl (by first | exact .inl rfl | exact .inr rfl)) (pgs_cons (pg_name (i := 5) sc_law.nd rfl (by first | exact .inl rfl | exact .inr rfl)) pgs_nil))))) (ss_cons (s_set (ps_set (i := 6) sc_law.nd rfl (by first | exact .inl rfl | exact .inr rfl) (r_cal C_law_longest hr (by first | decide | omega) hgu (by rfl) (takes_of rfl rfl rfl rfl) (a_cons (r_v 4 (pv 4)) (a_cons (r_v 5 (pv 5)) a_nil))))) (ss_cons (s_set (ps_set (i := 7) sc_law.nd rfl (by first | exact .inl rfl | exact .inr rfl) (r_lst (a_cons (r_op op_sub d_sub (r_cal C_law_inner hr (by first | decide | omega) hgu (by rfl) (takes_of rfl rfl rfl rfl) (a_cons (r_v 4 (pv 4)) (a_cons (r_v 5 (pv 5)) (a_cons r_int a_nil)))) (r_cal C_law_inner hr (by first | decide | omega) hgu (by rfl) (takes_of rfl rfl rfl rfl) (a_cons (r_v 4 (pv 4)) (a_cons (r_v 5 (pv 5)) (a_cons r_int a_nil))))) (a_cons (r_v 6 (pv 6)) a_nil))))) (ss_cons (s_if (q_cmp (op_neW hr.units) d_ne (r_lst (a_cons (r_cal C_count_lines hr (by first | decide | omega) hgu (by rfl) (takes_of rfl rfl rfl rfl) (a_cons (r_v 4 (pv 4)) (a_cons (r_v 5 (pv 5)) a_nil))) (a_cons (r_cal C_longest_line hr (by first | decide | omega) hgu (by rfl) (takes_of rfl rfl rfl rfl) (a_cons (r_v 4 (pv 4)) (a_cons (r_v 5 (pv 5)) a_nil))) a_nil))) (r_v 7 (pv 7)) (nomark _)) (ss_one (s_ret r_bl)) ss_nil) (ss_cons (s_set (ps_set (i := 8) sc_law.nd rfl (by first | exact .inl rfl | exact .inr rfl) (r_lst (a_cons r_int (a_cons r_int (a_cons r_int (a_cons (r_op op_sub d_sub (r_v 6 (pv 6)) r_int) (a_cons (r_v 6 (pv 6)) (a_cons (r_op op_addD d_add (r_v 6 (pv 6)) r_int) (a_cons (r_op op_fdivD d_fdiv (r_v 6 (pv 6)) r_int) (a_cons (r_cal C_law_far hr (by first | decide | omega) hgu (by rfl) (takes_of rfl rfl rfl rfl) (a_box (i := 1) (pv 1) (a_cons (r_v 6 (pv 6)) a_nil))) (a_cons (r_op op_pow d_pow r_int r_int) a_nil)))))))))))) (ss_cons (s_for (b_name (K := K)) (ps_for (passes_of rfl) rfl (i_seq (r_lc (own := [("_law_item", 11)]) rfl sc_law.nd (i_seq (r_v 8 (pv 8))) (blkOk_by (N := N_law) (sc := defScope St_law) (by decide +kernel)) (fun _ _ _ _ _ => (g_name (pg_name (i := 11) sc_law.nd rfl (by first | exact .inl rfl | exact .inr rfl)))) (fun _ _ _ _ _ => (pts_if (q_cmp op_gt d_cmp (r_v 11 (pv 11)) r_int (nomark _)))) (fun _ _ _ _ _ => (r_v 11 (pv 11))) (by decide))) (pg_name (i := 9) sc_law.nd rfl (by first | exact .inl rfl | exact .inr rfl)) (ss_one (s_if (q_cmp (op_neW hr.units) d_ne (r_cal C_count_long hr (by first | decide | omega) hgu (by rfl) (takes_of rfl rfl rfl rfl) (a_cons (r_v 4 (pv 4)) (a_cons (r_v 5 (pv 5)) (a_cons (r_v 9 (pv 9)) a_nil)))) (r_op op_sub d_sub (r_cal C_law_inner hr (by first | decide | omega) hgu (by rfl) (takes_of rfl rfl rfl rfl) (a_cons (r_v 4 (pv 4)) (a_cons (r_v 5 (pv 5)) (a_cons (r_op op_sub d_sub (r_v 9 (pv 9)) r_int) a_nil)))) (r_cal C_law_inner hr (by first | decide | omega) hgu (by rfl) (takes_of rfl rfl rfl rfl) (a_cons (r_v 4 (pv 4)) (a_cons (r_v 5 (pv 5)) (a_cons (r_v 9 (pv 9)) a_nil))))) (nomark _)) (ss_one (s_ret r_bl)) ss_nil)))) (ss_one (s_if (q_or (q_cmp op_lt d_cmp (r_cal C_count_long hr (by first | decide | omega) hgu (by rfl) (takes_of rfl rfl rfl rfl) (a_cons (r_v 4 (pv 4)) (a_cons (r_v 5 (pv 5)) (a_cons (r_v 6 (pv 6)) a_nil)))) r_int (nomark _)) (q_or1 (q_not (q_val (r_cal C_law_refused_right hr (by first | decide | omega) hgu (by rfl) (takes_of rfl rfl rfl rfl) (a_box (i := 1) (pv 1) (a_cons (r_v 4 (pv 4)) (a_cons (r_v 5 (pv 5)) a_nil)))))))).pt (ss_one (s_ret r_bl)) ss_nil))))))))))) (ss_cons (s_for (b_name (K := K)) (ps_for (passes_of rfl) rfl (i_rng1 (by rfl) b_range (a_cons r_int a_nil)) (pg_name (i := 2) sc_law.nd rfl (by first | exact .inl rfl | exact .inr rfl)) (ss_cons (s_set (ps_set (i := 3) sc_law.nd rfl (by first | exact .inl rfl | exact .inr rfl) (r_op op_addD d_add r_int (r_cal C_law_dip hr (by first | decide | omega) hgu (by rfl) (takes_of rfl rfl rfl rfl) (a_box (i := 1) (pv 1) (a_cons r_int a_nil)))))) (ss_cons (s_unp (is := [4, 5]) rfl (ps_asg (r_tup (a_cons (r_cal C_law_box hr (by first | decide | omega) hgu (by rfl) (takes_of rfl rfl rfl rfl) (a_box (i := 1) (pv 1) (a_cons (r_v 3 (pv 3)) a_nil))) (a_cons (r_cal C_law_direction hr (by first | decide | omega) hgu (by rfl) (takes_of rfl rfl rfl rfl) (a_box (i := 1) (pv 1) (a_cons (r_v 3 (pv 3)) a_nil))) a_nil))) (pg_tup rfl (pgs_cons (pg_name (i := 4) sc_law.nd rfl (by first | exact .inl rfl | exact .inr rfl)) (pgs_cons (pg_name (i := 5) sc_law.nd rfl (by first | exact .inl rfl | exact .inr rfl)) pgs_nil))))) (ss_cons (s_set (ps_set (i := 10) sc_law.nd rfl (by first | exact .inl rfl | exact .inr rfl) (r_lc (own := [("_law_first", 12)]) rfl sc_law.nd (i_seq (r_cal C_law_firsts hr (by first | decide | omega) hgu (by rfl) (takes_of rfl rfl rfl rfl) (a_cons (r_v 4 (pv 4)) (a_cons (r_v 5 (pv 5)) a_nil)))) (blkOk_by (N := N_law) (sc := defScope St_law) (by decide +kernel)) (fun _ _ _ _ _ => (g_name (pg_name (i := 12) sc_law.nd rfl (by first | exact .inl rfl | exact .inr rfl)))) (fun _ _ _ _ _ => pts_yes) (fun _ _ _ _ _ => (r_b call_len_seq d_len (by rfl) b_len (by decide +kernel) (a_cons (r_cal C_law_walk hr (by first | decide | omega) hgu (by rfl) takes0 (a_cons (r_v 4 (pv 4)) (a_cons (r_v 5 (pv 5)) (a_cons (r_v 12 (pv 12)) a_nil)))) a_nil))) (by decide)))) (ss_cons (s_if (q_cmp (op_neW hr.units) d_ne (r_b (call_repr hgu (un200 hr)) d_repr (by rfl) b_repr (by decide +kernel) (a_cons (r_lst (a_cons (r_cal C_count_lines hr (by first | decide | omega) hgu (by rfl) (takes_of rfl rfl rfl rfl) (a_cons (r_v 4 (pv 4)) (a_cons (r_v 5 (pv 5)) a_nil))) (a_cons (r_cal C_longest_line hr (by first | decide | omega) hgu (by rfl) (takes_of rfl rfl rfl rfl) (a_cons (r_v 4 (pv 4)) (a_cons (r_v 5 (pv 5)) a_nil))) a_nil))) a_nil)) (r_b (call_repr hgu (un200 hr)) d_repr (by rfl) b_repr (by decide +kernel) (a_cons (r_lst (a_cons (r_b call_len_seq d_len (by rfl) b_len (by decide +kernel) (a_cons (r_v 10 (pv 10)) a_nil)) (a_cons (r_b (cr_max rfl) d_maxL (by rfl) b_max (by decide +kernel) (a_cons (r_v 10 (pv 10)) a_nil)) a_nil))) a_nil)) (nomark _)) (ss_one (s_ret r_bl)) ss_nil) (ss_cons (s_setLc (ps_setLc (i := 7) (own := [("_law_many", 9)]) rfl sc_law.nd rfl rfl (by rfl) (i_rng2 (by rfl) b_range (a_cons r_int (a_cons r_int a_nil))) (blkOk_by (N := N_law) (sc := defScope St_law) (by decide +kernel)) (fun _ _ _ _ _ => (g_name (pg_name (i := 9) sc_law.nd rfl (by first | exact .inl rfl | exact .inr rfl)))) (fun _ _ _ _ _ => pts_yes) (fun _ _ _ _ _ => (r_b call_len_seq d_len (by rfl) b_len (by decide +kernel) (a_cons (r_lc (own := [("_law_row", 13)]) rfl sc_law.nd (i_seq (r_v 10 (pv 10))) (blkOk_by (N := N_law) (sc := (relS _ (defScope St_law))) (by decide +kernel)) (fun _ _ _ _ _ => (g_name (pg_name (i := 13) sc_law.nd rfl (by first | exact .inl rfl | exact .inr rfl)))) (fun _ _ _ _ _ => (pts_if (q_cmp op_ge d_cmp (r_v 13 (pv 13)) (r_v 9 (pv 9)) (nomark _)))) (fun _ _ _ _ _ => (r_v 13 (pv 13))) (by decide)) a_nil)))) (by decide)) (ss_one (s_if (q_cmp (op_neW hr.units) d_ne (r_b (call_repr hgu (un200 hr)) d_repr (by rfl) b_repr (by decide +kernel) (a_cons (r_lc (own := [("_law_many", 9)]) rfl sc_law.nd (i_rng2 (by rfl) b_range (a_cons r_int (a_cons r_int a_nil))) (blkOk_by (N := N_law) (sc := defScope St_law) (by decide +kernel)) (fun _ _ _ _ _ => (g_name (pg_name (i := 9) sc_law.nd rfl (by first | exact .inl rfl | exact .inr rfl)))) (fun _ _ _ _ _ => pts_yes) (fun _ _ _ _ _ => (r_cal C_count_long hr (by first | decide | omega) hgu (by rfl) takes0 (a_cons (r_v 4 (pv 4)) (a_cons (r_v 5 (pv 5)) (a_cons (r_v 9 (pv 9)) a_nil))))) (by decide)) a_nil)) (r_b (call_repr hgu (un200 hr)) d_repr (by rfl) b_repr (by decide +kernel) (a_cons (r_v 7 (pv 7)) a_nil)) (nomark _)) (ss_one (s_ret r_bl)) ss_nil))))))))) (ss_one (s_ret (r_cmp (op_eqW hr.units) d_eq (r_cal C_count_lines hr (by first | decide | omega) hgu (by rfl) (takes_of rfl rfl rfl rfl) (a_cons (r_tup (a_cons (r_op op_pow d_pow r_int r_int) (a_cons (r_op op_pow d_pow r_int r_int) a_nil))) (a_cons (r_tup (a_cons r_int (a_cons (r_un un_neg d_neg r_int) a_nil))) a_nil))) (r_op op_sub d_sub (r_op op_mulD d_mul r_int (r_op op_pow d_pow r_int r_int)) r_int) (nomark _))))))) hF
abbrev In_BadDirection : Stmt := (inClass (topS 4) 0)
theorem si_BadDirection : FnScope [("self" : Str), "direction"] [("self" : Str), "direction"] (defScope In_BadDirection) := ⟨rfl, rfl, rfl, by decide +kernel, rfl, by decide +kernel, by decide +kernel⟩
abbrev In_NoCount : Stmt := (inClass (topS 5) 0)
theorem si_NoCount : FnScope [("self" : Str), "many"] [("self" : Str), "many"] (defScope In_NoCount) := ⟨rfl, rfl, rfl, by decide +kernel, rfl, by decide +kernel, by decide +kernel⟩
theorem all_mk {l : PySem.W.OpenLaw} {w : World} {K : PySem.W.Frag} {h : Heap} {mg : Str → Option Value} {fa : Addr}
    {f_is_integer : Addr} {od_is_integer an_is_integer : Option Addr} {sl_is_integer : Array (Option Value)} {oc_is_integer kV_is_integer dc_is_integer pm_is_integer cd_is_integer ct_is_integer : Value}
    {f_is_within : Addr} {od_is_within an_is_within : Option Addr} {sl_is_within : Array (Option Value)} {oc_is_within kV_is_within dc_is_within pm_is_within cd_is_within ct_is_within : Value}
    {f_is_bounded : Addr} {od_is_bounded an_is_bounded : Option Addr} {sl_is_bounded : Array (Option Value)} {oc_is_bounded kV_is_bounded dc_is_bounded pm_is_bounded cd_is_bounded ct_is_bounded : Value}
    {f_count_points : Addr} {od_count_points an_count_points : Option Addr} {sl_count_points : Array (Option Value)} {oc_count_points kV_count_points dc_count_points pm_count_points cd_count_points ct_count_points : Value}
    {f_common_divisor : Addr} {od_common_divisor an_common_divisor : Option Addr} {sl_common_divisor : Array (Option Value)} {oc_common_divisor kV_common_divisor dc_common_divisor pm_common_divisor cd_common_divisor ct_common_divisor : Value}
    {f_is_direction : Addr} {od_is_direction an_is_direction : Option Addr} {sl_is_direction : Array (Option Value)} {oc_is_direction kV_is_direction dc_is_direction pm_is_direction cd_is_direction ct_is_direction : Value}
    {f_check_direction : Addr} {od_check_direction an_check_direction : Option Addr} {sl_check_direction : Array (Option Value)} {oc_check_direction kV_check_direction dc_check_direction pm_check_direction cd_check_direction ct_check_direction : Value}
    {f_count_staying : Addr} {od_count_staying an_count_staying : Option Addr} {sl_count_staying : Array (Option Value)} {oc_count_staying kV_count_staying dc_count_staying pm_count_staying cd_count_staying ct_count_staying : Value}
    {f_greatest_step : Addr} {od_greatest_step an_greatest_step : Option Addr} {sl_greatest_step : Array (Option Value)} {oc_greatest_step kV_greatest_step dc_greatest_step pm_greatest_step cd_greatest_step ct_greatest_step : Value}
    {f_count_lines : Addr} {od_count_lines an_count_lines : Option Addr} {sl_count_lines : Array (Option Value)} {oc_count_lines kV_count_lines dc_count_lines pm_count_lines cd_count_lines ct_count_lines : Value}
    {f_longest_line : Addr} {od_longest_line an_longest_line : Option Addr} {sl_longest_line : Array (Option Value)} {oc_longest_line kV_longest_line dc_longest_line pm_longest_line cd_longest_line ct_longest_line : Value}
    {f_count_long : Addr} {od_count_long an_count_long : Option Addr} {sl_count_long : Array (Option Value)} {oc_count_long kV_count_long dc_count_long pm_count_long cd_count_long ct_count_long : Value}
    {f_law_spring : Addr} {od_law_spring an_law_spring : Option Addr} {sl_law_spring : Array (Option Value)} {oc_law_spring kV_law_spring dc_law_spring pm_law_spring cd_law_spring ct_law_spring : Value}
    {f_law_dip : Addr} {od_law_dip an_law_dip : Option Addr} {sl_law_dip : Array (Option Value)} {oc_law_dip kV_law_dip dc_law_dip pm_law_dip cd_law_dip ct_law_dip : Value}
    {f_law_pick : Addr} {od_law_pick an_law_pick : Option Addr} {sl_law_pick : Array (Option Value)} {oc_law_pick kV_law_pick dc_law_pick pm_law_pick cd_law_pick ct_law_pick : Value}
    {f_law_far : Addr} {od_law_far an_law_far : Option Addr} {sl_law_far : Array (Option Value)} {oc_law_far kV_law_far dc_law_far pm_law_far cd_law_far ct_law_far : Value}
    {f_law_gcd : Addr} {od_law_gcd an_law_gcd : Option Addr} {sl_law_gcd : Array (Option Value)} {oc_law_gcd kV_law_gcd dc_law_gcd pm_law_gcd cd_law_gcd ct_law_gcd : Value}
    {f_law_share : Addr} {od_law_share an_law_share : Option Addr} {sl_law_share : Array (Option Value)} {oc_law_share kV_law_share dc_law_share pm_law_share cd_law_share ct_law_share : Value}
    {f_law_direction : Addr} {od_law_direction an_law_direction : Option Addr} {sl_law_direction : Array (Option Value)} {oc_law_direction kV_law_direction dc_law_direction pm_law_direction cd_law_direction ct_law_direction : Value}
    {f_law_box : Addr} {od_law_box an_law_box : Option Addr} {sl_law_box : Array (Option Value)} {oc_law_box kV_law_box dc_law_box pm_law_box cd_law_box ct_law_box : Value}
    {f_law_great : Addr} {od_law_great an_law_great : Option Addr} {sl_law_great : Array (Option Value)} {oc_law_great kV_law_great dc_law_great pm_law_great cd_law_great ct_law_great : Value}
    {f_law_on : Addr} {od_law_on an_law_on : Option Addr} {sl_law_on : Array (Option Value)} {oc_law_on kV_law_on dc_law_on pm_law_on cd_law_on ct_law_on : Value}
    {f_law_inside : Addr} {od_law_inside an_law_inside : Option Addr} {sl_law_inside : Array (Option Value)} {oc_law_inside kV_law_inside dc_law_inside pm_law_inside cd_law_inside ct_law_inside : Value}
    {f_law_points : Addr} {od_law_points an_law_points : Option Addr} {sl_law_points : Array (Option Value)} {oc_law_points kV_law_points dc_law_points pm_law_points cd_law_points ct_law_points : Value}
    {f_law_walk : Addr} {od_law_walk an_law_walk : Option Addr} {sl_law_walk : Array (Option Value)} {oc_law_walk kV_law_walk dc_law_walk pm_law_walk cd_law_walk ct_law_walk : Value}
    {f_law_firsts : Addr} {od_law_firsts an_law_firsts : Option Addr} {sl_law_firsts : Array (Option Value)} {oc_law_firsts kV_law_firsts dc_law_firsts pm_law_firsts cd_law_firsts ct_law_firsts : Value}
    {f_law_whole : Addr} {od_law_whole an_law_whole : Option Addr} {sl_law_whole : Array (Option Value)} {oc_law_whole kV_law_whole dc_law_whole pm_law_whole cd_law_whole ct_law_whole : Value}
    {f_law_vector : Addr} {od_law_vector an_law_vector : Option Addr} {sl_law_vector : Array (Option Value)} {oc_law_vector kV_law_vector dc_law_vector pm_law_vector cd_law_vector ct_law_vector : Value}
    {f_law_is_direction : Addr} {od_law_is_direction an_law_is_direction : Option Addr} {sl_law_is_direction : Array (Option Value)} {oc_law_is_direction kV_law_is_direction dc_law_is_direction pm_law_is_direction cd_law_is_direction ct_law_is_direction : Value}
    {f_law_odd : Addr} {od_law_odd an_law_odd : Option Addr} {sl_law_odd : Array (Option Value)} {oc_law_odd kV_law_odd dc_law_odd pm_law_odd cd_law_odd ct_law_odd : Value}
    {f_law_bent : Addr} {od_law_bent an_law_bent : Option Addr} {sl_law_bent : Array (Option Value)} {oc_law_bent kV_law_bent dc_law_bent pm_law_bent cd_law_bent ct_law_bent : Value}
    {f_law_wrong : Addr} {od_law_wrong an_law_wrong : Option Addr} {sl_law_wrong : Array (Option Value)} {oc_law_wrong kV_law_wrong dc_law_wrong pm_law_wrong cd_law_wrong ct_law_wrong : Value}
    {f_law_inner : Addr} {od_law_inner an_law_inner : Option Addr} {sl_law_inner : Array (Option Value)} {oc_law_inner kV_law_inner dc_law_inner pm_law_inner cd_law_inner ct_law_inner : Value}
    {f_law_longest : Addr} {od_law_longest an_law_longest : Option Addr} {sl_law_longest : Array (Option Value)} {oc_law_longest kV_law_longest dc_law_longest pm_law_longest cd_law_longest ct_law_longest : Value}
    {f_law_told : Addr} {od_law_told an_law_told : Option Addr} {sl_law_told : Array (Option Value)} {oc_law_told kV_law_told dc_law_told pm_law_told cd_law_told ct_law_told : Value}
    {f_law_refused_right : Addr} {od_law_refused_right an_law_refused_right : Option Addr} {sl_law_refused_right : Array (Option Value)} {oc_law_refused_right kV_law_refused_right dc_law_refused_right pm_law_refused_right ct_law_refused_right : Value}
    {cA_law_refused_right tA_law_refused_right : Addr} {eC_law_refused_right : Value} {dC_law_refused_right : Option Addr} {vC_law_refused_right : Array Value} {sC_law_refused_right : Array (Option Value)}
    {f_law : Addr} {od_law an_law : Option Addr} {sl_law : Array (Option Value)} {oc_law kV_law dc_law pm_law cd_law ct_law : Value}
    {tok_MAX_DIST : Tok}
    {A_BadDirection : Addr}
    {A_NoCount : Addr}
    {I_BadDirection N_BadDirection : Addr} {nm_BadDirection qq_BadDirection : Str} {bs_BadDirection bm_BadDirection sub_BadDirection : List Value} {sn_BadDirection : List Str} {ab_BadDirection : Bool} {col_BadDirection : Option Bool} {dd_BadDirection od_BadDirection an_BadDirection : Option Addr} {m0_BadDirection m1_BadDirection m2_BadDirection m3_BadDirection m5_BadDirection : Option Value} {sl_BadDirection : Array (Option Value)} {oc_BadDirection kV_BadDirection dc_BadDirection pm_BadDirection cd_BadDirection ct_BadDirection : Value}
    {I_NoCount N_NoCount : Addr} {nm_NoCount qq_NoCount : Str} {bs_NoCount bm_NoCount sub_NoCount : List Value} {sn_NoCount : List Str} {ab_NoCount : Bool} {col_NoCount : Option Bool} {dd_NoCount od_NoCount an_NoCount : Option Addr} {m0_NoCount m1_NoCount m2_NoCount m3_NoCount m5_NoCount : Option Value} {sl_NoCount : Array (Option Value)} {oc_NoCount kV_NoCount dc_NoCount pm_NoCount cd_NoCount ct_NoCount : Value}
    (X : K.In h) (G : h.Ns mainGlobals mg) (hfa : mg "law" = some (.ref fa)) (tf_law_refused_right : TabFact mg h "_law_refused_right")
    (a_is_integer : PySem.W.nsIn K mainGlobals "is_integer" = some (some (.ref f_is_integer)))
    (l_is_integer : K.lookup f_is_integer = some ⟨oc_is_integer, od_is_integer, .func (PySem.W.fnOf "is_integer" "is_integer" (defArgs St_is_integer) (defBody St_is_integer) (defScope St_is_integer) .none kV_is_integer dc_is_integer pm_is_integer an_is_integer cd_is_integer ct_is_integer), sl_is_integer⟩)
    (c_is_integer : PySem.W.codeIn K cd_is_integer "is_integer" = true)
    (k_is_integer : PySem.W.keepIn K (.ref f_is_integer) = true)
    (a_is_within : PySem.W.nsIn K mainGlobals "is_within" = some (some (.ref f_is_within)))
    (l_is_within : K.lookup f_is_within = some ⟨oc_is_within, od_is_within, .func (PySem.W.fnOf "is_within" "is_within" (defArgs St_is_within) (defBody St_is_within) (defScope St_is_within) .none kV_is_within dc_is_within pm_is_within an_is_within cd_is_within ct_is_within), sl_is_within⟩)
    (c_is_within : PySem.W.codeIn K cd_is_within "is_within" = true)
    (k_is_within : PySem.W.keepIn K (.ref f_is_within) = true)
    (a_is_bounded : PySem.W.nsIn K mainGlobals "is_bounded" = some (some (.ref f_is_bounded)))
    (l_is_bounded : K.lookup f_is_bounded = some ⟨oc_is_bounded, od_is_bounded, .func (PySem.W.fnOf "is_bounded" "is_bounded" (defArgs St_is_bounded) (defBody St_is_bounded) (defScope St_is_bounded) .none kV_is_bounded dc_is_bounded pm_is_bounded an_is_bounded cd_is_bounded ct_is_bounded), sl_is_bounded⟩)
    (c_is_bounded : PySem.W.codeIn K cd_is_bounded "is_bounded" = true)
    (k_is_bounded : PySem.W.keepIn K (.ref f_is_bounded) = true)
    (a_count_points : PySem.W.nsIn K mainGlobals "count_points" = some (some (.ref f_count_points)))
    (l_count_points : K.lookup f_count_points = some ⟨oc_count_points, od_count_points, .func (PySem.W.fnOf "count_points" "count_points" (defArgs St_count_points) (defBody St_count_points) (defScope St_count_points) .none kV_count_points dc_count_points pm_count_points an_count_points cd_count_points ct_count_points), sl_count_points⟩)
    (c_count_points : PySem.W.codeIn K cd_count_points "count_points" = true)
    (k_count_points : PySem.W.keepIn K (.ref f_count_points) = true)
    (a_common_divisor : PySem.W.nsIn K mainGlobals "common_divisor" = some (some (.ref f_common_divisor)))
    (l_common_divisor : K.lookup f_common_divisor = some ⟨oc_common_divisor, od_common_divisor, .func (PySem.W.fnOf "common_divisor" "common_divisor" (defArgs St_common_divisor) (defBody St_common_divisor) (defScope St_common_divisor) .none kV_common_divisor dc_common_divisor pm_common_divisor an_common_divisor cd_common_divisor ct_common_divisor), sl_common_divisor⟩)
    (c_common_divisor : PySem.W.codeIn K cd_common_divisor "common_divisor" = true)
    (k_common_divisor : PySem.W.keepIn K (.ref f_common_divisor) = true)
    (a_is_direction : PySem.W.nsIn K mainGlobals "is_direction" = some (some (.ref f_is_direction)))
    (l_is_direction : K.lookup f_is_direction = some ⟨oc_is_direction, od_is_direction, .func (PySem.W.fnOf "is_direction" "is_direction" (defArgs St_is_direction) (defBody St_is_direction) (defScope St_is_direction) .none kV_is_direction dc_is_direction pm_is_direction an_is_direction cd_is_direction ct_is_direction), sl_is_direction⟩)
    (c_is_direction : PySem.W.codeIn K cd_is_direction "is_direction" = true)
    (k_is_direction : PySem.W.keepIn K (.ref f_is_direction) = true)
    (a_check_direction : PySem.W.nsIn K mainGlobals "check_direction" = some (some (.ref f_check_direction)))
    (l_check_direction : K.lookup f_check_direction = some ⟨oc_check_direction, od_check_direction, .func (PySem.W.fnOf "check_direction" "check_direction" (defArgs St_check_direction) (defBody St_check_direction) (defScope St_check_direction) .none kV_check_direction dc_check_direction pm_check_direction an_check_direction cd_check_direction ct_check_direction), sl_check_direction⟩)
    (c_check_direction : PySem.W.codeIn K cd_check_direction "check_direction" = true)
    (k_check_direction : PySem.W.keepIn K (.ref f_check_direction) = true)
    (a_count_staying : PySem.W.nsIn K mainGlobals "count_staying" = some (some (.ref f_count_staying)))
    (l_count_staying : K.lookup f_count_staying = some ⟨oc_count_staying, od_count_staying, .func (PySem.W.fnOf "count_staying" "count_staying" (defArgs St_count_staying) (defBody St_count_staying) (defScope St_count_staying) .none kV_count_staying dc_count_staying pm_count_staying an_count_staying cd_count_staying ct_count_staying), sl_count_staying⟩)
    (c_count_staying : PySem.W.codeIn K cd_count_staying "count_staying" = true)
    (k_count_staying : PySem.W.keepIn K (.ref f_count_staying) = true)
    (a_greatest_step : PySem.W.nsIn K mainGlobals "greatest_step" = some (some (.ref f_greatest_step)))
    (l_greatest_step : K.lookup f_greatest_step = some ⟨oc_greatest_step, od_greatest_step, .func (PySem.W.fnOf "greatest_step" "greatest_step" (defArgs St_greatest_step) (defBody St_greatest_step) (defScope St_greatest_step) .none kV_greatest_step dc_greatest_step pm_greatest_step an_greatest_step cd_greatest_step ct_greatest_step), sl_greatest_step⟩)
    (c_greatest_step : PySem.W.codeIn K cd_greatest_step "greatest_step" = true)
    (k_greatest_step : PySem.W.keepIn K (.ref f_greatest_step) = true)
    (a_count_lines : PySem.W.nsIn K mainGlobals "count_lines" = some (some (.ref f_count_lines)))
    (l_count_lines : K.lookup f_count_lines = some ⟨oc_count_lines, od_count_lines, .func (PySem.W.fnOf "count_lines" "count_lines" (defArgs St_count_lines) (defBody St_count_lines) (defScope St_count_lines) .none kV_count_lines dc_count_lines pm_count_lines an_count_lines cd_count_lines ct_count_lines), sl_count_lines⟩)
    (c_count_lines : PySem.W.codeIn K cd_count_lines "count_lines" = true)
    (k_count_lines : PySem.W.keepIn K (.ref f_count_lines) = true)
    (a_longest_line : PySem.W.nsIn K mainGlobals "longest_line" = some (some (.ref f_longest_line)))
    (l_longest_line : K.lookup f_longest_line = some ⟨oc_longest_line, od_longest_line, .func (PySem.W.fnOf "longest_line" "longest_line" (defArgs St_longest_line) (defBody St_longest_line) (defScope St_longest_line) .none kV_longest_line dc_longest_line pm_longest_line an_longest_line cd_longest_line ct_longest_line), sl_longest_line⟩)
    (c_longest_line : PySem.W.codeIn K cd_longest_line "longest_line" = true)
    (k_longest_line : PySem.W.keepIn K (.ref f_longest_line) = true)
    (a_count_long : PySem.W.nsIn K mainGlobals "count_long" = some (some (.ref f_count_long)))
    (l_count_long : K.lookup f_count_long = some ⟨oc_count_long, od_count_long, .func (PySem.W.fnOf "count_long" "count_long" (defArgs St_count_long) (defBody St_count_long) (defScope St_count_long) .none kV_count_long dc_count_long pm_count_long an_count_long cd_count_long ct_count_long), sl_count_long⟩)
    (c_count_long : PySem.W.codeIn K cd_count_long "count_long" = true)
    (k_count_long : PySem.W.keepIn K (.ref f_count_long) = true)
    (a_law_spring : PySem.W.nsIn K mainGlobals "_law_spring" = some (some (.ref f_law_spring)))
    (l_law_spring : K.lookup f_law_spring = some ⟨oc_law_spring, od_law_spring, .func (PySem.W.fnOf "_law_spring" "_law_spring" (defArgs St_law_spring) (defBody St_law_spring) (defScope St_law_spring) .none kV_law_spring dc_law_spring pm_law_spring an_law_spring cd_law_spring ct_law_spring), sl_law_spring⟩)
    (c_law_spring : PySem.W.codeIn K cd_law_spring "_law_spring" = true)
    (k_law_spring : PySem.W.keepIn K (.ref f_law_spring) = true)
    (a_law_dip : PySem.W.nsIn K mainGlobals "_law_dip" = some (some (.ref f_law_dip)))
    (l_law_dip : K.lookup f_law_dip = some ⟨oc_law_dip, od_law_dip, .func (PySem.W.fnOf "_law_dip" "_law_dip" (defArgs St_law_dip) (defBody St_law_dip) (defScope St_law_dip) .none kV_law_dip dc_law_dip pm_law_dip an_law_dip cd_law_dip ct_law_dip), sl_law_dip⟩)
    (c_law_dip : PySem.W.codeIn K cd_law_dip "_law_dip" = true)
    (k_law_dip : PySem.W.keepIn K (.ref f_law_dip) = true)
    (a_law_pick : PySem.W.nsIn K mainGlobals "_law_pick" = some (some (.ref f_law_pick)))
    (l_law_pick : K.lookup f_law_pick = some ⟨oc_law_pick, od_law_pick, .func (PySem.W.fnOf "_law_pick" "_law_pick" (defArgs St_law_pick) (defBody St_law_pick) (defScope St_law_pick) .none kV_law_pick dc_law_pick pm_law_pick an_law_pick cd_law_pick ct_law_pick), sl_law_pick⟩)
    (c_law_pick : PySem.W.codeIn K cd_law_pick "_law_pick" = true)
    (k_law_pick : PySem.W.keepIn K (.ref f_law_pick) = true)
    (a_law_far : PySem.W.nsIn K mainGlobals "_law_far" = some (some (.ref f_law_far)))
    (l_law_far : K.lookup f_law_far = some ⟨oc_law_far, od_law_far, .func (PySem.W.fnOf "_law_far" "_law_far" (defArgs St_law_far) (defBody St_law_far) (defScope St_law_far) .none kV_law_far dc_law_far pm_law_far an_law_far cd_law_far ct_law_far), sl_law_far⟩)
    (c_law_far : PySem.W.codeIn K cd_law_far "_law_far" = true)
    (k_law_far : PySem.W.keepIn K (.ref f_law_far) = true)
    (a_law_gcd : PySem.W.nsIn K mainGlobals "_law_gcd" = some (some (.ref f_law_gcd)))
    (l_law_gcd : K.lookup f_law_gcd = some ⟨oc_law_gcd, od_law_gcd, .func (PySem.W.fnOf "_law_gcd" "_law_gcd" (defArgs St_law_gcd) (defBody St_law_gcd) (defScope St_law_gcd) .none kV_law_gcd dc_law_gcd pm_law_gcd an_law_gcd cd_law_gcd ct_law_gcd), sl_law_gcd⟩)
    (c_law_gcd : PySem.W.codeIn K cd_law_gcd "_law_gcd" = true)
    (k_law_gcd : PySem.W.keepIn K (.ref f_law_gcd) = true)
    (a_law_share : PySem.W.nsIn K mainGlobals "_law_share" = some (some (.ref f_law_share)))
    (l_law_share : K.lookup f_law_share = some ⟨oc_law_share, od_law_share, .func (PySem.W.fnOf "_law_share" "_law_share" (defArgs St_law_share) (defBody St_law_share) (defScope St_law_share) .none kV_law_share dc_law_share pm_law_share an_law_share cd_law_share ct_law_share), sl_law_share⟩)
    (c_law_share : PySem.W.codeIn K cd_law_share "_law_share" = true)
    (k_law_share : PySem.W.keepIn K (.ref f_law_share) = true)
    (a_law_direction : PySem.W.nsIn K mainGlobals "_law_direction" = some (some (.ref f_law_direction)))
    (l_law_direction : K.lookup f_law_direction = some ⟨oc_law_direction, od_law_direction, .func (PySem.W.fnOf "_law_direction" "_law_direction" (defArgs St_law_direction) (defBody St_law_direction) (defScope St_law_direction) .none kV_law_direction dc_law_direction pm_law_direction an_law_direction cd_law_direction ct_law_direction), sl_law_direction⟩)
    (c_law_direction : PySem.W.codeIn K cd_law_direction "_law_direction" = true)
    (k_law_direction : PySem.W.keepIn K (.ref f_law_direction) = true)
    (a_law_box : PySem.W.nsIn K mainGlobals "_law_box" = some (some (.ref f_law_box)))
    (l_law_box : K.lookup f_law_box = some ⟨oc_law_box, od_law_box, .func (PySem.W.fnOf "_law_box" "_law_box" (defArgs St_law_box) (defBody St_law_box) (defScope St_law_box) .none kV_law_box dc_law_box pm_law_box an_law_box cd_law_box ct_law_box), sl_law_box⟩)
    (c_law_box : PySem.W.codeIn K cd_law_box "_law_box" = true)
    (k_law_box : PySem.W.keepIn K (.ref f_law_box) = true)
    (a_law_great : PySem.W.nsIn K mainGlobals "_law_great" = some (some (.ref f_law_great)))
    (l_law_great : K.lookup f_law_great = some ⟨oc_law_great, od_law_great, .func (PySem.W.fnOf "_law_great" "_law_great" (defArgs St_law_great) (defBody St_law_great) (defScope St_law_great) .none kV_law_great dc_law_great pm_law_great an_law_great cd_law_great ct_law_great), sl_law_great⟩)
    (c_law_great : PySem.W.codeIn K cd_law_great "_law_great" = true)
    (k_law_great : PySem.W.keepIn K (.ref f_law_great) = true)
    (a_law_on : PySem.W.nsIn K mainGlobals "_law_on" = some (some (.ref f_law_on)))
    (l_law_on : K.lookup f_law_on = some ⟨oc_law_on, od_law_on, .func (PySem.W.fnOf "_law_on" "_law_on" (defArgs St_law_on) (defBody St_law_on) (defScope St_law_on) .none kV_law_on dc_law_on pm_law_on an_law_on cd_law_on ct_law_on), sl_law_on⟩)
    (c_law_on : PySem.W.codeIn K cd_law_on "_law_on" = true)
    (k_law_on : PySem.W.keepIn K (.ref f_law_on) = true)
    (a_law_inside : PySem.W.nsIn K mainGlobals "_law_inside" = some (some (.ref f_law_inside)))
    (l_law_inside : K.lookup f_law_inside = some ⟨oc_law_inside, od_law_inside, .func (PySem.W.fnOf "_law_inside" "_law_inside" (defArgs St_law_inside) (defBody St_law_inside) (defScope St_law_inside) .none kV_law_inside dc_law_inside pm_law_inside an_law_inside cd_law_inside ct_law_inside), sl_law_inside⟩)
    (c_law_inside : PySem.W.codeIn K cd_law_inside "_law_inside" = true)
    (k_law_inside : PySem.W.keepIn K (.ref f_law_inside) = true)
    (a_law_points : PySem.W.nsIn K mainGlobals "_law_points" = some (some (.ref f_law_points)))
    (l_law_points : K.lookup f_law_points = some ⟨oc_law_points, od_law_points, .func (PySem.W.fnOf "_law_points" "_law_points" (defArgs St_law_points) (defBody St_law_points) (defScope St_law_points) .none kV_law_points dc_law_points pm_law_points an_law_points cd_law_points ct_law_points), sl_law_points⟩)
    (c_law_points : PySem.W.codeIn K cd_law_points "_law_points" = true)
    (k_law_points : PySem.W.keepIn K (.ref f_law_points) = true)
    (a_law_walk : PySem.W.nsIn K mainGlobals "_law_walk" = some (some (.ref f_law_walk)))
    (l_law_walk : K.lookup f_law_walk = some ⟨oc_law_walk, od_law_walk, .func (PySem.W.fnOf "_law_walk" "_law_walk" (defArgs St_law_walk) (defBody St_law_walk) (defScope St_law_walk) .none kV_law_walk dc_law_walk pm_law_walk an_law_walk cd_law_walk ct_law_walk), sl_law_walk⟩)
    (c_law_walk : PySem.W.codeIn K cd_law_walk "_law_walk" = true)
    (k_law_walk : PySem.W.keepIn K (.ref f_law_walk) = true)
    (a_law_firsts : PySem.W.nsIn K mainGlobals "_law_firsts" = some (some (.ref f_law_firsts)))
    (l_law_firsts : K.lookup f_law_firsts = some ⟨oc_law_firsts, od_law_firsts, .func (PySem.W.fnOf "_law_firsts" "_law_firsts" (defArgs St_law_firsts) (defBody St_law_firsts) (defScope St_law_firsts) .none kV_law_firsts dc_law_firsts pm_law_firsts an_law_firsts cd_law_firsts ct_law_firsts), sl_law_firsts⟩)
    (c_law_firsts : PySem.W.codeIn K cd_law_firsts "_law_firsts" = true)
    (k_law_firsts : PySem.W.keepIn K (.ref f_law_firsts) = true)
    (a_law_whole : PySem.W.nsIn K mainGlobals "_law_whole" = some (some (.ref f_law_whole)))
    (l_law_whole : K.lookup f_law_whole = some ⟨oc_law_whole, od_law_whole, .func (PySem.W.fnOf "_law_whole" "_law_whole" (defArgs St_law_whole) (defBody St_law_whole) (defScope St_law_whole) .none kV_law_whole dc_law_whole pm_law_whole an_law_whole cd_law_whole ct_law_whole), sl_law_whole⟩)
    (c_law_whole : PySem.W.codeIn K cd_law_whole "_law_whole" = true)
    (k_law_whole : PySem.W.keepIn K (.ref f_law_whole) = true)
    (a_law_vector : PySem.W.nsIn K mainGlobals "_law_vector" = some (some (.ref f_law_vector)))
    (l_law_vector : K.lookup f_law_vector = some ⟨oc_law_vector, od_law_vector, .func (PySem.W.fnOf "_law_vector" "_law_vector" (defArgs St_law_vector) (defBody St_law_vector) (defScope St_law_vector) .none kV_law_vector dc_law_vector pm_law_vector an_law_vector cd_law_vector ct_law_vector), sl_law_vector⟩)
    (c_law_vector : PySem.W.codeIn K cd_law_vector "_law_vector" = true)
    (k_law_vector : PySem.W.keepIn K (.ref f_law_vector) = true)
    (a_law_is_direction : PySem.W.nsIn K mainGlobals "_law_is_direction" = some (some (.ref f_law_is_direction)))
    (l_law_is_direction : K.lookup f_law_is_direction = some ⟨oc_law_is_direction, od_law_is_direction, .func (PySem.W.fnOf "_law_is_direction" "_law_is_direction" (defArgs St_law_is_direction) (defBody St_law_is_direction) (defScope St_law_is_direction) .none kV_law_is_direction dc_law_is_direction pm_law_is_direction an_law_is_direction cd_law_is_direction ct_law_is_direction), sl_law_is_direction⟩)
    (c_law_is_direction : PySem.W.codeIn K cd_law_is_direction "_law_is_direction" = true)
    (k_law_is_direction : PySem.W.keepIn K (.ref f_law_is_direction) = true)
    (a_law_odd : PySem.W.nsIn K mainGlobals "_law_odd" = some (some (.ref f_law_odd)))
    (l_law_odd : K.lookup f_law_odd = some ⟨oc_law_odd, od_law_odd, .func (PySem.W.fnOf "_law_odd" "_law_odd" (defArgs St_law_odd) (defBody St_law_odd) (defScope St_law_odd) .none kV_law_odd dc_law_odd pm_law_odd an_law_odd cd_law_odd ct_law_odd), sl_law_odd⟩)
    (c_law_odd : PySem.W.codeIn K cd_law_odd "_law_odd" = true)
    (k_law_odd : PySem.W.keepIn K (.ref f_law_odd) = true)
    (a_law_bent : PySem.W.nsIn K mainGlobals "_law_bent" = some (some (.ref f_law_bent)))
    (l_law_bent : K.lookup f_law_bent = some ⟨oc_law_bent, od_law_bent, .func (PySem.W.fnOf "_law_bent" "_law_bent" (defArgs St_law_bent) (defBody St_law_bent) (defScope St_law_bent) .none kV_law_bent dc_law_bent pm_law_bent an_law_bent cd_law_bent ct_law_bent), sl_law_bent⟩)
    (c_law_bent : PySem.W.codeIn K cd_law_bent "_law_bent" = true)
    (k_law_bent : PySem.W.keepIn K (.ref f_law_bent) = true)
    (a_law_wrong : PySem.W.nsIn K mainGlobals "_law_wrong" = some (some (.ref f_law_wrong)))
    (l_law_wrong : K.lookup f_law_wrong = some ⟨oc_law_wrong, od_law_wrong, .func (PySem.W.fnOf "_law_wrong" "_law_wrong" (defArgs St_law_wrong) (defBody St_law_wrong) (defScope St_law_wrong) .none kV_law_wrong dc_law_wrong pm_law_wrong an_law_wrong cd_law_wrong ct_law_wrong), sl_law_wrong⟩)
    (c_law_wrong : PySem.W.codeIn K cd_law_wrong "_law_wrong" = true)
    (k_law_wrong : PySem.W.keepIn K (.ref f_law_wrong) = true)
    (a_law_inner : PySem.W.nsIn K mainGlobals "_law_inner" = some (some (.ref f_law_inner)))
    (l_law_inner : K.lookup f_law_inner = some ⟨oc_law_inner, od_law_inner, .func (PySem.W.fnOf "_law_inner" "_law_inner" (defArgs St_law_inner) (defBody St_law_inner) (defScope St_law_inner) .none kV_law_inner dc_law_inner pm_law_inner an_law_inner cd_law_inner ct_law_inner), sl_law_inner⟩)
    (c_law_inner : PySem.W.codeIn K cd_law_inner "_law_inner" = true)
    (k_law_inner : PySem.W.keepIn K (.ref f_law_inner) = true)
    (a_law_longest : PySem.W.nsIn K mainGlobals "_law_longest" = some (some (.ref f_law_longest)))
    (l_law_longest : K.lookup f_law_longest = some ⟨oc_law_longest, od_law_longest, .func (PySem.W.fnOf "_law_longest" "_law_longest" (defArgs St_law_longest) (defBody St_law_longest) (defScope St_law_longest) .none kV_law_longest dc_law_longest pm_law_longest an_law_longest cd_law_longest ct_law_longest), sl_law_longest⟩)
    (c_law_longest : PySem.W.codeIn K cd_law_longest "_law_longest" = true)
    (k_law_longest : PySem.W.keepIn K (.ref f_law_longest) = true)
    (a_law_told : PySem.W.nsIn K mainGlobals "_law_told" = some (some (.ref f_law_told)))
    (l_law_told : K.lookup f_law_told = some ⟨oc_law_told, od_law_told, .func (PySem.W.fnOf "_law_told" "_law_told" (defArgs St_law_told) (defBody St_law_told) (defScope St_law_told) .none kV_law_told dc_law_told pm_law_told an_law_told cd_law_told ct_law_told), sl_law_told⟩)
    (c_law_told : PySem.W.codeIn K cd_law_told "_law_told" = true)
    (k_law_told : PySem.W.keepIn K (.ref f_law_told) = true)
    (a_law_refused_right : PySem.W.nsIn K mainGlobals "_law_refused_right" = some (some (.ref f_law_refused_right)))
    (l_law_refused_right : K.lookup f_law_refused_right = some ⟨oc_law_refused_right, od_law_refused_right, .func (PySem.W.fnOf "_law_refused_right" "_law_refused_right" (defArgs St_law_refused_right) (defBody St_law_refused_right) (defScope St_law_refused_right) .none kV_law_refused_right dc_law_refused_right pm_law_refused_right an_law_refused_right (.ref cA_law_refused_right) ct_law_refused_right), sl_law_refused_right⟩)
    (c_law_refused_right : PySem.W.codeIn K (.ref cA_law_refused_right) "_law_refused_right" = true)
    (lc_law_refused_right : K.lookup cA_law_refused_right = some ⟨eC_law_refused_right, dC_law_refused_right, .fields vC_law_refused_right, sC_law_refused_right⟩)
    (ve_law_refused_right : vC_law_refused_right[11]? = some (.ref tA_law_refused_right))
    (kt_law_refused_right : K.lookup tA_law_refused_right = none)
    (k_law_refused_right : PySem.W.keepIn K (.ref f_law_refused_right) = true)
    (a_law : PySem.W.nsIn K mainGlobals "law" = some (some (.ref f_law)))
    (l_law : K.lookup f_law = some ⟨oc_law, od_law, .func (PySem.W.fnOf "law" "law" (defArgs St_law) (defBody St_law) (defScope St_law) .none kV_law dc_law pm_law an_law cd_law ct_law), sl_law⟩)
    (c_law : PySem.W.codeIn K cd_law "law" = true)
    (k_law : PySem.W.keepIn K (.ref f_law) = true)
    (z_abs : PySem.W.nsIn K mainGlobals "abs" = some none)
    (z_bool : PySem.W.nsIn K mainGlobals "bool" = some none)
    (z_int : PySem.W.nsIn K mainGlobals "int" = some none)
    (z_isinstance : PySem.W.nsIn K mainGlobals "isinstance" = some none)
    (z_len : PySem.W.nsIn K mainGlobals "len" = some none)
    (z_list : PySem.W.nsIn K mainGlobals "list" = some none)
    (z_max : PySem.W.nsIn K mainGlobals "max" = some none)
    (z_min : PySem.W.nsIn K mainGlobals "min" = some none)
    (z_range : PySem.W.nsIn K mainGlobals "range" = some none)
    (z_repr : PySem.W.nsIn K mainGlobals "repr" = some none)
    (z_tuple : PySem.W.nsIn K mainGlobals "tuple" = some none)
    (z_zip : PySem.W.nsIn K mainGlobals "zip" = some none)
    (v_MAX_DIST : PySem.W.nsIn K mainGlobals "MAX_DIST" = some (some (.int 4 tok_MAX_DIST)))
    (y_gcd : PySem.W.nsIn K mainGlobals "gcd" = some (some (.builtin "math.gcd")))
    (a_BadDirection : PySem.W.nsIn K mainGlobals "BadDirection" = some (some (.ref A_BadDirection)))
    (ex_BadDirection : PySem.W.subIn K (.ref A_BadDirection) (.type "BaseException") = some true)
    (ty_BadDirection : PySem.W.typeIn K (.ref A_BadDirection) = some (.type "type"))
    (ic_BadDirection : PySem.W.isClsIn K A_BadDirection = true)
    (a_NoCount : PySem.W.nsIn K mainGlobals "NoCount" = some (some (.ref A_NoCount)))
    (ex_NoCount : PySem.W.subIn K (.ref A_NoCount) (.type "BaseException") = some true)
    (ty_NoCount : PySem.W.typeIn K (.ref A_NoCount) = some (.type "type"))
    (ic_NoCount : PySem.W.isClsIn K A_NoCount = true)
    (x_BadDirection : K.lookup A_BadDirection = some (excClassObj nm_BadDirection qq_BadDirection A_BadDirection N_BadDirection bs_BadDirection bm_BadDirection true sn_BadDirection sub_BadDirection ab_BadDirection col_BadDirection dd_BadDirection m0_BadDirection m1_BadDirection m2_BadDirection m3_BadDirection m5_BadDirection "ValueError.__new__"))
    (r_BadDirection : PySem.HandSPX.refsVE bm_BadDirection = true)
    (sa_BadDirection : PySem.W.findIn K (.ref A_BadDirection) "__setattr__" = some (some (.builtin "object.__setattr__")))
    (ga_BadDirection : PySem.W.findIn K (.ref A_BadDirection) "__getattribute__" = some (some (.builtin "BaseException.__getattribute__")))
    (gg_BadDirection : PySem.W.findIn K (.ref A_BadDirection) "__getattr__" = some none)
    (no_BadDirection : PySem.W.findIn K (.ref A_BadDirection) "direction" = some none)
    (kc_BadDirection : PySem.W.keepIn K (.ref A_BadDirection) = true)
    (hd_BadDirection : PySem.W.hasDictIn K A_BadDirection = true)
    (ii_BadDirection : PySem.W.findIn K (.ref A_BadDirection) "__init__" = some (some (.ref I_BadDirection)))
    (ti_BadDirection : PySem.W.typeIn K (.ref I_BadDirection) = some (.type "function"))
    (li_BadDirection : K.lookup I_BadDirection = some ⟨oc_BadDirection, od_BadDirection, .func (PySem.W.fnOf "__init__" "BadDirection.__init__" (defArgs In_BadDirection) (defBody In_BadDirection) (defScope In_BadDirection) .none kV_BadDirection dc_BadDirection pm_BadDirection an_BadDirection cd_BadDirection ct_BadDirection), sl_BadDirection⟩)
    (ci_BadDirection : PySem.W.codeIn K cd_BadDirection "BadDirection.__init__" = true)
    (ki_BadDirection : PySem.W.keepIn K (.ref I_BadDirection) = true)
    (x_NoCount : K.lookup A_NoCount = some (excClassObj nm_NoCount qq_NoCount A_NoCount N_NoCount bs_NoCount bm_NoCount true sn_NoCount sub_NoCount ab_NoCount col_NoCount dd_NoCount m0_NoCount m1_NoCount m2_NoCount m3_NoCount m5_NoCount "ValueError.__new__"))
    (r_NoCount : PySem.HandSPX.refsVE bm_NoCount = true)
    (sa_NoCount : PySem.W.findIn K (.ref A_NoCount) "__setattr__" = some (some (.builtin "object.__setattr__")))
    (ga_NoCount : PySem.W.findIn K (.ref A_NoCount) "__getattribute__" = some (some (.builtin "BaseException.__getattribute__")))
    (gg_NoCount : PySem.W.findIn K (.ref A_NoCount) "__getattr__" = some none)
    (no_NoCount : PySem.W.findIn K (.ref A_NoCount) "many" = some none)
    (kc_NoCount : PySem.W.keepIn K (.ref A_NoCount) = true)
    (hd_NoCount : PySem.W.hasDictIn K A_NoCount = true)
    (ii_NoCount : PySem.W.findIn K (.ref A_NoCount) "__init__" = some (some (.ref I_NoCount)))
    (ti_NoCount : PySem.W.typeIn K (.ref I_NoCount) = some (.type "function"))
    (li_NoCount : K.lookup I_NoCount = some ⟨oc_NoCount, od_NoCount, .func (PySem.W.fnOf "__init__" "NoCount.__init__" (defArgs In_NoCount) (defBody In_NoCount) (defScope In_NoCount) .none kV_NoCount dc_NoCount pm_NoCount an_NoCount cd_NoCount ct_NoCount), sl_NoCount⟩)
    (ci_NoCount : PySem.W.codeIn K cd_NoCount "NoCount.__init__" = true)
    (ki_NoCount : PySem.W.keepIn K (.ref I_NoCount) = true)
    (s_BadDirection_BadDirection : PySem.W.subIn K (.ref A_BadDirection) (.ref A_BadDirection) = some true)
    (s_BadDirection_NoCount : PySem.W.subIn K (.ref A_BadDirection) (.ref A_NoCount) = some false)
    (s_NoCount_BadDirection : PySem.W.subIn K (.ref A_NoCount) (.ref A_BadDirection) = some false)
    (s_NoCount_NoCount : PySem.W.subIn K (.ref A_NoCount) (.ref A_NoCount) = some true)
    (ndT : [tA_law_refused_right].Nodup)
    (hF : (F_law ([Sl.no, .box false] ++ List.replicate 12 .no)).run.wp (fun d => d = .bool true) (fun _ => False)) :
    ∃ fd cs sp, LawTab l w K 15 63 "_law_script" mg fa h fd cs sp := by
  have e := hfa.symm.trans (PySem.W.mg_of X G a_law)
  cases e
  have tt_law_refused_right := tf_law_refused_right.use X (PySem.W.mg_of X G a_law_refused_right) l_law_refused_right rfl lc_law_refused_right ve_law_refused_right
  obtain ⟨TB, hTB⟩ : ∃ TB : List (Addr × Str), TB = [(tA_law_refused_right, (envOfC "_law_refused_right" (defScope St_law_refused_right) 0 f_law_refused_right .none).qual ++ "<lambda>")] := ⟨_, rfl⟩
  let cad : Cad := ⟨fun x => [(("BadDirection" : Str), A_BadDirection), (("NoCount" : Str), A_NoCount)].lookup x, BxAll TB⟩
  have hbx_law_refused_right : ∀ β, cad.bx β → BoxT tA_law_refused_right ((envOfC "_law_refused_right" (defScope St_law_refused_right) 0 f_law_refused_right .none).qual ++ "<lambda>") β ∧ ∀ v, cad.bx (β.at v) := fun β b => BxAll.one (by rw [hTB]; exact .head _) b
  have b_abs := PySem.W.mg_none_of X G z_abs
  have b_bool := PySem.W.mg_none_of X G z_bool
  have b_int := PySem.W.mg_none_of X G z_int
  have b_isinstance := PySem.W.mg_none_of X G z_isinstance
  have b_len := PySem.W.mg_none_of X G z_len
  have b_list := PySem.W.mg_none_of X G z_list
  have b_max := PySem.W.mg_none_of X G z_max
  have b_min := PySem.W.mg_none_of X G z_min
  have b_range := PySem.W.mg_none_of X G z_range
  have b_repr := PySem.W.mg_none_of X G z_repr
  have b_tuple := PySem.W.mg_none_of X G z_tuple
  have b_zip := PySem.W.mg_none_of X G z_zip
  have c_MAX_DIST := PySem.W.mg_of X G v_MAX_DIST
  have g_gcd := PySem.W.mg_of X G y_gcd
  refine ⟨PySem.W.fnOf "law" "law" (defArgs St_law) (defBody St_law) (defScope St_law) .none kV_law dc_law pm_law an_law cd_law ct_law, [(cA_law_refused_right, tA_law_refused_right)], spL TB K, ⟨all_cons (tt_law_refused_right.2) (all_nil), all_cons (kt_law_refused_right) (all_nil), all_cons (tt_law_refused_right.1) (all_nil), fun s v => .of_eq rfl, fun H a ns hl hT hS => ⟨a, ns, rfl, hS, hl, tabs_nil hT (by rw [hTB]; rfl), fun _ => rfl⟩, fun base _ _ tB => ?_⟩⟩
  have TB_law_refused_right := tB _ (.head _)
  have n_BadDirection := PySem.W.mg_of X G a_BadDirection
  have n_NoCount := PySem.W.mg_of X G a_NoCount
  have oe_BadDirection : OexC K A_BadDirection := ⟨⟨_, _, _, _, _, _, _, _, _, _, _, _, _, _, _, x_BadDirection, r_BadDirection⟩, sa_BadDirection, ex_BadDirection, ty_BadDirection, kc_BadDirection⟩
  have xf_BadDirection : XfC K A_BadDirection := ⟨ga_BadDirection, gg_BadDirection, ex_BadDirection, hd_BadDirection⟩
  have Fi_BadDirection := fun_mk (st := In_BadDirection) li_BadDirection ci_BadDirection ki_BadDirection
  have E_BadDirection : Err1 l.prog w K mg base cad "BadDirection" "direction" := ⟨_, _, _, _, ⟨oe_BadDirection, xf_BadDirection, PySem.W.mg_of X G a_BadDirection, ii_BadDirection, ti_BadDirection⟩, (show List.lookup ("BadDirection" : Str) [(("BadDirection" : Str), A_BadDirection), (("NoCount" : Str), A_NoCount)] = some A_BadDirection from look1), init1_ok Fi_BadDirection si_BadDirection rfl oe_BadDirection no_BadDirection (fun X h1 h2 => pv 0 (by rw [h1]; rfl) (by rw [h2]; exact .inl rfl)) (fun X h1 h2 => pv 1 (by rw [h1]; rfl) (by rw [h2]; exact .inl rfl)), Fi_BadDirection.binds fun _ _ _ _ _ _ us hl => match us, hl with | [_, _], _ => rfl, no_BadDirection⟩
  have oe_NoCount : OexC K A_NoCount := ⟨⟨_, _, _, _, _, _, _, _, _, _, _, _, _, _, _, x_NoCount, r_NoCount⟩, sa_NoCount, ex_NoCount, ty_NoCount, kc_NoCount⟩
  have xf_NoCount : XfC K A_NoCount := ⟨ga_NoCount, gg_NoCount, ex_NoCount, hd_NoCount⟩
  have Fi_NoCount := fun_mk (st := In_NoCount) li_NoCount ci_NoCount ki_NoCount
  have E_NoCount : Err1 l.prog w K mg base cad "NoCount" "many" := ⟨_, _, _, _, ⟨oe_NoCount, xf_NoCount, PySem.W.mg_of X G a_NoCount, ii_NoCount, ti_NoCount⟩, (show List.lookup ("NoCount" : Str) [(("BadDirection" : Str), A_BadDirection), (("NoCount" : Str), A_NoCount)] = some A_NoCount from (look2 (by decide +kernel) look1)), init1_ok Fi_NoCount si_NoCount rfl oe_NoCount no_NoCount (fun X h1 h2 => pv 0 (by rw [h1]; rfl) (by rw [h2]; exact .inl rfl)) (fun X h1 h2 => pv 1 (by rw [h1]; rfl) (by rw [h2]; exact .inl rfl)), Fi_NoCount.binds fun _ _ _ _ _ _ us hl => match us, hl with | [_, _], _ => rfl, no_NoCount⟩
  have X_BadDirection : Caught K mg cad "BadDirection" "direction" A_BadDirection := ⟨PySem.W.mg_of X G a_BadDirection, xf_BadDirection, no_BadDirection, (show List.lookup ("BadDirection" : Str) [(("BadDirection" : Str), A_BadDirection), (("NoCount" : Str), A_NoCount)] = some A_BadDirection from look1)⟩
  have X_NoCount : Caught K mg cad "NoCount" "many" A_NoCount := ⟨PySem.W.mg_of X G a_NoCount, xf_NoCount, no_NoCount, (show List.lookup ("NoCount" : Str) [(("BadDirection" : Str), A_BadDirection), (("NoCount" : Str), A_NoCount)] = some A_NoCount from (look2 (by decide +kernel) look1))⟩
  have hcm_BadDirection : ∀ x C b, cad x = some C → cm_BadDirection x = some b → PySem.W.exmOne K (.ref C) (.ref A_BadDirection) = some b := cm_of (l := [(("BadDirection" : Str), A_BadDirection, true), (("NoCount" : Str), A_NoCount, false)]) (by
    intro p hp
    simp only [List.mem_cons, List.mem_nil_iff, or_false, List.not_mem_nil] at hp
    rcases hp with rfl | rfl
    · exact exm_by ex_BadDirection ic_BadDirection ty_BadDirection s_BadDirection_BadDirection
    · exact exm_by ex_BadDirection ic_BadDirection ty_BadDirection s_NoCount_BadDirection)
  have hcm_NoCount : ∀ x C b, cad x = some C → cm_NoCount x = some b → PySem.W.exmOne K (.ref C) (.ref A_NoCount) = some b := cm_of (l := [(("BadDirection" : Str), A_BadDirection, false), (("NoCount" : Str), A_NoCount, true)]) (by
    intro p hp
    simp only [List.mem_cons, List.mem_nil_iff, or_false, List.not_mem_nil] at hp
    rcases hp with rfl | rfl
    · exact exm_by ex_NoCount ic_NoCount ty_NoCount s_BadDirection_NoCount
    · exact exm_by ex_NoCount ic_NoCount ty_NoCount s_NoCount_NoCount)
  have Fu_is_integer := fun_mk (st := St_is_integer) l_is_integer c_is_integer k_is_integer
  have B_is_integer : Binds K _ ["value"] [] := Fu_is_integer.binds fun _ _ _ _ _ _ us hl => match us, hl with | [_], _ => rfl
  have C_is_integer : Cal l.prog w K mg base cad "is_integer" 2 1 m_is_integer := ⟨_, _, _, ok_is_integer Fu_is_integer b_isinstance b_int b_bool, PySem.W.mg_of X G a_is_integer, Fu_is_integer.kp, B_is_integer⟩
  have Fu_is_within := fun_mk (st := St_is_within) l_is_within c_is_within k_is_within
  have B_is_within : Binds K _ ["value", "low", "high"] [] := Fu_is_within.binds fun _ _ _ _ _ _ us hl => match us, hl with | [_, _, _], _ => rfl
  have C_is_within : Cal l.prog w K mg base cad "is_within" 2 3 m_is_within := ⟨_, _, _, ok_is_within Fu_is_within b_isinstance b_int b_bool, PySem.W.mg_of X G a_is_within, Fu_is_within.kp, B_is_within⟩
  have Fu_is_bounded := fun_mk (st := St_is_bounded) l_is_bounded c_is_bounded k_is_bounded
  have B_is_bounded : Binds K _ ["dims", "value", "most"] [] := Fu_is_bounded.binds fun _ _ _ _ _ _ us hl => match us, hl with | [_, _, _], _ => rfl
  have C_is_bounded : Cal l.prog w K mg base cad "is_bounded" 3 3 m_is_bounded := ⟨_, _, _, ok_is_bounded Fu_is_bounded C_is_within b_isinstance b_tuple b_len, PySem.W.mg_of X G a_is_bounded, Fu_is_bounded.kp, B_is_bounded⟩
  have Fu_count_points := fun_mk (st := St_count_points) l_count_points c_count_points k_count_points
  have B_count_points : Binds K _ ["box"] [] := Fu_count_points.binds fun _ _ _ _ _ _ us hl => match us, hl with | [_], _ => rfl
  have C_count_points : Cal l.prog w K mg base cad "count_points" 2 1 m_count_points := ⟨_, _, _, ok_count_points Fu_count_points , PySem.W.mg_of X G a_count_points, Fu_count_points.kp, B_count_points⟩
  have Fu_common_divisor := fun_mk (st := St_common_divisor) l_common_divisor c_common_divisor k_common_divisor
  have B_common_divisor : Binds K _ ["vector"] [] := Fu_common_divisor.binds fun _ _ _ _ _ _ us hl => match us, hl with | [_], _ => rfl
  have C_common_divisor : Cal l.prog w K mg base cad "common_divisor" 2 1 m_common_divisor := ⟨_, _, _, ok_common_divisor Fu_common_divisor g_gcd, PySem.W.mg_of X G a_common_divisor, Fu_common_divisor.kp, B_common_divisor⟩
  have Fu_is_direction := fun_mk (st := St_is_direction) l_is_direction c_is_direction k_is_direction
  have B_is_direction : Binds K _ ["dims", "value"] [] := Fu_is_direction.binds fun _ _ _ _ _ _ us hl => match us, hl with | [_, _], _ => rfl
  have C_is_direction : Cal l.prog w K mg base cad "is_direction" 4 2 m_is_direction := ⟨_, _, _, ok_is_direction Fu_is_direction C_is_bounded C_common_divisor c_MAX_DIST, PySem.W.mg_of X G a_is_direction, Fu_is_direction.kp, B_is_direction⟩
  have Fu_check_direction := fun_mk (st := St_check_direction) l_check_direction c_check_direction k_check_direction
  have B_check_direction : Binds K _ ["dims", "direction"] [] := Fu_check_direction.binds fun _ _ _ _ _ _ us hl => match us, hl with | [_, _], _ => rfl
  have C_check_direction : Cal l.prog w K mg base cad "check_direction" 5 2 m_check_direction := ⟨_, _, _, ok_check_direction Fu_check_direction C_is_direction E_BadDirection, PySem.W.mg_of X G a_check_direction, Fu_check_direction.kp, B_check_direction⟩
  have Fu_count_staying := fun_mk (st := St_count_staying) l_count_staying c_count_staying k_count_staying
  have B_count_staying : Binds K _ ["box", "direction", "steps"] [] := Fu_count_staying.binds fun _ _ _ _ _ _ us hl => match us, hl with | [_, _, _], _ => rfl
  have C_count_staying : Cal l.prog w K mg base cad "count_staying" 3 3 m_count_staying := ⟨_, _, _, ok_count_staying Fu_count_staying C_count_points b_zip b_max b_abs, PySem.W.mg_of X G a_count_staying, Fu_count_staying.kp, B_count_staying⟩
  have Fu_greatest_step := fun_mk (st := St_greatest_step) l_greatest_step c_greatest_step k_greatest_step
  have B_greatest_step : Binds K _ ["box", "direction"] [] := Fu_greatest_step.binds fun _ _ _ _ _ _ us hl => match us, hl with | [_, _], _ => rfl
  have C_greatest_step : Cal l.prog w K mg base cad "greatest_step" 2 2 m_greatest_step := ⟨_, _, _, ok_greatest_step Fu_greatest_step b_min b_zip b_abs, PySem.W.mg_of X G a_greatest_step, Fu_greatest_step.kp, B_greatest_step⟩
  have Fu_count_lines := fun_mk (st := St_count_lines) l_count_lines c_count_lines k_count_lines
  have B_count_lines : Binds K _ ["box", "direction"] [] := Fu_count_lines.binds fun _ _ _ _ _ _ us hl => match us, hl with | [_, _], _ => rfl
  have C_count_lines : Cal l.prog w K mg base cad "count_lines" 6 2 m_count_lines := ⟨_, _, _, ok_count_lines Fu_count_lines C_check_direction C_count_points C_count_staying b_len, PySem.W.mg_of X G a_count_lines, Fu_count_lines.kp, B_count_lines⟩
  have Fu_longest_line := fun_mk (st := St_longest_line) l_longest_line c_longest_line k_longest_line
  have B_longest_line : Binds K _ ["box", "direction"] [] := Fu_longest_line.binds fun _ _ _ _ _ _ us hl => match us, hl with | [_, _], _ => rfl
  have C_longest_line : Cal l.prog w K mg base cad "longest_line" 6 2 m_longest_line := ⟨_, _, _, ok_longest_line Fu_longest_line C_check_direction C_greatest_step b_len, PySem.W.mg_of X G a_longest_line, Fu_longest_line.kp, B_longest_line⟩
  have Fu_count_long := fun_mk (st := St_count_long) l_count_long c_count_long k_count_long
  have B_count_long : Binds K _ ["box", "direction", "many"] [] := Fu_count_long.binds fun _ _ _ _ _ _ us hl => match us, hl with | [_, _, _], _ => rfl
  have C_count_long : Cal l.prog w K mg base cad "count_long" 6 3 m_count_long := ⟨_, _, _, ok_count_long Fu_count_long C_check_direction C_is_integer C_count_staying b_len E_NoCount, PySem.W.mg_of X G a_count_long, Fu_count_long.kp, B_count_long⟩
  have Fu_law_spring := fun_mk (st := St_law_spring) l_law_spring c_law_spring k_law_spring
  have B_law_spring : Binds K _ ["_law_script"] [] := Fu_law_spring.binds fun _ _ _ _ _ _ us hl => match us, hl with | [_], _ => rfl
  have Fu_law_dip := fun_mk (st := St_law_dip) l_law_dip c_law_dip k_law_dip
  have B_law_dip : Binds K _ ["_law_spring_here", "_law_many"] [] := Fu_law_dip.binds fun _ _ _ _ _ _ us hl => match us, hl with | [_, _], _ => rfl
  have C_law_dip : Cal l.prog w K mg base cad "_law_dip" 1 2 mDip := ⟨_, _, _, ok_law_dip Fu_law_dip b_int, PySem.W.mg_of X G a_law_dip, Fu_law_dip.kp, B_law_dip⟩
  have Fu_law_pick := fun_mk (st := St_law_pick) l_law_pick c_law_pick k_law_pick
  have B_law_pick : Binds K _ ["_law_spring_here", "_law_some"] [] := Fu_law_pick.binds fun _ _ _ _ _ _ us hl => match us, hl with | [_, _], _ => rfl
  have C_law_pick : Cal l.prog w K mg base cad "_law_pick" 2 2 m_law_pick := ⟨_, _, _, ok_law_pick Fu_law_pick C_law_dip b_len, PySem.W.mg_of X G a_law_pick, Fu_law_pick.kp, B_law_pick⟩
  have Fu_law_far := fun_mk (st := St_law_far) l_law_far c_law_far k_law_far
  have B_law_far : Binds K _ ["_law_spring_here", "_law_most"] [] := Fu_law_far.binds fun _ _ _ _ _ _ us hl => match us, hl with | [_, _], _ => rfl
  have C_law_far : Cal l.prog w K mg base cad "_law_far" 2 2 m_law_far := ⟨_, _, _, ok_law_far Fu_law_far C_law_dip b_int, PySem.W.mg_of X G a_law_far, Fu_law_far.kp, B_law_far⟩
  have Fu_law_gcd := fun_mk (st := St_law_gcd) l_law_gcd c_law_gcd k_law_gcd
  have B_law_gcd : Binds K _ ["_law_one", "_law_other"] [] := Fu_law_gcd.binds fun _ _ _ _ _ _ us hl => match us, hl with | [_, _], _ => rfl
  have C_law_gcd : Cal l.prog w K mg base cad "_law_gcd" 2 2 m_law_gcd := ⟨_, _, _, ok_law_gcd Fu_law_gcd b_abs b_int, PySem.W.mg_of X G a_law_gcd, Fu_law_gcd.kp, B_law_gcd⟩
  have Fu_law_share := fun_mk (st := St_law_share) l_law_share c_law_share k_law_share
  have B_law_share : Binds K _ ["_law_items"] [] := Fu_law_share.binds fun _ _ _ _ _ _ us hl => match us, hl with | [_], _ => rfl
  have C_law_share : Cal l.prog w K mg base cad "_law_share" 3 1 m_law_share := ⟨_, _, _, ok_law_share Fu_law_share C_law_gcd, PySem.W.mg_of X G a_law_share, Fu_law_share.kp, B_law_share⟩
  have Fu_law_direction := fun_mk (st := St_law_direction) l_law_direction c_law_direction k_law_direction
  have B_law_direction : Binds K _ ["_law_spring_here", "_law_dims"] [] := Fu_law_direction.binds fun _ _ _ _ _ _ us hl => match us, hl with | [_, _], _ => rfl
  have C_law_direction : Cal l.prog w K mg base cad "_law_direction" 4 2 m_law_direction := ⟨_, _, _, ok_law_direction Fu_law_direction C_law_pick C_law_share b_range b_int b_tuple, PySem.W.mg_of X G a_law_direction, Fu_law_direction.kp, B_law_direction⟩
  have Fu_law_box := fun_mk (st := St_law_box) l_law_box c_law_box k_law_box
  have B_law_box : Binds K _ ["_law_spring_here", "_law_dims"] [] := Fu_law_box.binds fun _ _ _ _ _ _ us hl => match us, hl with | [_, _], _ => rfl
  have C_law_box : Cal l.prog w K mg base cad "_law_box" 2 2 m_law_box := ⟨_, _, _, ok_law_box Fu_law_box C_law_dip b_tuple b_range, PySem.W.mg_of X G a_law_box, Fu_law_box.kp, B_law_box⟩
  have Fu_law_great := fun_mk (st := St_law_great) l_law_great c_law_great k_law_great
  have B_law_great : Binds K _ ["_law_spring_here", "_law_dims"] [] := Fu_law_great.binds fun _ _ _ _ _ _ us hl => match us, hl with | [_, _], _ => rfl
  have C_law_great : Cal l.prog w K mg base cad "_law_great" 3 2 m_law_great := ⟨_, _, _, ok_law_great Fu_law_great C_law_far C_law_dip C_law_pick b_tuple b_range, PySem.W.mg_of X G a_law_great, Fu_law_great.kp, B_law_great⟩
  have Fu_law_on := fun_mk (st := St_law_on) l_law_on c_law_on k_law_on
  have B_law_on : Binds K _ ["_law_point", "_law_vector_here", "_law_many"] [] := Fu_law_on.binds fun _ _ _ _ _ _ us hl => match us, hl with | [_, _, _], _ => rfl
  have C_law_on : Cal l.prog w K mg base cad "_law_on" 2 3 m_law_on := ⟨_, _, _, ok_law_on Fu_law_on b_tuple b_zip, PySem.W.mg_of X G a_law_on, Fu_law_on.kp, B_law_on⟩
  have Fu_law_inside := fun_mk (st := St_law_inside) l_law_inside c_law_inside k_law_inside
  have B_law_inside : Binds K _ ["_law_box_here", "_law_point"] [] := Fu_law_inside.binds fun _ _ _ _ _ _ us hl => match us, hl with | [_, _], _ => rfl
  have C_law_inside : Cal l.prog w K mg base cad "_law_inside" 2 2 m_law_inside := ⟨_, _, _, ok_law_inside Fu_law_inside b_zip, PySem.W.mg_of X G a_law_inside, Fu_law_inside.kp, B_law_inside⟩
  have Fu_law_points := fun_mk (st := St_law_points) l_law_points c_law_points k_law_points
  have B_law_points : Binds K _ ["_law_box_here"] [] := Fu_law_points.binds fun _ _ _ _ _ _ us hl => match us, hl with | [_], _ => rfl
  have C_law_points : Cal l.prog w K mg base cad "_law_points" 2 1 m_law_points := ⟨_, _, _, ok_law_points Fu_law_points b_range, PySem.W.mg_of X G a_law_points, Fu_law_points.kp, B_law_points⟩
  have Fu_law_walk := fun_mk (st := St_law_walk) l_law_walk c_law_walk k_law_walk
  have B_law_walk : Binds K _ ["_law_box_here", "_law_direction_here", "_law_point"] [] := Fu_law_walk.binds fun _ _ _ _ _ _ us hl => match us, hl with | [_, _, _], _ => rfl
  have C_law_walk : Cal l.prog w K mg base cad "_law_walk" 3 3 m_law_walk := ⟨_, _, _, ok_law_walk Fu_law_walk C_law_inside C_law_on, PySem.W.mg_of X G a_law_walk, Fu_law_walk.kp, B_law_walk⟩
  have Fu_law_firsts := fun_mk (st := St_law_firsts) l_law_firsts c_law_firsts k_law_firsts
  have B_law_firsts : Binds K _ ["_law_box_here", "_law_direction_here"] [] := Fu_law_firsts.binds fun _ _ _ _ _ _ us hl => match us, hl with | [_, _], _ => rfl
  have C_law_firsts : Cal l.prog w K mg base cad "_law_firsts" 3 2 m_law_firsts := ⟨_, _, _, ok_law_firsts Fu_law_firsts C_law_points C_law_inside C_law_on, PySem.W.mg_of X G a_law_firsts, Fu_law_firsts.kp, B_law_firsts⟩
  have Fu_law_whole := fun_mk (st := St_law_whole) l_law_whole c_law_whole k_law_whole
  have B_law_whole : Binds K _ ["_law_value", "_law_low", "_law_high"] [] := Fu_law_whole.binds fun _ _ _ _ _ _ us hl => match us, hl with | [_, _, _], _ => rfl
  have C_law_whole : Cal l.prog w K mg base cad "_law_whole" 2 3 m_law_whole := ⟨_, _, _, ok_law_whole Fu_law_whole b_isinstance b_int b_bool, PySem.W.mg_of X G a_law_whole, Fu_law_whole.kp, B_law_whole⟩
  have Fu_law_vector := fun_mk (st := St_law_vector) l_law_vector c_law_vector k_law_vector
  have B_law_vector : Binds K _ ["_law_value", "_law_many", "_law_most"] [] := Fu_law_vector.binds fun _ _ _ _ _ _ us hl => match us, hl with | [_, _, _], _ => rfl
  have C_law_vector : Cal l.prog w K mg base cad "_law_vector" 3 3 m_law_vector := ⟨_, _, _, ok_law_vector Fu_law_vector C_law_whole b_isinstance b_tuple b_len, PySem.W.mg_of X G a_law_vector, Fu_law_vector.kp, B_law_vector⟩
  have Fu_law_is_direction := fun_mk (st := St_law_is_direction) l_law_is_direction c_law_is_direction k_law_is_direction
  have B_law_is_direction : Binds K _ ["_law_value", "_law_dims"] [] := Fu_law_is_direction.binds fun _ _ _ _ _ _ us hl => match us, hl with | [_, _], _ => rfl
  have C_law_is_direction : Cal l.prog w K mg base cad "_law_is_direction" 4 2 m_law_is_direction := ⟨_, _, _, ok_law_is_direction Fu_law_is_direction C_law_vector C_law_share, PySem.W.mg_of X G a_law_is_direction, Fu_law_is_direction.kp, B_law_is_direction⟩
  have Fu_law_odd := fun_mk (st := St_law_odd) l_law_odd c_law_odd k_law_odd
  have B_law_odd : Binds K _ ["_law_spring_here"] [] := Fu_law_odd.binds fun _ _ _ _ _ _ us hl => match us, hl with | [_], _ => rfl
  have C_law_odd : Cal l.prog w K mg base cad "_law_odd" 3 1 m_law_odd := ⟨_, _, _, ok_law_odd Fu_law_odd C_law_pick, PySem.W.mg_of X G a_law_odd, Fu_law_odd.kp, B_law_odd⟩
  have Fu_law_bent := fun_mk (st := St_law_bent) l_law_bent c_law_bent k_law_bent
  have B_law_bent : Binds K _ ["_law_spring_here", "_law_vector_here"] [] := Fu_law_bent.binds fun _ _ _ _ _ _ us hl => match us, hl with | [_, _], _ => rfl
  have C_law_bent : Cal l.prog w K mg base cad "_law_bent" 3 2 m_law_bent := ⟨_, _, _, ok_law_bent Fu_law_bent C_law_dip C_law_pick b_len b_list b_tuple, PySem.W.mg_of X G a_law_bent, Fu_law_bent.kp, B_law_bent⟩
  have Fu_law_wrong := fun_mk (st := St_law_wrong) l_law_wrong c_law_wrong k_law_wrong
  have B_law_wrong : Binds K _ ["_law_spring_here", "_law_dims"] [] := Fu_law_wrong.binds fun _ _ _ _ _ _ us hl => match us, hl with | [_, _], _ => rfl
  have C_law_wrong : Cal l.prog w K mg base cad "_law_wrong" 5 2 m_law_wrong := ⟨_, _, _, ok_law_wrong Fu_law_wrong C_law_pick C_law_odd C_law_bent C_law_direction C_law_is_direction b_range, PySem.W.mg_of X G a_law_wrong, Fu_law_wrong.kp, B_law_wrong⟩
  have Fu_law_inner := fun_mk (st := St_law_inner) l_law_inner c_law_inner k_law_inner
  have B_law_inner : Binds K _ ["_law_box_here", "_law_way", "_law_many"] [] := Fu_law_inner.binds fun _ _ _ _ _ _ us hl => match us, hl with | [_, _, _], _ => rfl
  have C_law_inner : Cal l.prog w K mg base cad "_law_inner" 2 3 m_law_inner := ⟨_, _, _, ok_law_inner Fu_law_inner b_zip b_max b_abs, PySem.W.mg_of X G a_law_inner, Fu_law_inner.kp, B_law_inner⟩
  have Fu_law_longest := fun_mk (st := St_law_longest) l_law_longest c_law_longest k_law_longest
  have B_law_longest : Binds K _ ["_law_box_here", "_law_way"] [] := Fu_law_longest.binds fun _ _ _ _ _ _ us hl => match us, hl with | [_, _], _ => rfl
  have C_law_longest : Cal l.prog w K mg base cad "_law_longest" 2 2 m_law_longest := ⟨_, _, _, ok_law_longest Fu_law_longest b_zip b_abs b_min, PySem.W.mg_of X G a_law_longest, Fu_law_longest.kp, B_law_longest⟩
  have Fu_law_told := fun_mk (st := St_law_told) l_law_told c_law_told k_law_told
  have B_law_told : Binds K _ ["_law_ask"] [] := Fu_law_told.binds fun _ _ _ _ _ _ us hl => match us, hl with | [_], _ => rfl
  have C_law_told : CalT l.prog w K mg base cad "_law_told" 11 "_law_ask" m_law_told := ⟨_, _, _, _, _, ok_law_told n_BadDirection hcm_BadDirection n_NoCount hcm_NoCount X_BadDirection X_NoCount, Fu_law_told, sc_law_told, rfl, (by first | exact .inl rfl | exact .inr rfl), B_law_told, PySem.W.mg_of X G a_law_told, Fu_law_told.kp, mq_law_told⟩
  have Fu_law_refused_right := fun_mk (st := St_law_refused_right) l_law_refused_right c_law_refused_right k_law_refused_right
  have B_law_refused_right : Binds K _ ["_law_spring_here", "_law_box_here", "_law_way"] [] := Fu_law_refused_right.binds fun _ _ _ _ _ _ us hl => match us, hl with | [_, _, _], _ => rfl
  have C_law_refused_right : Cal l.prog w K mg base cad "_law_refused_right" 14 3 m_law_refused_right := ⟨_, _, _, ok_law_refused_right Fu_law_refused_right C_law_pick C_law_wrong C_law_told C_count_lines C_longest_line C_count_long TB_law_refused_right rfl hbx_law_refused_right b_len b_repr, PySem.W.mg_of X G a_law_refused_right, Fu_law_refused_right.kp, B_law_refused_right⟩
  have Fu_law := fun_mk (st := St_law) l_law c_law k_law
  exact ok_law Fu_law (ok_law_spring (cad := cad) Fu_law_spring b_int b_abs) (PySem.W.mg_of X G a_law_spring) Fu_law_spring.kp B_law_spring C_law_dip C_law_direction C_law_pick C_law_box C_law_great C_law_longest C_law_inner C_longest_line C_count_lines C_law_far C_count_long C_law_refused_right C_law_firsts C_law_walk b_range b_len b_repr b_max (fun β v h e => bxAll_spring (nd_of (by rw [hTB]; exact ndT)) β v h e) hF
end Wk40

set_option Elab.async false
set_option linter.all false
set_option maxRecDepth 100000
set_option maxHeartbeats 4000000
namespace Wk40
open PySem PySem.Spec PyProof.Rows L2 Wb
theorem is_within_eq (v : D) (lo hi : Int) : m_is_within [.d v, .d (.int lo), .d (.int hi)] = .ret (.bool (Wb.inR lo hi v)) := by
  cases v with
  | int i => simp [m_is_within, F_is_within, Wb.inR]
  | _ => with_unfolding_all rfl
theorem law_whole_eq (v : D) (lo hi : Int) : m_law_whole [.d v, .d (.int lo), .d (.int hi)] = .ret (.bool (Wb.inR lo hi v)) := by
  cases v with
  | int i => simp [m_law_whole, F_law_whole, Wb.inR]
  | _ => with_unfolding_all rfl
theorem is_bounded_eq {v : D} {n m : Int} (hl : ∀ xs, v = .tuple xs → xs.length ≤ 1000000) : m_is_bounded [.d (.int n), .d v, .d (.int m)] = .ret (.bool (okv n m v)) := by
  cases v with
  | tuple xs =>
    have k := bnd_go is_within_eq (n := .int n) (v := .tuple xs) (m := m) xs .no
    by_cases e : (xs.length : Int) = n
    · cases hb : xs.all (Wb.inR (-m) m) with
      | true =>
        obtain ⟨s', h⟩ := k.1 hb
        simp [m_is_bounded, F_is_bounded, ne_ints, e, h, hb, okv]
      | false => simp [m_is_bounded, F_is_bounded, ne_ints, e, k.2 hb, hb, okv]
    · simp [m_is_bounded, F_is_bounded, ne_ints, e, okv]
  | _ => with_unfolding_all rfl
theorem law_vector_eq {v : D} {n m : Int} (hv : ∀ xs, v = .tuple xs → xs.length ≤ 1000000 ∧ cEq v = true) : m_law_vector [.d v, .d (.int n), .d (.int m)] = .ret (.bool (okv n m v)) := by
  cases v with
  | tuple xs =>
    obtain ⟨hl, hc⟩ := hv xs rfl
    have h2 : eLc [3] (iSeq (eV 0)) (bName 3) (eUn oNot (eCall 3 m_law_whole (aCons (eV 3) (aCons (eBin oSub (eC (.int 0)) (eV 2)) (aCons (eV 2) aNil))))) (eV 3) [.d (.tuple xs), .d (.int n), .d (.int m), .no] = .ret (.list (xs.filter fun x => !Wb.inR (-m) m x)) := by
      refine eLc_ret (ds := xs) rfl hl (lc_filter _ fun d _ => ⟨_, rfl, ?_, rfl⟩)
      have e := law_whole_eq d (-m) m
      simp [e]
    by_cases hn : (xs.length : Int) = n
    · simp [m_law_vector, F_law_vector, ne_ints, hn, h2, oEq_nil (cEq_filter hc), filter_empty, okv]
    · simp [m_law_vector, F_law_vector, ne_ints, hn, okv]
  | _ => with_unfolding_all rfl
theorem law_gcd_eq {a b : Int} (h : b.natAbs < 2 ^ 110) : m_law_gcd [.d (.int a), .d (.int b)] = .ret (.int ((Nat.gcd a.natAbs b.natAbs : Nat) : Int)) := by
  have e := euc 110 79 a.natAbs b.natAbs h
  simp only [Nat.reduceMul, Nat.reduceAdd] at e
  simp [m_law_gcd, F_law_gcd, abs_nat, e]
theorem share_go : ∀ (ns : List Int) (v : D) (s : Sl) (g : Nat), (∀ n ∈ ns, n.natAbs < 2 ^ 110) → ∃ s', forGo (bName 2) (sSet 1 (eCall 2 m_law_gcd (aCons (eV 1) (aCons (eV 2) aNil)))) (ns.map PyData.int) [.d v, .d (.int g), s] =
    .ret (.nx [.d v, .d (.int ((ns.foldl (fun g n => Nat.gcd g n.natAbs) g : Nat) : Int)), s'])
  | [], v, s, g, _ => ⟨s, rfl⟩
  | n :: r, v, s, g, h => by
    obtain ⟨s', ih⟩ := share_go r v (.d (.int n)) (Nat.gcd g n.natAbs) fun m hm => h m (List.mem_cons_of_mem _ hm)
    refine ⟨s', ?_⟩
    have e := law_gcd_eq (a := g) (h n (List.mem_cons_self ..))
    rw [List.map_cons]
    unfold forGo
    simp [e, ih]
theorem share_eq {v : D} {ns : List Int} (hv : v = .tuple (ns.map PyData.int) ∨ v = .list (ns.map PyData.int)) (h : ∀ n ∈ ns, n.natAbs < 2 ^ 110) : m_law_share [.d v] = .ret (.int (gcdL ns : Nat)) := by
  obtain ⟨s', e⟩ := share_go ns v .no 0 h
  have e' : forGo (bName 2) (sSet 1 (eCall 2 m_law_gcd (aCons (eV 1) (aCons (eV 2) aNil)))) (ns.map PyData.int) [.d v, .d (.int 0), .no] = _ := e
  rcases hv with hv | hv
  · subst hv
    simp [m_law_share, F_law_share, e', gcdL]
  · subst hv
    simp [m_law_share, F_law_share, e', gcdL]
theorem gcd_go : ∀ (ns : List Int) (v : D) (s : Sl) (g : Nat), ∃ s', forGo (bName 2) (sSet 1 (eCb (o2 oGcd) (aCons (eV 1) (aCons (eV 2) aNil)))) (ns.map PyData.int) [.d v, .d (.int g), s] =
    .ret (.nx [.d v, .d (.int ((ns.foldl (fun g n => Nat.gcd g n.natAbs) g : Nat) : Int)), s'])
  | [], v, s, g => ⟨s, rfl⟩
  | n :: r, v, s, g => by
    obtain ⟨s', ih⟩ := gcd_go r v (.d (.int n)) (Nat.gcd g n.natAbs)
    refine ⟨s', ?_⟩
    have e : oGcd (.int g) (.int n) = .ret (.int ((Nat.gcd (g : Int).natAbs n.natAbs : Nat) : Int)) := rfl
    rw [List.map_cons]
    unfold forGo
    simp [e, ih]
theorem common_eq {ns : List Int} : m_common_divisor [.d (.tuple (ns.map PyData.int))] = .ret (.int (gcdL ns : Nat)) := by
  obtain ⟨s', e⟩ := gcd_go ns (.tuple (ns.map PyData.int)) .no 0
  have e' : forGo (bName 2) (sSet 1 (eCb (o2 oGcd) (aCons (eV 1) (aCons (eV 2) aNil)))) (ns.map PyData.int) [.d (.tuple (ns.map PyData.int)), .d (.int 0), .no] = _ := e
  simp [m_common_divisor, F_common_divisor, e', gcdL]
theorem is_direction_eq {v : D} {n : Int} (hl : ∀ xs, v = .tuple xs → xs.length ≤ 1000000) : m_is_direction [.d (.int n), .d v] = .ret (.bool (dirB n v)) := by
  have h1 := is_bounded_eq (n := n) (m := 4) hl
  cases hb : okv n 4 v with
  | false => simp [m_is_direction, F_is_direction, h1, hb, dirB]
  | true =>
    cases v with
    | tuple xs =>
      have hb' := hb
      simp only [okv, Bool.and_eq_true] at hb'
      obtain ⟨e, _⟩ := intsD_of hb'.2
      have h2 := common_eq (ns := intsD xs)
      rw [← e] at h2
      simp [m_is_direction, F_is_direction, h1, hb, h2, dirB, eq_ints, one_eq]
    | _ => cases hb
theorem pick_wp {xs : List D} {P : D → Prop} {E : Exn → Prop} (h0 : 0 < xs.length) (h1 : xs.length < 1073741824) (h : ∀ x ∈ xs, P x) : (m_law_pick [.box false, .d (.list xs)]).wp P E := by
  simp [m_law_pick, F_law_pick]
  refine ⟨h0, by omega, fun i i0 i1 => drawn_item h i0 i1⟩
theorem direction_wp {n : Nat} (h2 : 2 ≤ n) (h3 : n ≤ 3) : (m_law_direction [.box false, .d (.int n)]).wp (fun d => ∃ ns : List Int, d = .tuple (ns.map PyData.int) ∧ ns.length = n ∧ (∀ x ∈ ns, -4 ≤ x ∧ x ≤ 4) ∧ gcdL ns = 1) noE := by
  have hr : oRng1 [.d (.int (n : Nat))] = .ret (rangeD 0 n) := by
    show (if (n : Int).natAbs < 1000000000000 then T.ret (rangeD 0 (n : Int).toNat) else .bad) = _
    rw [if_pos (by omega)]
    rfl
  have A : (eLc [3] (iArg oRng1 (aCons (eV 1) aNil)) (bName 3) tTrue (eCall 2 m_law_pick (aBox 0 (aCons (eLst (aCons (eC (.int 0)) (aCons (eC (.int 1)) (aCons (eUn oNeg (eC (.int 1))) (aCons (eC (.int 2)) (aCons (eUn oNeg (eC (.int 2))) (aCons (eC (.int 3)) (aCons (eUn oNeg (eC (.int 3))) (aCons (eC (.int 4)) (aCons (eUn oNeg (eC (.int 4))) aNil)))))))))) aNil)))
      [.box false, .d (.int n), .no, .no, .no]).wp (fun d => ∃ ns : List Int, d = .list (ns.map PyData.int) ∧ ns.length = n ∧ ∀ x ∈ ns, -4 ≤ x ∧ x ≤ 4) noE := by
    refine eLc_wp (ds := rangeD 0 n) (by simp [hr]) (by rw [rangeD_len]; omega) (lc_wp (R := fun _ y => ∃ z, y = PyData.int z ∧ -4 ≤ z ∧ z ≤ 4) _ (fun d _ => ⟨_, rfl, rfl, ?_⟩) fun ys hy => ?_)
    · simp
      refine pick_wp (by simp) (by simp) ?_
      intro x hx
      simp only [List.mem_cons, List.not_mem_nil, or_false] at hx
      rcases hx with rfl | rfl | rfl | rfl | rfl | rfl | rfl | rfl | rfl <;> exact ⟨_, rfl, by decide, by decide⟩
    · obtain ⟨ns, rfl, hl, hb⟩ := each_ints hy
      exact ⟨ns, rfl, by rw [hl, rangeD_len], hb⟩
  have B : ∀ (ns : List Int) (s : Sl), (∀ x ∈ ns, -4 ≤ x ∧ x ≤ 4) → ns.length = n → gcdL ns ≠ 0 → eLc [4] (iSeq (eV 2)) (bName 4) tTrue (eBin oFdiv (eV 4) (eCall 1 m_law_share (aCons (eV 2) aNil))) [.box false, .d (.int n), .d (.list (ns.map PyData.int)), s, .no] =
      .ret (.list ((ns.map fun z => z.fdiv (gcdL ns : Nat)).map PyData.int)) := fun ns s hb hl hg => by
    have sh := share_eq (v := .list (ns.map PyData.int)) (.inr rfl) fun z hz => by
      have := hb z hz
      omega
    have small := (divided hb hg).1
    rw [List.map_map]
    have e : (ns.map PyData.int).map (fun d => match d with
      | .int z => PyData.int (z.fdiv (gcdL ns : Nat))
      | d => d) = ns.map (PyData.int ∘ fun z => z.fdiv (gcdL ns : Nat)) := by
      rw [List.map_map]
      rfl
    rw [← e]
    refine eLc_ret (ds := ns.map PyData.int) rfl (by rw [List.length_map]; omega) (lc_map _ fun d hd => ⟨_, rfl, rfl, ?_⟩)
    obtain ⟨z, _, rfl⟩ := List.mem_map.mp hd
    have c : cDiv z (gcdL ns : Nat) = true := by
      unfold cDiv
      have c1 : ((gcdL ns : Nat) : Int) ≠ 0 := by omega
      have c2 : ((gcdL ns : Nat) : Int).natAbs < 1073741824 := by omega
      simp [c1, c2]
      omega
    simp [sh, c]
  have C : ∀ (ns : List Int) (s : Sl), (∀ x ∈ ns, -4 ≤ x ∧ x ≤ 4) → ns.length = n → gcdL ns ≠ 0 →
      ∃ ms : List Int, PyData.tuple ((ns.map fun z => z.fdiv (gcdL ns : Nat)).map PyData.int) = .tuple (ms.map PyData.int) ∧ ms.length = n ∧ (∀ x ∈ ms, -4 ≤ x ∧ x ≤ 4) ∧ gcdL ms = 1 := fun ns s hb hl hg => by
    obtain ⟨d1, d2, d3⟩ := divided hb hg
    exact ⟨_, rfl, by rw [List.length_map, hl], d3, d2⟩
  simp [m_law_direction, F_law_direction]
  refine T.le A ?_
  rintro d ⟨ns, rfl, hl, hb⟩
  have sh := share_eq (v := .list (ns.map PyData.int)) (.inr rfl) fun z hz => by
    have := hb z hz
    omega
  by_cases hg : gcdL ns = 0
  · have D0 : eLc [3] (iArg oRng1 (aCons (eV 1) aNil)) (bName 3) tTrue (eCb (o1 oInt) (aCons (eBin oEq (eV 3) (eC (.int 0))) aNil)) [.box false, .d (.int n), .d (.list (ns.map PyData.int)), .no, .no] =
        .ret (.list ((1 :: List.replicate (n - 1) (0 : Int)).map PyData.int)) := by
      have e : (1 :: List.replicate (n - 1) (0 : Int)).map PyData.int = (rangeD 0 n).map fun d => match d with
        | .int z => PyData.int (if z = 0 then 1 else 0)
        | d => d := by
        have : n = 2 ∨ n = 3 := by omega
        rcases this with rfl | rfl <;> rfl
      rw [e]
      refine eLc_ret (ds := rangeD 0 n) (by simp [hr]) (by rw [rangeD_len]; omega) (lc_map _ fun d hd => ⟨_, rfl, rfl, ?_⟩)
      obtain ⟨z, _, rfl⟩ := List.mem_map.mp hd
      simp [eq_ints]
    have b1 : ∀ x ∈ 1 :: List.replicate (n - 1) (0 : Int), -4 ≤ x ∧ x ≤ 4 := fun x hx => by
      rcases List.mem_cons.mp hx with z | z
      · omega
      · have := List.eq_of_mem_replicate z
        omega
    have l1 : (1 :: List.replicate (n - 1) (0 : Int)).length = n := by
      simp
      omega
    have g1 : gcdL (1 :: List.replicate (n - 1) (0 : Int)) ≠ 0 := by
      have : n = 2 ∨ n = 3 := by omega
      rcases this with rfl | rfl <;> decide
    have B1 := B _ .no b1 l1 g1
    simp [sh, hg, eq_ints, D0]
    simp at B1
    simp [B1]
    have C1 := C _ .no b1 l1 g1
    simpa using C1
  · have B1 := B _ .no hb hl hg
    have hg' : ¬ ((gcdL ns : Nat) : Int) = 0 := by omega
    simp [sh, hg', hg, eq_ints]
    simp at B1
    simp [B1]
    have C1 := C _ .no hb hl hg
    simpa using C1
structure Val (v : D) : Prop where
  tup : ∀ xs, v = .tuple xs → xs.length ≤ 1000000 ∧ cEq v = true
  sm : Sm 100000 10 v
theorem Val.len {v : D} (h : Val v) : ∀ xs, v = .tuple xs → xs.length ≤ 1000000 := fun xs e => (h.tup xs e).1
theorem okv_tup {n m : Int} {v : D} (h : okv n m v = true) : ∃ ns : List Int, v = vecD ns ∧ (ns.length : Int) = n ∧ ∀ x ∈ ns, -m ≤ x ∧ x ≤ m := by
  cases v with
  | tuple xs =>
    simp only [okv, Bool.and_eq_true, decide_eq_true_eq] at h
    obtain ⟨e, k⟩ := intsD_of h.2
    refine ⟨intsD xs, by unfold vecD; rw [← e], ?_, k⟩
    rw [← h.1, e, List.length_map, intsD_map]
  | _ => cases h
theorem okv_vec {n m : Int} {ns : List Int} (hl : (ns.length : Int) = n) (h : ∀ x ∈ ns, -m ≤ x ∧ x ≤ m) : okv n m (vecD ns) = true := by
  simp [vecD, okv, all_inR h, hl]
theorem law_is_direction_eq {v : D} {n : Int} (V : Val v) : m_law_is_direction [.d v, .d (.int n)] = .ret (.bool (dirB n v)) := by
  have h1 := law_vector_eq (v := v) (n := n) (m := 4) V.tup
  cases e : okv n 4 v with
  | false =>
    rw [e] at h1
    simp [m_law_is_direction, F_law_is_direction, h1, dirB, e]
  | true =>
    rw [e] at h1
    obtain ⟨ns, rfl, hl, hb⟩ := okv_tup e
    have h3 := share_eq (v := vecD ns) (ns := ns) (.inl rfl) fun x hx => by
      have := hb x hx
      omega
    have e' : okv n 4 (.tuple (ns.map PyData.int)) = true := e
    unfold vecD at h1 h3 ⊢
    simp [m_law_is_direction, F_law_is_direction, h1, h3, dirB, e', eq_ints, one_eq, intsD_map]
/-! ### the words of the list that is told -/
theorem two_ok {s : Str} {v : D} (hs : smB 100000 10 (.str s) = true) (h : Sm 100000 10 v) : okRep (.list [.str s, v]) = true := by
  refine (sm_list (n := 100000) (k := 10) (m := 2) (fun x hx => ?_) (by simp)).ok (by decide) (by decide)
  simp only [List.mem_cons, List.not_mem_nil, or_false] at hx
  rcases hx with rfl | rfl
  · exact sm_by hs
  · exact h
def addM (as : List Int) (m : Int) (us : List Int) : List Int := (as.zip us).map fun p => p.1 + m * p.2
theorem on_go : ∀ (ps : List (Int × Int)) (u v : D) (m : Int), (∀ p ∈ ps, p.2.natAbs ≤ 4) →
    lcGo (bTup [3, 4]) tTrue (eBin oAdd (eV 3) (eBin oMul (eV 2) (eV 4))) [.d u, .d v, .d (.int m), .no, .no] (ps.map fun p => .tuple [.int p.1, .int p.2]) = .ret (ps.map fun p => .int (p.1 + m * p.2))
  | [], _, _, _, _ => rfl
  | p :: r, u, v, m, h => by
    have ih := on_go r u v m fun q hq => h q (List.mem_cons_of_mem _ hq)
    have hp := h p (List.mem_cons_self ..)
    have e := mul_ints' (a := m) (b := p.2) (by omega)
    rw [List.map_cons]
    unfold lcGo
    simp [e, ih]
theorem law_on_eq {as us : List Int} {m : Int} (hl : us.length ≤ 100) (hu : ∀ u ∈ us, u.natAbs ≤ 4) : m_law_on [.d (vecD as), .d (vecD us), .d (.int m)] = .ret (vecD (addM as m us)) := by
  have h1 := on_go (as.zip us) (vecD as) (vecD us) m fun p hp => hu p.2 (List.of_mem_zip hp).2
  have h2 : eLc [3, 4] (iArg oZipM (aCons (eV 0) (aCons (eV 1) aNil))) (bTup [3, 4]) tTrue (eBin oAdd (eV 3) (eBin oMul (eV 2) (eV 4))) [.d (vecD as), .d (vecD us), .d (.int m), .no, .no] = .ret (.list ((as.zip us).map fun p => .int (p.1 + m * p.2))) := by
    refine eLc_ret (ds := (as.zip us).map fun p : Int × Int => .tuple [.int p.1, .int p.2]) ?_ ?_ h1
    · unfold vecD
      simp [← zip_ints]
    · rw [List.length_map, List.length_zip]
      omega
  simp [m_law_on, F_law_on, h2]
  unfold vecD addM
  rw [List.map_map]
  rfl
theorem val_fine {k b : Nat} {v : D} (h : Fine k b v) (hk : k ≤ 10) (hb : b ≤ 1000) (hl : ∀ xs, v = .tuple xs → xs.length ≤ 1000000) : Val v :=
  ⟨fun xs e => ⟨hl xs e, h.eq (by omega)⟩, h.sm.mono (by omega) hk⟩
theorem val_tup {xs : List D} (h : ∀ x ∈ xs, Fine 5 20 x) (hl : xs.length ≤ 20) : Val (.tuple xs) :=
  val_fine (fine_tuple h hl) (by decide) (by decide) (fun ys e => by
    cases e
    omega)
theorem val_lst {xs : List D} (h : ∀ x ∈ xs, Fine 5 20 x) (hl : xs.length ≤ 20) : Val (.list xs) :=
  val_fine (fine_list h hl) (by decide) (by decide) (fun ys e => nomatch e)
theorem val_vec {ns : List Int} (h : ∀ x ∈ ns, x.natAbs < 10 ^ 50) (hl : ns.length ≤ 20) : Val (vecD ns) :=
  val_tup (fun x hx => (ints_fine' h x hx).mono (by decide) (by decide)) (by rw [List.length_map]; exact hl)
def oddL : List D := [.none, .bool true, .bool false, .str "", .str "1", .tuple [], .list [], .dict [], .tuple [.int 1], .int (10 ^ 39), .int (-1), .tuple [.tuple [], .tuple []], .tuple [.none, .int 1], .list [.int 1, .int 0], .tuple [.int 1, .int 0, .int 0, .int 0], .str "10"]
theorem val_odd : ∀ v ∈ oddL, Val v := by
  intro v hv
  unfold oddL at hv
  simp only [List.mem_cons, List.not_mem_nil, or_false] at hv
  rcases hv with rfl | rfl | rfl | rfl | rfl | rfl | rfl | rfl | rfl | rfl | rfl | rfl | rfl | rfl | rfl | rfl
  all_goals first
    | exact val_fine (fine_by (k := 5) (b := 20) (by decide +kernel)) (by decide) (by decide) (fun xs e => by cases e <;> simp)
    | exact ⟨(fun xs e => nomatch e), sm_by (by decide +kernel)⟩
theorem odd_wp : (m_law_odd [.box false]).wp Val noE := by
  have e : (eLst (aCons (eC .none) (aCons (eC (.bool true)) (aCons (eC (.bool false)) (aCons (eC (.str "")) (aCons (eC (.str "1")) (aCons (eTup aNil) (aCons (eLst aNil) (aCons (eC (.dict [])) (aCons (eTup (aCons (eC (.int 1)) aNil)) (aCons (eBin oPow (eC (.int 10)) (eC (.int 39)))
      (aCons (eUn oNeg (eC (.int 1))) (aCons (eTup (aCons (eTup aNil) (aCons (eTup aNil) aNil))) (aCons (eTup (aCons (eC .none) (aCons (eC (.int 1)) aNil))) (aCons (eLst (aCons (eC (.int 1)) (aCons (eC (.int 0)) aNil))) (aCons (eTup (aCons (eC (.int 1)) (aCons (eC (.int 0)) (aCons (eC (.int 0)) (aCons (eC (.int 0)) aNil))))) (aCons (eC (.str "10")) aNil))))))))))))))))) [.box false, .no] = .ret (.list oddL) := rfl
  rw [mq_law_odd]
  show (T.run ((eLst _ [.box false, .no]).lift _ _ |>.bind _)).wp _ _
  rw [e]
  simp
  exact pick_wp (by decide) (by decide) val_odd
theorem cut_fine {k b : Nat} {xs : List D} {lo hi : Option Int} (h : ∀ x ∈ xs, Fine k b x) : ∀ x ∈ cutD xs lo hi, Fine k b x := fun x hx => h x (cutD_mem hx)
theorem app_fine {k b : Nat} {xs ys : List D} (h : ∀ x ∈ xs, Fine k b x) (h' : ∀ x ∈ ys, Fine k b x) : ∀ x ∈ xs ++ ys, Fine k b x := fun x hx => by
  rcases List.mem_append.mp hx with z | z
  · exact h x z
  · exact h' x z
theorem one_fine {x : D} (h : Fine 5 20 x) : ∀ y ∈ [x], Fine 5 20 y := fun y hy => by
  rw [List.mem_singleton] at hy
  rw [hy]
  exact h
theorem bent_wp {ns : List Int} (h0 : 0 < ns.length) (h3 : ns.length ≤ 3) (hb : ∀ x ∈ ns, x.natAbs < 10 ^ 40) : (m_law_bent [.box false, .d (.tuple (ns.map PyData.int))]).wp Val noE := by
  have fw : ∀ x ∈ ns.map PyData.int, Fine 5 20 x := fun x hx => (ints_fine' (fun y hy => Nat.lt_trans (hb y hy) (by decide)) x hx).mono (by decide) (by decide)
  have lw : (ns.map PyData.int).length = ns.length := List.length_map ..
  generalize hW : ns.map PyData.int = W at fw lw
  simp [m_law_bent, F_law_bent]
  refine ⟨by omega, by omega, fun i i0 i1 => ?_⟩
  obtain ⟨j, rfl⟩ : ∃ j : Nat, i = j := ⟨i.toNat, by omega⟩
  have hj : j < ns.length := by omega
  obtain ⟨z, hz⟩ : ∃ z, z = ns[j] := ⟨_, rfl⟩
  have hzb := hb z (hz ▸ List.getElem_mem hj)
  have ixz : oIx (.tuple W) (.int (j : Nat)) = .ret (.int z) := by
    refine ixT_at ?_
    rw [← hW, List.getElem?_map, List.getElem?_eq_getElem hj, hz]
    rfl
  have p30 : oPow (.int 10) (.int 30) = .ret (.int (10 ^ 30)) := rfl
  have p31 : oPow (.int 10) (.int 31) = .ret (.int (10 ^ 31)) := rfl
  simp only [oPow] at p30 p31
  simp [ixz]
  refine T.wp_mono (P := Fine 5 20) ?cont (fun _ z => z) _ (pick_wp (by simp) (by simp) ?items)
  case items =>
    intro x hx
    simp only [List.mem_cons, List.not_mem_nil, or_false] at hx
    rcases hx with rfl | rfl | rfl | rfl | rfl | rfl | rfl | rfl | rfl | rfl | rfl
    all_goals first
      | exact fine_by (by decide +kernel)
      | exact (fine_int (by omega)).mono (by decide) (by decide)
  case cont =>
    intro item hi
    have a1 : (cutD W none (some (j : Int))).length ≤ 3 := by
      have := cutD_len W none (some (j : Int))
      omega
    have a2 : (cutD W (some ((j : Int) + 1)) none).length ≤ 3 := by
      have := cutD_len W (some ((j : Int) + 1)) none
      omega
    have c1 : (cutD W none (some (j : Int))).length ≤ 999999 := by omega
    have c2 : (cutD W none (some (j : Int))).length + 1 + (cutD W (some ((j : Int) + 1)) none).length ≤ 1000000 := by omega
    have c3 : W.length ≤ 999999 := by omega
    have dbl : ∀ (s1 s2 s3 : Sl), eLc [5] (iSeq (eV 1)) (bName 5) tTrue (eBin oMul (eC (.int 2)) (eV 5)) [.box false, .d (.tuple W), s1, s2, s3, .no] = .ret (.list ((ns.map fun n => 2 * n).map PyData.int)) := fun s1 s2 s3 => by
      have e : (ns.map fun n => 2 * n).map PyData.int = W.map fun d => match d with
        | .int n => PyData.int (2 * n)
        | d => d := by
        rw [← hW, List.map_map, List.map_map]
        rfl
      rw [e]
      refine eLc_ret (ds := W) rfl (by omega) (lc_map _ fun d hd => ⟨_, rfl, rfl, ?_⟩)
      rw [← hW] at hd
      obtain ⟨n, _, rfl⟩ := List.mem_map.mp hd
      simp [mul_ints (a := 2) (b := n) (by decide)]
    simp [c1, c2, c3, dbl]
    have two : ∀ x ∈ (ns.map fun n => 2 * n).map PyData.int, Fine 5 20 x := fun x hx => (ints_fine' (fun y hy => by
      obtain ⟨n, hn, rfl⟩ := List.mem_map.mp hy
      have := hb n hn
      omega) x hx).mono (by decide) (by decide)
    have z0 : Fine 5 20 (.int 0) := fine_by (by decide +kernel)
    refine pick_wp (by simp) (by simp) ?_
    intro x hx
    simp only [List.mem_cons, List.not_mem_nil, or_false] at hx
    rcases hx with rfl | rfl | rfl | rfl | rfl | rfl | rfl
    · exact val_tup (app_fine (cut_fine fw) (app_fine (one_fine hi) (cut_fine fw))) (by simp; omega)
    · exact val_tup (app_fine (cut_fine fw) (app_fine (one_fine hi) (cut_fine fw))) (by simp; omega)
    · exact val_lst fw (by omega)
    · exact val_tup (app_fine fw (one_fine z0)) (by simp; omega)
    · refine val_tup (cut_fine fw) ?_
      have := cutD_len W none (some (-1))
      omega
    · have := val_tup two (by simp; omega)
      simpa using this
    · have f1 : Fine 6 63 (.tuple W) := fine_tuple (n := 3) fw (by omega)
      refine val_fine (fine_tuple (k := 6) (b := 63) (n := 1) (fun x hx => ?_) (by simp)) (by decide) (by decide) (fun ys e => by
        cases e
        simp)
      rw [List.mem_singleton] at hx
      rw [hx]
      exact f1
theorem far_wp {m : Int} (h : 0 < m) : (m_law_far [.box false, .d (.int m)]).wp (fun d => ∃ z, d = .int z ∧ 1 ≤ z ∧ z ≤ m) noE := by
  have p6 : oPow (.int 10) (.int 6) = .ret (.int 1000000) := rfl
  simp only [oPow] at p6
  simp [m_law_far, F_law_far, p6]
  intro i i0 i1
  rw [mul_ints' (a := i) (b := 1000000) (by decide)]
  simp
  intro j j0 j1
  have r := fmod_in (i := i * 1000000 + j) h
  have hm : m ≠ 0 := by omega
  simp [hm]
  omega
/-- a vector of n small enough numbers -/
def Vec (n B : Nat) (d : D) : Prop := ∃ ns : List Int, d = vecD ns ∧ ns.length = n ∧ ∀ x ∈ ns, x.natAbs ≤ B
theorem each_vec {B : Nat} {ds : List D} : ∀ {ys : List D}, Each (fun _ y => ∃ z : Int, y = PyData.int z ∧ z.natAbs ≤ B) ds ys → ∃ ns : List Int, ys = ns.map PyData.int ∧ ns.length = ds.length ∧ ∀ n ∈ ns, n.natAbs ≤ B := by
  intro ys h
  induction h with
  | nil => exact ⟨[], rfl, rfl, fun _ z => nomatch z⟩
  | cons h1 _ ih =>
    obtain ⟨z, rfl, hz⟩ := h1
    obtain ⟨ns, rfl, hl, hb⟩ := ih
    refine ⟨z :: ns, rfl, by simp [hl], fun n hn => ?_⟩
    rcases List.mem_cons.mp hn with k | k
    · subst k
      exact hz
    · exact hb n k
theorem dir_wp {n : Nat} (h2 : 2 ≤ n) (h3 : n ≤ 3) : (m_law_direction [.box false, .d (.int n)]).wp (Vec n 4) noE := by
  refine T.le (direction_wp h2 h3) ?_
  rintro _ ⟨ns, rfl, hl, hb, _⟩
  exact ⟨ns, rfl, hl, fun x hx => by
    have := hb x hx
    omega⟩
theorem on_eq {n A M : Nat} {u v : D} {m : Int} (U : Vec n A u) (V : Vec n 4 v) (hn : n ≤ 3) (hm : m.natAbs ≤ M) : ∃ d, m_law_on [.d u, .d v, .d (.int m)] = .ret d ∧ Vec n (A + M * 4) d := by
  obtain ⟨as, rfl, la, ba⟩ := U
  obtain ⟨bs, rfl, lb, bb⟩ := V
  refine ⟨vecD ((as.zip bs).map fun p => p.1 + m * p.2), ?_, _, rfl, ?_, ?_⟩
  · have h1 := on_go (as.zip bs) (vecD as) (vecD bs) m fun p hp => bb p.2 (List.of_mem_zip hp).2
    have h2 : eLc [3, 4] (iArg oZipM (aCons (eV 0) (aCons (eV 1) aNil))) (bTup [3, 4]) tTrue (eBin oAdd (eV 3) (eBin oMul (eV 2) (eV 4))) [.d (vecD as), .d (vecD bs), .d (.int m), .no, .no] = .ret (.list ((as.zip bs).map fun p => .int (p.1 + m * p.2))) := by
      refine eLc_ret (ds := (as.zip bs).map fun p : Int × Int => .tuple [.int p.1, .int p.2]) ?_ ?_ h1
      · unfold vecD
        simp [← zip_ints]
      · rw [List.length_map, List.length_zip]
        omega
    simp [m_law_on, F_law_on, h2]
    unfold vecD
    rw [List.map_map]
    rfl
  · rw [List.length_map, List.length_zip]
    omega
  · intro x hx
    obtain ⟨p, hp, rfl⟩ := List.mem_map.mp hx
    have h1 := ba p.1 (List.of_mem_zip hp).1
    have h2 := bb p.2 (List.of_mem_zip hp).2
    have h3 := Int.natAbs_add_le p.1 (m * p.2)
    have h4 : (m * p.2).natAbs ≤ M * 4 := by
      rw [Int.natAbs_mul]
      exact Nat.mul_le_mul hm h2
    omega
end Wk40

set_option Elab.async false
set_option linter.all false
set_option maxRecDepth 100000
set_option maxHeartbeats 4000000
namespace Wk40
open PySem PySem.Spec PyProof.Rows L2 Wb
open Wb
/-! ### how far a line goes, axis by axis -/
def lo1 (s u p : Int) : Int := if u > 0 then -(p.fdiv u) else -((s - 1 - p).fdiv (-u))
def hi1 (s u p : Int) : Int := if u > 0 then (s - 1 - p).fdiv u else p.fdiv (-u)
theorem axis {s u p k : Int} (h0 : u ≠ 0) (h4 : u.natAbs ≤ 4) : (0 ≤ p + k * u ∧ p + k * u < s) ↔ (lo1 s u p ≤ k ∧ k ≤ hi1 s u p) := by
  have c : u = 1 ∨ u = 2 ∨ u = 3 ∨ u = 4 ∨ u = -1 ∨ u = -2 ∨ u = -3 ∨ u = -4 := by omega
  rcases c with rfl | rfl | rfl | rfl | rfl | rfl | rfl | rfl <;>
    (unfold lo1 hi1
     simp (decide := true) only [if_true, if_false]
     rw [Int.fdiv_eq_ediv_of_nonneg _ (by decide), Int.fdiv_eq_ediv_of_nonneg _ (by decide)]
     try simp only [show (-(-1 : Int)) = 1 from rfl, show (-(-2 : Int)) = 2 from rfl, show (-(-3 : Int)) = 3 from rfl, show (-(-4 : Int)) = 4 from rfl]
     omega)
def lowsL : List Int → List Int → List Int → List Int
  | s :: ss, u :: us, p :: ps => if u = 0 then lowsL ss us ps else lo1 s u p :: lowsL ss us ps
  | _, _, _ => []
def highsL : List Int → List Int → List Int → List Int
  | s :: ss, u :: us, p :: ps => if u = 0 then highsL ss us ps else hi1 s u p :: highsL ss us ps
  | _, _, _ => []
def insB : List Int → List Int → Bool
  | s :: ss, p :: ps => decide (0 ≤ p ∧ p < s) && insB ss ps
  | _, _ => true
def goL (ps : List Int) (k : Int) (us : List Int) : List Int := (ps.zip us).map fun q => q.1 + k * q.2
theorem ins_go : ∀ (ss us ps : List Int) (k : Int), ss.length = us.length → ps.length = us.length → (∀ u ∈ us, u.natAbs ≤ 4) → insB ss ps = true →
    (insB ss (goL ps k us) = true ↔ (∀ l ∈ lowsL ss us ps, l ≤ k) ∧ (∀ h ∈ highsL ss us ps, k ≤ h))
  | [], [], [], k, _, _, _, _ => by simp [goL, insB, lowsL, highsL]
  | s :: ss, u :: us, p :: ps, k, h1, h2, hu, hi => by
    have hi' : (decide (0 ≤ p ∧ p < s) && insB ss ps) = true := hi
    rw [Bool.and_eq_true, decide_eq_true_eq] at hi'
    have ih := ins_go ss us ps k (by simpa using h1) (by simpa using h2) (fun v hv => hu v (List.mem_cons_of_mem _ hv)) hi'.2
    have e : goL (p :: ps) k (u :: us) = (p + k * u) :: goL ps k us := rfl
    rw [e]
    show (decide (0 ≤ p + k * u ∧ p + k * u < s) && insB ss (goL ps k us)) = true ↔ _
    rw [Bool.and_eq_true, decide_eq_true_eq, ih]
    by_cases c : u = 0
    · subst c
      simp only [lowsL, highsL, if_true, Int.mul_zero, Int.add_zero]
      exact ⟨fun z => z.2, fun z => ⟨hi'.1, z⟩⟩
    · rw [axis c (hu u (List.mem_cons_self ..))]
      simp only [lowsL, highsL, c, if_false, List.mem_cons, forall_eq_or_imp]
      exact ⟨fun ⟨⟨a, b⟩, c, d⟩ => ⟨⟨a, c⟩, b, d⟩, fun ⟨⟨a, c⟩, b, d⟩ => ⟨⟨a, b⟩, c, d⟩⟩
  | [], _ :: _, _, _, h, _, _, _ => by simp at h
  | _ :: _, [], _, _, h, _, _, _ => by simp at h
  | _, [], _ :: _, _, _, h, _, _ => by simp at h
  | _, _ :: _, [], _, _, h, _, _ => by simp at h
theorem lows_ne : ∀ (ss us ps : List Int), ss.length = us.length → ps.length = us.length → (∃ u ∈ us, u ≠ 0) → (∃ a r, lowsL ss us ps = a :: r) ∧ (∃ a r, highsL ss us ps = a :: r)
  | s :: ss, u :: us, p :: ps, h1, h2, h => by
    by_cases c : u = 0
    · have ih := lows_ne ss us ps (by simpa using h1) (by simpa using h2) (by
        obtain ⟨v, hv, nv⟩ := h
        rcases List.mem_cons.mp hv with e | e
        · exact absurd (e ▸ c) nv
        · exact ⟨v, e, nv⟩)
      simp only [lowsL, highsL, c, if_true]
      exact ih
    · simp only [lowsL, highsL, c, if_false]
      exact ⟨⟨_, _, rfl⟩, _, _, rfl⟩
  | _, [], _, _, _, h => by
    obtain ⟨_, h, _⟩ := h
    cases h
  | [], _ :: _, _, h, _, _ => by simp at h
  | _, _ :: _, [], _, h, _ => by simp at h
/-- the steps back and on within a box -/
structure Span (ss us ps : List Int) (lo hi : Int) : Prop where
  at_ : ∀ k, insB ss (goL ps k us) = true ↔ lo ≤ k ∧ k ≤ hi
theorem span {ss us ps : List Int} (h1 : ss.length = us.length) (h2 : ps.length = us.length) (hu : ∀ u ∈ us, u.natAbs ≤ 4) (hi : insB ss ps = true) {a b : Int} {r t : List Int} (e1 : lowsL ss us ps = a :: r) (e2 : highsL ss us ps = b :: t) :
    Span ss us ps (mxZ a r) (mnZ b t) := ⟨fun k => by
  rw [ins_go ss us ps k h1 h2 hu hi, e1, e2]
  constructor
  · exact fun ⟨x, y⟩ => ⟨x _ (mxZ_mem r a), y _ (mnZ_mem t b)⟩
  · exact fun ⟨x, y⟩ => ⟨fun l hl => Int.le_trans (mxZ_ge r a l hl) x, fun h hh => Int.le_trans y (mnZ_le t b h hh)⟩⟩
theorem go_zero : ∀ (us ps : List Int), ps.length = us.length → goL ps 0 us = ps
  | [], [], _ => rfl
  | u :: us, p :: ps, h => by
    have ih := go_zero us ps (by simpa using h)
    have e : goL (p :: ps) 0 (u :: us) = (p + 0 * u) :: goL ps 0 us := rfl
    rw [e, ih, Int.zero_mul, Int.add_zero]
  | [], _ :: _, h => by simp at h
  | _ :: _, [], h => by simp at h
theorem Span.zero {ss us ps : List Int} {lo hi : Int} (S : Span ss us ps lo hi) (h2 : ps.length = us.length) (h : insB ss ps = true) : lo ≤ 0 ∧ 0 ≤ hi := by
  have := (S.at_ 0).mp (by rw [go_zero us ps h2]; exact h)
  exact this
/-! ### inside, as the law asks -/
theorem in_go (A B : D) : ∀ (ss ps : List Int), ∃ ys : List D, lcGo (bTup [2, 3]) (eUn oNot (eCh oLe oLt (eC (.int 0)) (eV 2) (eV 3))) (eC (.int 1)) [.d A, .d B, .no, .no] ((ps.zip ss).map fun q => .tuple [.int q.1, .int q.2]) = .ret ys ∧ ys.isEmpty = insB ss ps ∧ ys.length ≤ ps.length
  | [], ps => ⟨[], by cases ps <;> rfl, by cases ps <;> rfl, by simp⟩
  | s :: ss, [] => ⟨[], rfl, rfl, by simp⟩
  | s :: ss, p :: ps => by
    obtain ⟨ys, h1, h2, h3⟩ := in_go A B ss ps
    rw [List.zip_cons_cons, List.map_cons]
    unfold lcGo
    have hb : insB (s :: ss) (p :: ps) = (decide (0 ≤ p ∧ p < s) && insB ss ps) := rfl
    by_cases p0 : 0 ≤ p
    · by_cases p1 : p < s
      · refine ⟨ys, ?_, ?_, by simp; omega⟩
        · simp [p0, p1, h1]
        · rw [hb, h2]
          simp [p0, p1]
      · refine ⟨.int 1 :: ys, ?_, ?_, by simp; omega⟩
        · simp [p0, p1, h1]
        · rw [hb]
          simp [p0, p1]
    · refine ⟨.int 1 :: ys, ?_, ?_, by simp; omega⟩
      · simp [p0, h1]
      · rw [hb]
        simp [p0]
theorem inside_eq {ss ps : List Int} (hl : ps.length ≤ 1000) : m_law_inside [.d (vecD ss), .d (vecD ps)] = .ret (.bool (insB ss ps)) := by
  obtain ⟨ys, h1, h2, h3⟩ := in_go (vecD ss) (vecD ps) ss ps
  have h : eLc [2, 3] (iArg oZipM (aCons (eV 1) (aCons (eV 0) aNil))) (bTup [2, 3]) (eUn oNot (eCh oLe oLt (eC (.int 0)) (eV 2) (eV 3))) (eC (.int 1)) [.d (vecD ss), .d (vecD ps), .no, .no] = .ret (.list ys) := by
    refine eLc_ret (ds := (ps.zip ss).map fun q : Int × Int => .tuple [.int q.1, .int q.2]) ?_ ?_ h1
    · unfold vecD
      simp [← zip_ints]
    · rw [List.length_map, List.length_zip]
      omega
  have e : oEqN (.list ys) (.list []) = .ret (.bool ys.isEmpty) := rfl
  generalize vecD ss = VS at *
  generalize vecD ps = VP at *
  simp [m_law_inside, F_law_inside, h, e, h2]
theorem vec_eq {as bs : List Int} (ca : cEq (vecD as) = true) (cb : cEq (vecD bs) = true) : oEq (vecD as) (vecD bs) = .ret (.bool (decide (as = bs))) := by
  have e := eq_fine ca cb
  rw [eqv_vec] at e
  exact e
theorem cEq_vec {ns : List Int} (h : ∀ x ∈ ns, x.natAbs < 10 ^ 50) (hl : ns.length ≤ 100) : cEq (vecD ns) = true := (vec_fine h (m := 100) hl).eq (by decide)
theorem go_go : ∀ (us ps : List Int) (a b : Int), ps.length = us.length → goL (goL ps a us) b us = goL ps (a + b) us
  | [], [], _, _, _ => rfl
  | u :: us, p :: ps, a, b, h => by
    have ih := go_go us ps a b (by simpa using h)
    have e : ∀ (q : Int) (qs : List Int) (k : Int), goL (q :: qs) k (u :: us) = (q + k * u) :: goL qs k us := fun _ _ _ => rfl
    rw [e, e, e, ih, Int.add_mul, Int.add_assoc]
  | [], _ :: _, _, _, h => by simp at h
  | _ :: _, [], _, _, h => by simp at h
theorem go_len (us ps : List Int) (k : Int) (h : ps.length = us.length) : (goL ps k us).length = us.length := by
  unfold goL
  rw [List.length_map, List.length_zip, h, Nat.min_self]
theorem ins_le : ∀ {ss ps : List Int}, (∀ s ∈ ss, s ≤ 1000000000) → ps.length = ss.length → insB ss ps = true → ∀ p ∈ ps, 0 ≤ p ∧ p < 1000000000
  | [], [], _, _, _ => fun p hp => by cases hp
  | s :: ss, q :: ps, hs, hl, h => fun p hp => by
    have h : (decide (0 ≤ q ∧ q < s) && insB ss ps) = true := h
    rw [Bool.and_eq_true, decide_eq_true_eq] at h
    rcases List.mem_cons.mp hp with rfl | hp
    · have := hs s (List.mem_cons_self ..)
      omega
    · exact ins_le (fun s hs' => hs s (List.mem_cons_of_mem _ hs')) (by simpa using hl) h.2 p hp
  | [], _ :: _, _, h, _ => by simp at h
  | _ :: _, [], _, h, _ => by simp at h
/-! ### boxes and spots that are drawn -/
def BoxOk (n : Nat) (M : Int) (v : D) : Prop := ∃ ss : List Int, v = vecD ss ∧ ss.length = n ∧ ∀ s ∈ ss, 1 ≤ s ∧ s ≤ M
theorem box_wp {n : Nat} (h2 : 2 ≤ n) (h3 : n ≤ 3) : (m_law_box [.box false, .d (.int (n : Nat))]).wp (BoxOk n 8) noE := by
  have im : ∃ M : Int, 1 ≤ M ∧ M ≤ 8 ∧ oIx (.list [.int 8, .int 5]) (.int ((n : Int) - 2)) = .ret (.int M) := by
    have : n = 2 ∨ n = 3 := by omega
    rcases this with rfl | rfl
    · exact ⟨8, by decide, by decide, rfl⟩
    · exact ⟨5, by decide, by decide, rfl⟩
  obtain ⟨M, m1, m8, im⟩ := im
  have A : (eLc [3] (iArg oRng1 (aCons (eV 1) aNil)) (bName 3) tTrue (eBin oAdd (eC (.int 1)) (eCall 2 m_law_dip (aBox 0 (aCons (eV 2) aNil)))) [.box false, .d (.int (n : Nat)), .d (.int M), .no]).wp (fun d => ∃ ns : List Int, d = .list (ns.map PyData.int) ∧ ns.length = n ∧ ∀ x ∈ ns, 1 ≤ x ∧ x ≤ 8) noE := by
    refine eLc_wp (ds := rangeD 0 n) (by simp [oRng1_nat (n := n) (by omega)]) (by rw [rangeD_len]; omega) (lc_wp (R := fun _ y => ∃ z, y = PyData.int z ∧ (1 : Int) ≤ z ∧ z ≤ 8) _ (fun d _ => ⟨_, rfl, rfl, ?_⟩) fun ys hy => ?_)
    · simp
      refine ⟨by omega, by omega, fun i i0 i1 => ?_⟩
      omega
    · obtain ⟨ns, rfl, hl, hb⟩ := each_ints hy
      exact ⟨ns, rfl, by rw [hl, rangeD_len], hb⟩
  rw [mq_law_box]
  simp [F_law_box, im]
  refine T.le A ?_
  rintro d ⟨ns, rfl, hl, hb⟩
  simp
  exact ⟨ns, rfl, hl, hb⟩
theorem great_wp {n : Nat} (h3 : n ≤ 3) : (m_law_great [.box false, .d (.int (n : Nat))]).wp (BoxOk n 1000000000) noE := by
  have p9 : oPow (.int 10) (.int 9) = .ret (.int 1000000000) := rfl
  simp only [oPow] at p9
  have A : ∀ xs : List D, 0 < xs.length → xs.length < 100 → (∀ x ∈ xs, ∃ z, x = PyData.int z ∧ (1 : Int) ≤ z ∧ z ≤ 1000000000) → (eLc [3] (iArg oRng1 (aCons (eV 1) aNil)) (bName 3) tTrue (eCall 2 m_law_pick (aBox 0 (aCons (eV 2) aNil))) [.box false, .d (.int (n : Nat)), .d (.list xs), .no]).wp (fun d => ∃ ns : List Int, d = .list (ns.map PyData.int) ∧ ns.length = n ∧ ∀ x ∈ ns, 1 ≤ x ∧ x ≤ 1000000000) noE := fun xs l0 l1 h => by
    refine eLc_wp (ds := rangeD 0 n) (by simp [oRng1_nat (n := n) (by omega)]) (by rw [rangeD_len]; omega) (lc_wp (R := fun _ y => ∃ z, y = PyData.int z ∧ (1 : Int) ≤ z ∧ z ≤ 1000000000) _ (fun d _ => ⟨_, rfl, rfl, ?_⟩) fun ys hy => ?_)
    · simp
      exact pick_wp l0 (by omega) h
    · obtain ⟨ns, rfl, hl, hb⟩ := each_ints hy
      exact ⟨ns, rfl, by rw [hl, rangeD_len], hb⟩
  rw [mq_law_great]
  simp [F_law_great, p9]
  intro i i0 i1
  refine T.le (far_wp (by decide)) ?_
  rintro _ ⟨z1, rfl, a1, a2⟩
  try simp
  refine T.le (far_wp (by decide)) ?_
  rintro _ ⟨z2, rfl, b1, b2⟩
  try simp
  refine T.le (A _ (by simp) (by simp) ?_) ?_
  · intro x hx
    simp only [List.mem_cons, List.not_mem_nil, or_false] at hx
    rcases hx with rfl | rfl | rfl | rfl | rfl
    all_goals exact ⟨_, rfl, by omega, by omega⟩
  · rintro d ⟨ns, rfl, hl, hb⟩
    simp
    exact ⟨ns, rfl, hl, hb⟩
theorem wrong_wp {n : Nat} (h2 : 2 ≤ n) (h3 : n ≤ 3) : (m_law_wrong [.box false, .d (.int (n : Nat))]).wp (fun v => Val v ∧ dirB n v = false) noE := by
  have r8 : oRng1 [.d (.int 8)] = .ret (rangeD 0 8) := rfl
  rw [mq_law_wrong]
  simp [F_law_wrong, r8]
  refine h_go (fun ρ => ∃ s2 s3, ρ = [.box false, .d (.int (n : Nat)), s2, s3]) _ _ ⟨_, _, rfl⟩ ?_ ?_
  · rintro d _ ρ ⟨s2, s3, rfl⟩
    refine ⟨_, rfl, ?_⟩
    simp
    refine T.le (dir_wp h2 h3) ?_
    rintro d ⟨ns, rfl, hl, hb⟩
    try simp
    refine T.le (bent_wp (ns := ns) (by omega) (by omega) (fun x hx => Nat.lt_of_le_of_lt (hb x hx) (by decide +kernel))) fun v1 hv1 => ?_
    try simp
    refine T.le odd_wp fun v2 hv2 => ?_
    try simp
    refine pick_wp (by simp) (by simp) ?_
    intro x hx
    simp only [List.mem_cons, List.not_mem_nil, or_false] at hx
    have hv : Val x := by
      rcases hx with rfl | rfl
      · exact hv1
      · exact hv2
    have e := law_is_direction_eq (n := (n : Int)) hv
    cases hd : dirB n x with
    | true => simp [e, hd, turnF]
    | false => simp [e, hd, turnF, hv]
  · rintro ρ ⟨s2, s3, rfl⟩
    simp
    exact ⟨val_odd _ (by simp [oddL]), rfl⟩
theorem gcdL_zeros : ∀ {us : List Int}, (∀ u ∈ us, u = 0) → gcdL us = 0 := by
  intro us
  unfold gcdL
  have : ∀ (us : List Int), (∀ u ∈ us, u = 0) → us.foldl (fun g n => Nat.gcd g n.natAbs) 0 = 0 := by
    intro us
    induction us with
    | nil => exact fun _ => rfl
    | cons u r ih =>
      intro h
      have e := h u (List.mem_cons_self ..)
      subst e
      simp only [List.foldl_cons]
      exact ih fun v hv => h v (List.mem_cons_of_mem _ hv)
  exact this us
theorem dir_facts {us : List Int} {n : Nat} (hl : us.length = n) (hb : ∀ x ∈ us, -4 ≤ x ∧ x ≤ 4) (g : gcdL us = 1) : dirB (n : Nat) (vecD us) = true ∧ (∀ u ∈ us, u.natAbs ≤ 4) ∧ ∃ u ∈ us, u ≠ 0 := by
  refine ⟨?_, fun u hu => by have := hb u hu; omega, ?_⟩
  · unfold dirB
    rw [okv_vec (n := (n : Nat)) (m := 4) (by rw [hl]) hb]
    simp only [vecD, intsD_map, g]
    rfl
  · apply Classical.byContradiction
    intro hn
    have hz : ∀ u ∈ us, u = 0 := fun u hu => Classical.byContradiction fun z => hn ⟨u, hu, z⟩
    have := gcdL_zeros hz
    omega
theorem ne_vec {ns : List Int} (h : ∀ x ∈ ns, x.natAbs < 10 ^ 50) (hl : ns.length ≤ 100) : oNe (vecD ns) (vecD ns) = .ret (.bool false) := by
  have c := cEq_vec h hl
  have e := ne_fine c c
  rw [eqv_vec] at e
  simpa using e
end Wk40

set_option Elab.async false
set_option linter.all false
set_option maxRecDepth 100000
set_option maxHeartbeats 4000000
namespace Wk40
open PySem PySem.Spec PyProof.Rows L2 Wb
/-! ### counts -/
def prodZ (a : Int) (ns : List Int) : Int := ns.foldl (fun a n => a * n) a
theorem count_go : ∀ (ns : List Int) (v s : Sl) (a : Int), (∀ n ∈ ns, n.natAbs < 18446744073709551616) →
    ∃ s', forGo (bName 2) (sSet 1 (eBin oMul (eV 1) (eV 2))) (ns.map PyData.int) [v, .d (.int a), s] = .ret (.nx [v, .d (.int (prodZ a ns)), s'])
  | [], v, s, a, _ => ⟨s, rfl⟩
  | n :: r, v, s, a, h => by
    obtain ⟨s', ih⟩ := count_go r v (.d (.int n)) (a * n) fun q hq => h q (List.mem_cons_of_mem _ hq)
    have e := mul_ints' (a := a) (b := n) (h n (List.mem_cons_self ..))
    refine ⟨s', ?_⟩
    rw [List.map_cons]
    unfold forGo
    simp [e, ih, prodZ]
theorem count_tup {ns : List Int} (h : ∀ n ∈ ns, n.natAbs < 18446744073709551616) : m_count_points [.d (vecD ns)] = .ret (.int (prodZ 1 ns)) := by
  obtain ⟨s', e⟩ := count_go ns (.d (vecD ns)) .no 1 h
  unfold vecD at *
  simp [m_count_points, F_count_points, e]
theorem count_lst {ns : List Int} (h : ∀ n ∈ ns, n.natAbs < 18446744073709551616) : m_count_points [.d (.list (ns.map PyData.int))] = .ret (.int (prodZ 1 ns)) := by
  obtain ⟨s', e⟩ := count_go ns (.d (.list (ns.map PyData.int))) .no 1 h
  simp [m_count_points, F_count_points, e]
theorem prod_bound : ∀ (ns : List Int) (a : Int) (M : Nat), 0 ≤ a → a ≤ M → (∀ n ∈ ns, 0 ≤ n ∧ n ≤ 1000000000) → 0 ≤ prodZ a ns ∧ prodZ a ns ≤ ((M * 1000000000 ^ ns.length : Nat) : Int)
  | [], a, M, h0, h1, _ => ⟨h0, by simpa [prodZ] using h1⟩
  | n :: r, a, M, h0, h1, h => by
    have hn := h n (List.mem_cons_self ..)
    have p0 : 0 ≤ a * n := Int.mul_nonneg h0 hn.1
    have p1 : a * n ≤ (M : Int) * 1000000000 := Int.mul_le_mul h1 hn.2 hn.1 (by omega)
    have ih := prod_bound r (a * n) (M * 1000000000) p0 (by simpa using p1) fun q hq => h q (List.mem_cons_of_mem _ hq)
    have e : M * 1000000000 * 1000000000 ^ r.length = M * 1000000000 ^ (n :: r).length := by
      rw [List.length_cons, Nat.pow_succ, Nat.mul_assoc, Nat.mul_comm 1000000000]
    rw [e] at ih
    exact ih
end Wk40

set_option Elab.async false
set_option linter.all false
set_option maxRecDepth 100000
set_option maxHeartbeats 4000000
namespace Wk40
open PySem PySem.Spec PyProof.Rows L2 Wb
/-! ### what stays of a box after some steps -/
def stayM (m b u : Int) : Int := if m * (u.natAbs : Int) < b then b - m * (u.natAbs : Int) else 0
def stL (m : Int) (bs us : List Int) : List Int := (bs.zip us).map fun p => stayM m p.1 p.2
def NZ (bs us : List Int) (m : Int) : Int := prodZ 1 (stL m bs us)
theorem prod_mul : ∀ (ns : List Int) (a : Int), prodZ a ns = a * prodZ 1 ns
  | [], a => by simp [prodZ]
  | n :: ns, a => by
    show prodZ (a * n) ns = a * prodZ (1 * n) ns
    rw [prod_mul ns (a * n), prod_mul ns (1 * n), Int.one_mul, Int.mul_assoc]
theorem NZ_cons (b u m : Int) (bs us : List Int) : NZ (b :: bs) (u :: us) m = stayM m b u * NZ bs us m := by
  show prodZ (1 * stayM m b u) (stL m bs us) = _
  rw [prod_mul, Int.one_mul]
  rfl
theorem NZ_nil (m : Int) : NZ [] [] m = 1 := rfl
theorem stay_ge {m b u : Int} (hb : 1 ≤ b) : 0 ≤ stayM m b u := by
  unfold stayM
  split <;> omega
theorem stay_le' {m b u M : Int} (hm : 0 ≤ m) (hb : b ≤ M) (h1 : 1 ≤ b) : stayM m b u ≤ M := by
  unfold stayM
  have : 0 ≤ m * (u.natAbs : Int) := Int.mul_nonneg hm (by omega)
  split <;> omega
theorem stL_le {m M : Int} {bs us : List Int} (hm : 0 ≤ m) (hb : ∀ b ∈ bs, 1 ≤ b ∧ b ≤ M) : ∀ n ∈ stL m bs us, 0 ≤ n ∧ n ≤ M := fun n hn => by
  obtain ⟨p, hp, rfl⟩ := List.mem_map.mp hn
  have := hb p.1 (List.of_mem_zip hp).1
  exact ⟨stay_ge this.1, stay_le' hm this.2 this.1⟩
theorem NZ_zero : ∀ (bs us : List Int), bs.length = us.length → (∀ b ∈ bs, 1 ≤ b) → NZ bs us 0 = prodZ 1 bs
  | [], [], _, _ => rfl
  | b :: bs, u :: us, h, hb => by
    have e : stayM 0 b u = b := by
      have := hb b (List.mem_cons_self ..)
      unfold stayM
      rw [Int.zero_mul, if_pos (by omega)]
      omega
    rw [NZ_cons, NZ_zero bs us (by simpa using h) fun x hx => hb x (List.mem_cons_of_mem _ hx), e]
    show _ = prodZ (1 * b) bs
    rw [prod_mul bs (1 * b), Int.one_mul]
  | [], _ :: _, h, _ => by simp at h
  | _ :: _, [], h, _ => by simp at h
theorem NZ_pos : ∀ (bs us : List Int) (m : Int), bs.length = us.length → (∀ p ∈ bs.zip us, m * (p.2.natAbs : Int) < p.1) → 1 ≤ NZ bs us m
  | [], [], _, _, _ => by rw [NZ_nil]; omega
  | b :: bs, u :: us, m, h, hp => by
    rw [NZ_cons]
    have ih := NZ_pos bs us m (by simpa using h) fun x hx => hp x (List.mem_cons_of_mem _ hx)
    have h1 := hp (b, u) (List.mem_cons_self ..)
    have e : 1 ≤ stayM m b u := by
      unfold stayM
      rw [if_pos h1]
      have : m * (u.natAbs : Int) < b := h1
      omega
    have := Int.mul_le_mul e ih (by omega) (by omega)
    omega
  | [], _ :: _, _, h, _ => by simp at h
  | _ :: _, [], _, h, _ => by simp at h
theorem NZ_none : ∀ (bs us : List Int) (m : Int), (∃ p ∈ bs.zip us, p.1 ≤ m * (p.2.natAbs : Int)) → NZ bs us m = 0
  | b :: bs, u :: us, m, ⟨p, hp, h⟩ => by
    rw [NZ_cons]
    rcases List.mem_cons.mp hp with rfl | hp
    · have e : stayM m b u = 0 := by
        unfold stayM
        rw [if_neg (by have h : b ≤ m * (u.natAbs : Int) := h; omega)]
      rw [e, Int.zero_mul]
    · rw [NZ_none bs us m ⟨p, hp, h⟩, Int.mul_zero]
  | [], us, m, ⟨p, hp, _⟩ => by simp at hp
  | _ :: _, [], m, ⟨p, hp, _⟩ => by simp at hp
/-! ### points, counted -/
def ptsR : List Int → List (List Int)
  | [] => [[]]
  | s :: ss => (List.range s.toNat).flatMap fun (i : Nat) => (ptsR ss).map fun p => (i : Int) :: p
def extP (fd : List (List Int)) (s : Int) : List (List Int) := fd.flatMap fun p => (List.range s.toNat).map fun (i : Nat) => p ++ [(i : Int)]
def ptsF (fd : List (List Int)) (ss : List Int) : List (List Int) := ss.foldl extP fd
theorem ptsF_eq : ∀ (ss : List Int) (fd : List (List Int)), ptsF fd ss = fd.flatMap fun p => (ptsR ss).map fun q => p ++ q
  | [], fd => by
    show fd = _
    have : (fun p : List Int => (ptsR []).map fun q => p ++ q) = fun p => [p] := by
      funext p
      simp [ptsR]
    rw [this]
    simp
  | s :: ss, fd => by
    show ptsF (extP fd s) ss = _
    rw [ptsF_eq ss]
    unfold extP
    rw [List.flatMap_assoc]
    congr 1
    funext p
    simp only [ptsR, List.flatMap_map, List.map_flatMap, List.map_map]
    congr 1
    funext i
    congr 1
    funext q
    simp
theorem pts_eq (ss : List Int) : ptsF [[]] ss = ptsR ss := by
  rw [ptsF_eq]
  simp
theorem pts_ok : ∀ (ss : List Int), ∀ p ∈ ptsR ss, p.length = ss.length ∧ insB ss p = true
  | [], p, h => by
    rw [ptsR, List.mem_singleton] at h
    subst h
    exact ⟨rfl, rfl⟩
  | s :: ss, p, h => by
    rw [ptsR, List.mem_flatMap] at h
    obtain ⟨i, hi, h⟩ := h
    obtain ⟨q, hq, rfl⟩ := List.mem_map.mp h
    obtain ⟨a, b⟩ := pts_ok ss q hq
    rw [List.mem_range] at hi
    refine ⟨by simp [a], ?_⟩
    show (decide (0 ≤ (i : Int) ∧ (i : Int) < s) && insB ss q) = true
    rw [b, Bool.and_true, decide_eq_true_eq]
    omega
theorem pts_len : ∀ (ss : List Int), (∀ s ∈ ss, s ≤ 8) → (ptsR ss).length ≤ 8 ^ ss.length
  | [], _ => by simp [ptsR]
  | s :: ss, h => by
    have ih := pts_len ss fun x hx => h x (List.mem_cons_of_mem _ hx)
    have hs := h s (List.mem_cons_self ..)
    have : ∀ l : List Nat, (l.flatMap fun (i : Nat) => (ptsR ss).map fun p => (i : Int) :: p).length = l.length * (ptsR ss).length := by
      intro l
      induction l with
      | nil => simp
      | cons a l ih => rw [List.flatMap_cons, List.length_append, ih, List.length_map, List.length_cons, Nat.succ_mul, Nat.add_comm]
    rw [ptsR, this, List.length_range, List.length_cons, Nat.pow_succ, Nat.mul_comm]
    exact Nat.mul_le_mul ih (by omega)
/-- a test axis by axis -/
def allB (c : Int → Int → Int → Bool) : List Int → List Int → List Int → Bool
  | s :: ss, u :: us, p :: ps => c s u p && allB c ss us ps
  | _, _, _ => true
theorem count_row (f : Nat → Bool) (g : List Int → Bool) (X : List (List Int)) : ∀ l : List Nat, ((l.flatMap fun (i : Nat) => X.map fun p => (i : Int) :: p).countP fun p => match p with
    | i :: p => f i.toNat && g p
    | [] => false) = l.countP f * X.countP g
  | [] => by simp
  | i :: l => by
    rw [List.flatMap_cons, List.countP_append, count_row f g X l, List.countP_map, List.countP_cons]
    have e : ((fun p : List Int => match p with
      | i :: p => f i.toNat && g p
      | [] => false) ∘ fun p => (i : Int) :: p) = fun p => f i && g p := by
      funext p
      simp
    rw [e]
    cases h : f i with
    | true =>
      rw [show (fun p => true && g p) = g from funext fun p => Bool.true_and _]
      simp only [if_true, Nat.add_mul, Nat.one_mul]
      omega
    | false => simp
theorem count_all (c : Int → Int → Int → Bool) (t : Int → Int → Int) : ∀ (ss us : List Int), ss.length = us.length → (∀ p ∈ ss.zip us, (((List.range p.1.toNat).countP fun i : Nat => c p.1 p.2 i : Nat) : Int) = t p.1 p.2) →
    (((ptsR ss).countP fun p => allB c ss us p : Nat) : Int) = prodZ 1 ((ss.zip us).map fun p => t p.1 p.2)
  | [], [], _, _ => by simp [ptsR, allB, prodZ]
  | s :: ss, u :: us, hl, h => by
    have ih := count_all c t ss us (by simpa using hl) fun p hp => h p (List.mem_cons_of_mem _ hp)
    have h1 := h (s, u) (List.mem_cons_self ..)
    have e : ((ptsR (s :: ss)).countP fun p => allB c (s :: ss) (u :: us) p) = (List.range s.toNat).countP (fun i : Nat => c s u i) * (ptsR ss).countP fun p => allB c ss us p := by
      rw [ptsR, ← count_row (fun i => c s u i) (fun p => allB c ss us p) (ptsR ss)]
      refine List.countP_congr fun p hp => ?_
      rw [List.mem_flatMap] at hp
      obtain ⟨i, _, hp⟩ := hp
      obtain ⟨q, _, rfl⟩ := List.mem_map.mp hp
      simp [allB]
    rw [e, Int.natCast_mul, ih, h1, List.zip_cons_cons, List.map_cons]
    show _ = prodZ (1 * t s u) _
    rw [prod_mul _ (1 * t s u), Int.one_mul]
  | [], _ :: _, h, _ => by simp at h
  | _ :: _, [], h, _ => by simp at h
def cA (k : Int) (s u i : Int) : Bool := decide (0 ≤ i + k * u ∧ i + k * u < s)
def cAB (k : Int) (s u i : Int) : Bool := cA k s u i && cA (-1) s u i
theorem axisA : ∀ s : Fin 9, ∀ u : Fin 9, ∀ k : Fin 10, (((List.range (s : Nat)).countP fun i : Nat => cA (k : Nat) (s : Nat) ((u : Nat) - 4) i : Nat) : Int) = if (s : Nat) = 0 then 0 else stayM (k : Nat) (s : Nat) ((u : Nat) - 4) := by decide +kernel
theorem axisAB : ∀ s : Fin 9, ∀ u : Fin 9, ∀ k : Fin 10, (((List.range (s : Nat)).countP fun i : Nat => cAB (k : Nat) (s : Nat) ((u : Nat) - 4) i : Nat) : Int) = if (s : Nat) = 0 then 0 else stayM ((k : Nat) + 1) (s : Nat) ((u : Nat) - 4) := by decide +kernel
theorem all_ins (k : Int) : ∀ (ss us ps : List Int), ss.length = us.length → ps.length = us.length → allB (cA k) ss us ps = insB ss (goL ps k us)
  | [], [], [], _, _ => rfl
  | s :: ss, u :: us, p :: ps, h1, h2 => by
    have ih := all_ins k ss us ps (by simpa using h1) (by simpa using h2)
    show (cA k s u p && allB (cA k) ss us ps) = (decide (0 ≤ p + k * u ∧ p + k * u < s) && insB ss (goL ps k us))
    rw [ih]
    rfl
  | [], _ :: _, _, h, _ => by simp at h
  | _ :: _, [], _, h, _ => by simp at h
  | _, [], _ :: _, _, h => by simp at h
  | _, _ :: _, [], _, h => by simp at h
theorem all_and (k : Int) : ∀ (ss us ps : List Int), allB (cAB k) ss us ps = (allB (cA k) ss us ps && allB (cA (-1)) ss us ps)
  | [], _, _ => rfl
  | _ :: _, [], _ => rfl
  | _ :: _, _ :: _, [] => rfl
  | s :: ss, u :: us, p :: ps => by
    show (cA k s u p && cA (-1) s u p && allB (cAB k) ss us ps) = ((cA k s u p && allB (cA k) ss us ps) && (cA (-1) s u p && allB (cA (-1)) ss us ps))
    rw [all_and k ss us ps]
    cases cA k s u p <;> cases cA (-1) s u p <;> cases allB (cA k) ss us ps <;> simp
theorem fin_of {s : Int} {n : Nat} (h0 : 0 ≤ s) (h1 : s < n) : ∃ f : Fin n, s = ((f : Nat) : Int) := ⟨⟨s.toNat, by omega⟩, by show s = ((s.toNat : Nat) : Int); omega⟩
theorem cntA {k : Int} (hk : 0 ≤ k ∧ k ≤ 9) {ss us : List Int} (hl : ss.length = us.length) (hs : ∀ s ∈ ss, 1 ≤ s ∧ s ≤ 8) (hu : ∀ u ∈ us, u.natAbs ≤ 4) : (((ptsR ss).countP fun p => insB ss (goL p k us) : Nat) : Int) = NZ ss us k := by
  have e := count_all (cA k) (fun s u => stayM k s u) ss us hl fun p hp => ?_
  · rw [← show prodZ 1 ((ss.zip us).map fun p => stayM k p.1 p.2) = NZ ss us k from rfl, ← e]
    congr 1
    refine List.countP_congr fun p hp => ?_
    rw [all_ins k ss us p hl (by rw [(pts_ok ss p hp).1, hl])]
  · obtain ⟨a, b⟩ := List.of_mem_zip hp
    have a := hs _ a
    have b := hu _ b
    obtain ⟨s, e1⟩ := fin_of (s := p.1) (n := 9) (by omega) (by omega)
    obtain ⟨u, e2⟩ := fin_of (s := p.2 + 4) (n := 9) (by omega) (by omega)
    obtain ⟨j, e3⟩ := fin_of (s := k) (n := 10) (by omega) (by omega)
    have e2 : p.2 = ((u : Nat) : Int) - 4 := by omega
    have := axisA s u j
    rw [if_neg (by omega)] at this
    rw [e1, e2, e3, Int.toNat_natCast]
    exact this
theorem cntAB {k : Int} (hk : 0 ≤ k ∧ k ≤ 9) {ss us : List Int} (hl : ss.length = us.length) (hs : ∀ s ∈ ss, 1 ≤ s ∧ s ≤ 8) (hu : ∀ u ∈ us, u.natAbs ≤ 4) : (((ptsR ss).countP fun p => insB ss (goL p k us) && insB ss (goL p (-1) us) : Nat) : Int) = NZ ss us (k + 1) := by
  have e := count_all (cAB k) (fun s u => stayM (k + 1) s u) ss us hl fun p hp => ?_
  · rw [← show prodZ 1 ((ss.zip us).map fun p => stayM (k + 1) p.1 p.2) = NZ ss us (k + 1) from rfl, ← e]
    congr 1
    refine List.countP_congr fun p hp => ?_
    rw [all_and, all_ins k ss us p hl (by rw [(pts_ok ss p hp).1, hl]), all_ins (-1) ss us p hl (by rw [(pts_ok ss p hp).1, hl])]
  · obtain ⟨a, b⟩ := List.of_mem_zip hp
    have a := hs _ a
    have b := hu _ b
    obtain ⟨s, e1⟩ := fin_of (s := p.1) (n := 9) (by omega) (by omega)
    obtain ⟨u, e2⟩ := fin_of (s := p.2 + 4) (n := 9) (by omega) (by omega)
    obtain ⟨j, e3⟩ := fin_of (s := k) (n := 10) (by omega) (by omega)
    have e2 : p.2 = ((u : Nat) : Int) - 4 := by omega
    have := axisAB s u j
    rw [if_neg (by omega)] at this
    rw [e1, e2, e3, Int.toNat_natCast]
    exact this
theorem count_split (p q : List Int → Bool) : ∀ l : List (List Int), l.countP p = (l.countP fun x => p x && q x) + ((l.filter fun x => !q x).countP p)
  | [] => rfl
  | x :: l => by
    have ih := count_split p q l
    simp only [List.countP_cons, List.filter_cons, ih]
    cases hq : q x <;> cases hp : p x <;> simp [List.countP_cons, hp] <;> omega
def firstsL (ss us : List Int) : List (List Int) := (ptsR ss).filter fun p => !insB ss (goL p (-1) us)
/-- first points from which some steps stay in the box -/
theorem cntF {k : Int} (hk : 0 ≤ k ∧ k ≤ 9) {ss us : List Int} (hl : ss.length = us.length) (hs : ∀ s ∈ ss, 1 ≤ s ∧ s ≤ 8) (hu : ∀ u ∈ us, u.natAbs ≤ 4) : (((firstsL ss us).countP fun p => insB ss (goL p k us) : Nat) : Int) = NZ ss us k - NZ ss us (k + 1) := by
  have a := cntA hk hl hs hu
  have b := cntAB hk hl hs hu
  have c := count_split (fun p => insB ss (goL p k us)) (fun p => insB ss (goL p (-1) us)) (ptsR ss)
  unfold firstsL
  omega
end Wk40

set_option Elab.async false
set_option linter.all false
set_option maxRecDepth 100000
set_option maxHeartbeats 4000000
namespace Wk40
open PySem PySem.Spec PyProof.Rows L2 Wb
/-! ### the program's counts -/
theorem stay_go {m : Int} : ∀ (ps : List (Int × Int)) (u v : D), (∀ p ∈ ps, p.2.natAbs ≤ 4) →
    lcGo (bTup [3, 4]) tTrue (eCb oMax2 (aCons (eC (.int 0)) (aCons (eBin oSub (eV 3) (eBin oMul (eV 2) (eCb (o1 oAbs) (aCons (eV 4) aNil)))) aNil))) [.d u, .d v, .d (.int m), .no, .no] (ps.map fun p => .tuple [.int p.1, .int p.2]) = .ret (ps.map fun p => .int (stayM m p.1 p.2))
  | [], _, _, _ => rfl
  | p :: r, u, v, h => by
    have ih := stay_go (m := m) r u v fun q hq => h q (List.mem_cons_of_mem _ hq)
    have h1 := h p (List.mem_cons_self ..)
    have e := mul_ints' (a := m) (b := (p.2.natAbs : Int)) (by omega)
    rw [List.map_cons]
    unfold lcGo
    simp [abs_nat, e, ih, stayM]
theorem stay_eq {m : Int} {bs us : List Int} (hl : bs.length ≤ 1000) (hu : ∀ u ∈ us, u.natAbs ≤ 4) (hm : 0 ≤ m) (hb : ∀ b ∈ bs, 1 ≤ b ∧ b ≤ 1000000000) : m_count_staying [.d (vecD bs), .d (vecD us), .d (.int m)] = .ret (.int (NZ bs us m)) := by
  have h1 := stay_go (m := m) (bs.zip us) (vecD bs) (vecD us) fun p hp => hu _ (List.of_mem_zip hp).2
  have h2 : eLc [3, 4] (iArg oZipM (aCons (eV 0) (aCons (eV 1) aNil))) (bTup [3, 4]) tTrue (eCb oMax2 (aCons (eC (.int 0)) (aCons (eBin oSub (eV 3) (eBin oMul (eV 2) (eCb (o1 oAbs) (aCons (eV 4) aNil)))) aNil))) [.d (vecD bs), .d (vecD us), .d (.int m), .no, .no] = .ret (.list ((stL m bs us).map PyData.int)) := by
    refine eLc_ret (ds := (bs.zip us).map fun p : Int × Int => .tuple [.int p.1, .int p.2]) ?_ ?_ ?_
    · unfold vecD
      simp [← zip_ints]
    · rw [List.length_map, List.length_zip]
      omega
    · refine h1.trans ?_
      unfold stL
      rw [List.map_map]
      rfl
  have h3 := count_lst (ns := stL m bs us) fun n hn => by
    have := stL_le hm hb n hn
    omega
  have e : prodZ 1 (stL m bs us) = NZ bs us m := rfl
  rw [e] at h3
  simp [m_count_staying, F_count_staying, h2, h3]
theorem lines_eq {bs us : List Int} (hl : bs.length ≤ 1000) (hu : ∀ u ∈ us, u.natAbs ≤ 4) (ul : us.length ≤ 1000) (hb : ∀ b ∈ bs, 1 ≤ b ∧ b ≤ 1000000000) (hd : dirB bs.length (vecD us) = true) : m_count_lines [.d (vecD bs), .d (vecD us)] = .ret (.int (prodZ 1 bs - NZ bs us 1)) := by
  have ln : oLen [.d (vecD bs)] = .ret (.int (bs.length : Nat)) := by
    unfold vecD
    simp
  have d := is_direction_eq (v := vecD us) (n := bs.length) fun xs e => by
    cases e
    rw [List.length_map]
    omega
  rw [hd] at d
  have c := count_tup (ns := bs) fun n hn => by have := hb n hn; omega
  have s := stay_eq (m := 1) (bs := bs) (us := us) hl hu (by decide) hb
  generalize vecD bs = B at *
  generalize vecD us = U at *
  simp [m_count_lines, F_count_lines, m_check_direction, F_check_direction, ln, d, c, s]
def isI : D → Bool
  | .int _ => true
  | _ => false
theorem is_integer_eq (v : D) : m_is_integer [.d v] = .ret (.bool (isI v)) := by
  cases v <;> simp [m_is_integer, F_is_integer, isI]
theorem long_eq {m : Int} {bs us : List Int} (hl : bs.length ≤ 1000) (hu : ∀ u ∈ us, u.natAbs ≤ 4) (ul : us.length ≤ 1000) (hb : ∀ b ∈ bs, 1 ≤ b ∧ b ≤ 1000000000) (hd : dirB bs.length (vecD us) = true) (hm : 1 ≤ m) : m_count_long [.d (vecD bs), .d (vecD us), .d (.int m)] = .ret (.int (NZ bs us (m - 1) - NZ bs us m)) := by
  have ln : oLen [.d (vecD bs)] = .ret (.int (bs.length : Nat)) := by
    unfold vecD
    simp
  have d := is_direction_eq (v := vecD us) (n := bs.length) fun xs e => by
    cases e
    rw [List.length_map]
    omega
  rw [hd] at d
  have s1 := stay_eq (m := m - 1) (bs := bs) (us := us) hl hu (by omega) hb
  have s2 := stay_eq (m := m) (bs := bs) (us := us) hl hu (by omega) hb
  have i := is_integer_eq (.int m)
  have hm' : ¬ m < 1 := by omega
  have hm2 : ¬ m ≤ 0 := by omega
  generalize vecD bs = B at *
  generalize vecD us = U at *
  simp [m_count_long, F_count_long, m_check_direction, F_check_direction, ln, d, s1, s2, i, isI, hm', hm2]
/-! ### what is refused -/
def cntL : List D := [.int 0, .int (-1), .bool true, .bool false, .none, .str "1", .tuple [.int 1], .list [.int 2], .int 0]
theorem long_many {bs us : List Int} {v : D} (hv : v ∈ cntL) (hd : dirB bs.length (vecD us) = true) (ul : us.length ≤ 1000) : m_count_long [.d (vecD bs), .d (vecD us), .d v] = .exc ⟨"NoCount", [("many", v)]⟩ := by
  have ln : oLen [.d (vecD bs)] = .ret (.int (bs.length : Nat)) := by
    unfold vecD
    simp
  have d := is_direction_eq (v := vecD us) (n := bs.length) fun xs e => by
    cases e
    rw [List.length_map]
    omega
  rw [hd] at d
  have i := is_integer_eq v
  generalize vecD bs = B at *
  generalize vecD us = U at *
  unfold cntL at hv
  simp only [List.mem_cons, List.not_mem_nil, or_false] at hv
  rcases hv with rfl | rfl | rfl | rfl | rfl | rfl | rfl | rfl | rfl <;> simp [m_count_long, F_count_long, m_check_direction, F_check_direction, ln, d, i, isI]
section
variable {bs : List Int} {w v : D} (W : Val w) (h : dirB (bs.length : Nat) w = false)
include W h
theorem lines_direction : m_count_lines [.d (vecD bs), .d w] = .exc ⟨"BadDirection", [("direction", w)]⟩ := by
  have d := is_direction_eq (v := w) (n := (bs.length : Nat)) W.len
  have ln := vec_len bs
  rw [h] at d
  generalize vecD bs = B at *
  simp [m_count_lines, F_count_lines, m_check_direction, F_check_direction, ln, d]
theorem longest_direction : m_longest_line [.d (vecD bs), .d w] = .exc ⟨"BadDirection", [("direction", w)]⟩ := by
  have d := is_direction_eq (v := w) (n := (bs.length : Nat)) W.len
  have ln := vec_len bs
  rw [h] at d
  generalize vecD bs = B at *
  simp [m_longest_line, F_longest_line, m_check_direction, F_check_direction, ln, d]
theorem long_direction : m_count_long [.d (vecD bs), .d w, .d v] = .exc ⟨"BadDirection", [("direction", w)]⟩ := by
  have d := is_direction_eq (v := w) (n := (bs.length : Nat)) W.len
  have ln := vec_len bs
  rw [h] at d
  generalize vecD bs = B at *
  simp [m_count_long, F_count_long, m_check_direction, F_check_direction, ln, d]
end
theorem cm1 : cm_NoCount "NoCount" = some true := by decide +kernel
theorem cm2 : cm_BadDirection "NoCount" = some false := by decide +kernel
theorem cm3 : cm_BadDirection "BadDirection" = some true := by decide +kernel
theorem told_many (v : D) : m_law_told (.exc ⟨"NoCount", [("many", v)]⟩) = .ret (.list [.str "many", v]) := by
  simp [m_law_told, F_law_told, cg_miss (x := ⟨"NoCount", [("many", v)]⟩) cm2, cg_name (x := ⟨"NoCount", [("many", v)]⟩) cm1]
theorem told_dir (v : D) : m_law_told (.exc ⟨"BadDirection", [("direction", v)]⟩) = .ret (.list [.str "direction", v]) := by
  simp [m_law_told, F_law_told, cg_name (x := ⟨"BadDirection", [("direction", v)]⟩) cm3]
theorem cnt_sm : ∀ v ∈ cntL, Sm 100000 10 v := by
  intro v hv
  unfold cntL at hv
  simp only [List.mem_cons, List.not_mem_nil, or_false] at hv
  rcases hv with rfl | rfl | rfl | rfl | rfl | rfl | rfl | rfl | rfl <;> exact sm_by (by decide +kernel)
theorem rep4 {a b : D} (A : Sm 100000 10 a) (B : Sm 100000 10 b) : okRep (.list [.list [.str "direction", a], .list [.str "direction", a], .list [.str "direction", a], .list [.str "many", b]]) = true := by
  have s1 : Sm 100000 10 (.str "direction") := sm_by (by decide +kernel)
  have s2 : Sm 100000 10 (.str "many") := sm_by (by decide +kernel)
  have l1 : Sm _ _ (.list [.str "direction", a]) := sm_list (n := 100000) (k := 10) (m := 2) (fun x hx => by
    simp only [List.mem_cons, List.not_mem_nil, or_false] at hx
    rcases hx with rfl | rfl
    · exact s1
    · exact A) (by simp)
  have l2 : Sm _ _ (.list [.str "many", b]) := sm_list (n := 100000) (k := 10) (m := 2) (fun x hx => by
    simp only [List.mem_cons, List.not_mem_nil, or_false] at hx
    rcases hx with rfl | rfl
    · exact s2
    · exact B) (by simp)
  refine (sm_list (n := (100000 + 2) * 2 + 3) (k := 10 + 1) (m := 4) (fun x hx => ?_) (by simp)).ok (by decide) (by decide)
  simp only [List.mem_cons, List.not_mem_nil, or_false] at hx
  rcases hx with rfl | rfl | rfl | rfl
  · exact l1
  · exact l1
  · exact l1
  · exact l2
theorem refused_wp {bs us : List Int} (h2 : 2 ≤ bs.length) (h3 : bs.length ≤ 3) (hd : dirB (bs.length : Nat) (vecD us) = true) (ul : us.length ≤ 1000) : (m_law_refused_right [.box false, .d (vecD bs), .d (vecD us)]).wp (fun d => d = .bool true) noE := by
  have ln := vec_len bs
  have ww := wrong_wp (n := bs.length) h2 h3
  have L1 := fun w W h => @lines_direction bs w W h
  have L2 := fun w W h => @longest_direction bs w W h
  have L3 := fun w v W h => @long_direction bs w v W h
  have L4 := fun v hv => @long_many bs us v hv hd ul
  generalize vecD bs = B at *
  generalize vecD us = U at *
  rw [mq_law_refused_right]
  simp [F_law_refused_right, ln]
  refine T.le ww ?_
  rintro w ⟨hw, dw⟩
  try simp
  refine T.wp_mono (P := fun v => v ∈ cntL) ?_ (fun _ z => z) _ (pick_wp (by simp) (by simp) fun x hx => by unfold cntL; exact hx)
  intro o ho
  have m3 : oMul (.list [.list [.str "direction", w]]) (.int 3) = .ret (.list [.list [.str "direction", w], .list [.str "direction", w], .list [.str "direction", w]]) := rfl
  have r := Wb.repr_eq (rep4 hw.sm (cnt_sm o ho))
  generalize hX : PyData.list [.str "direction", w] = X at *
  generalize hY : PyData.list [.str "many", o] = Y at *
  generalize hL : PyData.list [X, X, X, Y] = L at *
  simp [L1 w hw dw, L2 w hw dw, L3 w o hw dw, L4 o ho, told_dir, told_many, hX, hY, m3, hL, r, Wb.eq_str]
end Wk40

set_option Elab.async false
set_option linter.all false
set_option maxRecDepth 100000
set_option maxHeartbeats 4000000
namespace Wk40
open PySem PySem.Spec PyProof.Rows L2 Wb
/-! ### the longest line -/
theorem fd {a u : Int} (h0 : u ≠ 0) (h4 : u.natAbs ≤ 4) : oFdiv (.int a) (.int u) = .ret (.int (a.fdiv u)) := by
  have c : cDiv a u = true := by
    unfold cDiv
    simp [h0]
    left
    omega
  exact if_pos c
def qL : List (Int × Int) → List Int
  | [] => []
  | p :: r => if p.2 = 0 then qL r else ((p.1 - 1).fdiv (p.2.natAbs : Int)) :: qL r
theorem q_len : ∀ ps : List (Int × Int), (qL ps).length ≤ ps.length
  | [] => by simp [qL]
  | p :: r => by
    have := q_len r
    unfold qL
    split <;> simp <;> omega
theorem q_go : ∀ (ps : List (Int × Int)) (u v : D), (∀ p ∈ ps, p.2.natAbs ≤ 4) →
    lcGo (bTup [2, 3]) (eBin oNe (eV 3) (eC (.int 0))) (eBin oFdiv (eBin oSub (eV 2) (eC (.int 1))) (eCb (o1 oAbs) (aCons (eV 3) aNil))) [.d u, .d v, .no, .no] (ps.map fun p => .tuple [.int p.1, .int p.2]) = .ret ((qL ps).map PyData.int)
  | [], _, _, _ => rfl
  | p :: r, u, v, h => by
    have ih := q_go r u v fun q hq => h q (List.mem_cons_of_mem _ hq)
    have h1 := h p (List.mem_cons_self ..)
    rw [List.map_cons]
    unfold lcGo qL
    by_cases c : p.2 = 0
    · simp [ne_ints, c, ih]
    · have e := fd (a := p.1 - 1) (u := (p.2.natAbs : Int)) (by omega) (by omega)
      simp [ne_ints, abs_nat, c, ih, e]
theorem ql_go : ∀ (ps : List (Int × Int)) (u v s : D), (∀ p ∈ ps, p.2.natAbs ≤ 4) →
    lcGo (bTup [3, 4]) (eBin oNe (eV 4) (eC (.int 0))) (eBin oFdiv (eBin oSub (eV 3) (eC (.int 1))) (eCb (o1 oAbs) (aCons (eV 4) aNil))) [.d u, .d v, .no, .no, .no] (ps.map fun p => .tuple [.int p.1, .int p.2]) = .ret ((qL ps).map PyData.int)
  | [], _, _, _, _ => rfl
  | p :: r, u, v, s, h => by
    have ih := ql_go r u v s fun q hq => h q (List.mem_cons_of_mem _ hq)
    have h1 := h p (List.mem_cons_self ..)
    rw [List.map_cons]
    unfold lcGo qL
    by_cases c : p.2 = 0
    · simp [ne_ints, c, ih]
    · have e := fd (a := p.1 - 1) (u := (p.2.natAbs : Int)) (by omega) (by omega)
      simp [ne_ints, abs_nat, c, ih, e]
/-- the points of the longest line -/
def LG (bs us : List Int) : Int := match qL (bs.zip us) with
  | a :: r => mnZ a r + 1
  | [] => 0
theorem q_ne : ∀ (bs us : List Int), bs.length = us.length → (∃ u ∈ us, u ≠ 0) → ∃ a r, qL (bs.zip us) = a :: r
  | b :: bs, u :: us, h, hn => by
    rw [List.zip_cons_cons]
    unfold qL
    by_cases c : u = 0
    · have : (b, u).2 = 0 := c
      rw [if_pos this]
      refine q_ne bs us (by simpa using h) ?_
      obtain ⟨v, hv, nv⟩ := hn
      rcases List.mem_cons.mp hv with e | e
      · exact absurd (e ▸ c) nv
      · exact ⟨v, e, nv⟩
    · have : ¬ (b, u).2 = 0 := c
      rw [if_neg this]
      exact ⟨_, _, rfl⟩
  | _, [], _, hn => by
    obtain ⟨_, h, _⟩ := hn
    cases h
  | [], _ :: _, h, _ => by simp at h
theorem q_mem : ∀ (ps : List (Int × Int)), ∀ x ∈ qL ps, ∃ p ∈ ps, p.2 ≠ 0 ∧ x = (p.1 - 1).fdiv (p.2.natAbs : Int)
  | p :: r, x, h => by
    unfold qL at h
    split at h
    · obtain ⟨q, a, b⟩ := q_mem r x h
      exact ⟨q, List.mem_cons_of_mem _ a, b⟩
    · next c =>
      rcases List.mem_cons.mp h with rfl | h
      · exact ⟨p, List.mem_cons_self .., c, rfl⟩
      · obtain ⟨q, a, b⟩ := q_mem r x h
        exact ⟨q, List.mem_cons_of_mem _ a, b⟩
theorem q_has : ∀ (ps : List (Int × Int)), ∀ p ∈ ps, p.2 ≠ 0 → (p.1 - 1).fdiv (p.2.natAbs : Int) ∈ qL ps
  | p :: r, q, h, hn => by
    unfold qL
    rcases List.mem_cons.mp h with rfl | h
    · rw [if_neg hn]
      exact List.mem_cons_self ..
    · split
      · exact q_has r q h hn
      · exact List.mem_cons_of_mem _ (q_has r q h hn)
theorem fdiv_lt {s u k : Int} (h1 : 1 ≤ s) (hn : u ≠ 0) (h4 : u.natAbs ≤ 4) : (k ≤ (s - 1).fdiv (u.natAbs : Int) ↔ k * (u.natAbs : Int) < s) := by
  have c : u.natAbs = 1 ∨ u.natAbs = 2 ∨ u.natAbs = 3 ∨ u.natAbs = 4 := by omega
  rcases c with e | e | e | e <;> rw [e, Int.fdiv_eq_ediv_of_nonneg _ (by decide)] <;> omega
structure Box4 (n : Nat) (M : Int) (bs us : List Int) : Prop where
  n2 : 2 ≤ n
  n3 : n ≤ 3
  bl : bs.length = n
  ul : us.length = n
  b1 : ∀ b ∈ bs, 1 ≤ b ∧ b ≤ M
  u4 : ∀ u ∈ us, u.natAbs ≤ 4
  nz : ∃ u ∈ us, u ≠ 0
  dir : dirB (n : Nat) (vecD us) = true
section
variable {n : Nat} {M : Int} {bs us : List Int}
theorem Box4.lg (B : Box4 n M bs us) : ∃ a r, qL (bs.zip us) = a :: r ∧ LG bs us = mnZ a r + 1 := by
  obtain ⟨a, r, e⟩ := q_ne bs us (by rw [B.bl, B.ul]) B.nz
  refine ⟨a, r, e, ?_⟩
  unfold LG
  rw [e]
theorem Box4.below (B : Box4 n M bs us) {k : Int} (hk : k < LG bs us) : ∀ p ∈ bs.zip us, k * (p.2.natAbs : Int) < p.1 := by
  intro p hp
  obtain ⟨a, r, e, l⟩ := B.lg
  obtain ⟨m1, m2⟩ := List.of_mem_zip hp
  have b1 := B.b1 _ m1
  by_cases c : p.2 = 0
  · rw [c]
    simp
    omega
  · have h := q_has _ p hp c
    rw [e] at h
    have := mnZ_le r a _ h
    exact (fdiv_lt b1.1 c (B.u4 _ m2)).mp (by omega)
theorem Box4.above (B : Box4 n M bs us) {k : Int} (hk : LG bs us ≤ k) : ∃ p ∈ bs.zip us, p.1 ≤ k * (p.2.natAbs : Int) := by
  obtain ⟨a, r, e, l⟩ := B.lg
  have hm := mnZ_mem r a
  rw [← e] at hm
  obtain ⟨p, hp, hn, ex⟩ := q_mem _ _ hm
  obtain ⟨m1, m2⟩ := List.of_mem_zip hp
  refine ⟨p, hp, ?_⟩
  have := fdiv_lt (s := p.1) (u := p.2) (k := k) (B.b1 _ m1).1 hn (B.u4 _ m2)
  apply Classical.byContradiction
  intro h
  have := this.mpr (by omega)
  omega
theorem Box4.lgb (B : Box4 n M bs us) : 1 ≤ LG bs us ∧ LG bs us ≤ M := by
  constructor
  · obtain ⟨a, r, e, l⟩ := B.lg
    have hm := mnZ_mem r a
    rw [← e] at hm
    obtain ⟨p, hp, hn, ex⟩ := q_mem _ _ hm
    obtain ⟨m1, m2⟩ := List.of_mem_zip hp
    have := (fdiv_lt (s := p.1) (u := p.2) (k := 0) (B.b1 _ m1).1 hn (B.u4 _ m2)).mpr (by have := B.b1 _ m1; omega)
    omega
  · obtain ⟨p, hp, h⟩ := B.above (k := LG bs us) (Int.le_refl _)
    obtain ⟨u, hu, nu⟩ := B.nz
    obtain ⟨a, r, e, l⟩ := B.lg
    have hm := mnZ_mem r a
    rw [← e] at hm
    obtain ⟨p, hp, hn, ex⟩ := q_mem _ _ hm
    obtain ⟨m1, m2⟩ := List.of_mem_zip hp
    have b := B.b1 _ m1
    have := (fdiv_lt (s := p.1) (u := p.2) (k := mnZ a r) b.1 hn (B.u4 _ m2)).mp (by omega)
    have c : p.2.natAbs = 1 ∨ p.2.natAbs = 2 ∨ p.2.natAbs = 3 ∨ p.2.natAbs = 4 := by have := B.u4 _ m2; omega
    rcases c with c | c | c | c <;> rw [c] at this <;> omega
theorem Box4.n1 (B : Box4 n M bs us) {k : Int} (h : k < LG bs us) : 1 ≤ NZ bs us k := NZ_pos bs us k (by rw [B.bl, B.ul]) (B.below h)
theorem Box4.n0 (B : Box4 n M bs us) {k : Int} (h : LG bs us ≤ k) : NZ bs us k = 0 := NZ_none bs us k (B.above h)
theorem Box4.bs9 (B : Box4 n M bs us) (hM : M ≤ 1000000000) : ∀ b ∈ bs, 1 ≤ b ∧ b ≤ 1000000000 := fun b hb => by
  have := B.b1 b hb
  omega
theorem Box4.dirL (B : Box4 n M bs us) : dirB (bs.length : Nat) (vecD us) = true := by
  rw [B.bl]
  exact B.dir
theorem Box4.longest (B : Box4 n M bs us) : m_longest_line [.d (vecD bs), .d (vecD us)] = .ret (.int (LG bs us)) := by
  have d := is_direction_eq (v := vecD us) (n := (bs.length : Nat)) fun xs e => by
    cases e
    rw [List.length_map, B.ul]
    have := B.n3
    omega
  rw [B.dirL] at d
  have ln := vec_len bs
  obtain ⟨a, r, e, l⟩ := B.lg
  have h1 := q_go (bs.zip us) (vecD bs) (vecD us) fun p hp => B.u4 _ (List.of_mem_zip hp).2
  rw [e, List.map_cons] at h1
  have h2 : eLc [2, 3] (iArg oZipM (aCons (eV 0) (aCons (eV 1) aNil))) (bTup [2, 3]) (eBin oNe (eV 3) (eC (.int 0))) (eBin oFdiv (eBin oSub (eV 2) (eC (.int 1))) (eCb (o1 oAbs) (aCons (eV 3) aNil))) [.d (vecD bs), .d (vecD us), .no, .no] = .ret (.list (.int a :: r.map PyData.int)) := by
    refine eLc_ret (ds := (bs.zip us).map fun p : Int × Int => .tuple [.int p.1, .int p.2]) ?_ ?_ h1
    · unfold vecD
      simp [← zip_ints]
    · rw [List.length_map, List.length_zip, B.bl, B.ul]
      have := B.n3
      omega
  have g : m_greatest_step [.d (vecD bs), .d (vecD us)] = .ret (.int (mnZ a r)) := by
    generalize vecD bs = S at *
    generalize vecD us = U at *
    simp [m_greatest_step, F_greatest_step, h2]
  generalize vecD bs = S at *
  generalize vecD us = U at *
  simp [m_longest_line, F_longest_line, m_check_direction, F_check_direction, ln, d, g, l]
theorem Box4.law_longest (B : Box4 n M bs us) : m_law_longest [.d (vecD bs), .d (vecD us)] = .ret (.int (LG bs us)) := by
  obtain ⟨a, r, e, l⟩ := B.lg
  have h1 := ql_go (bs.zip us) (vecD bs) (vecD us) .none fun p hp => B.u4 _ (List.of_mem_zip hp).2
  rw [e, List.map_cons] at h1
  have h2 : eLc [3, 4] (iArg oZipM (aCons (eV 0) (aCons (eV 1) aNil))) (bTup [3, 4]) (eBin oNe (eV 4) (eC (.int 0))) (eBin oFdiv (eBin oSub (eV 3) (eC (.int 1))) (eCb (o1 oAbs) (aCons (eV 4) aNil))) [.d (vecD bs), .d (vecD us), .no, .no, .no] = .ret (.list (.int a :: r.map PyData.int)) := by
    refine eLc_ret (ds := (bs.zip us).map fun p : Int × Int => .tuple [.int p.1, .int p.2]) ?_ ?_ h1
    · unfold vecD
      simp [← zip_ints]
    · rw [List.length_map, List.length_zip, B.bl, B.ul]
      have := B.n3
      omega
  generalize vecD bs = S at *
  generalize vecD us = U at *
  simp [m_law_longest, F_law_longest, h2, l, Int.add_comm]
/-! ### what the law reckons -/
theorem inner_go : ∀ (ps : List (Int × Int)) (u v : D) (m a : Int) (s4 s5 : Sl), (∀ p ∈ ps, p.2.natAbs ≤ 4 ∧ 1 ≤ p.1 ∧ p.1 ≤ 1000000000) → 0 ≤ m →
    ∃ s4' s5', forGo (bTup [4, 5]) B0_law_inner (ps.map fun p => .tuple [.int p.1, .int p.2]) [.d u, .d v, .d (.int m), .d (.int a), s4, s5] = .ret (.nx [.d u, .d v, .d (.int m), .d (.int (prodZ a (ps.map fun p => stayM m p.1 p.2))), s4', s5'])
  | [], u, v, m, a, s4, s5, _, _ => ⟨s4, s5, rfl⟩
  | p :: r, u, v, m, a, s4, s5, h, hm => by
    obtain ⟨s4', s5', ih⟩ := inner_go r u v m (a * stayM m p.1 p.2) (.d (.int p.1)) (.d (.int p.2)) (fun q hq => h q (List.mem_cons_of_mem _ hq)) hm
    obtain ⟨h4, h1, h9⟩ := h p (List.mem_cons_self ..)
    have e0 := mul_ints' (a := m) (b := (p.2.natAbs : Int)) (by omega)
    have e1 := mul_ints' (a := a) (b := stayM m p.1 p.2) (by
      have := stay_ge (m := m) (u := p.2) h1
      have := stay_le' (u := p.2) hm h9 h1
      omega)
    refine ⟨s4', s5', ?_⟩
    rw [List.map_cons]
    unfold stayM at e1
    unfold forGo
    simp [B0_law_inner, abs_nat, e0, e1]
    exact ih
theorem Box4.inner (B : Box4 n M bs us) (hM : M ≤ 1000000000) {m : Int} (hm : 0 ≤ m) : m_law_inner [.d (vecD bs), .d (vecD us), .d (.int m)] = .ret (.int (NZ bs us m)) := by
  obtain ⟨s4, s5, e⟩ := inner_go (bs.zip us) (vecD bs) (vecD us) m 1 .no .no (fun p hp => ⟨B.u4 _ (List.of_mem_zip hp).2, B.bs9 hM _ (List.of_mem_zip hp).1⟩) hm
  have z := zip_ints bs us
  unfold vecD at *
  simp [m_law_inner, F_law_inner, z, e]
  rfl
end
end Wk40

set_option Elab.async false
set_option linter.all false
set_option maxRecDepth 100000
set_option maxHeartbeats 4000000
namespace Wk40
open PySem PySem.Spec PyProof.Rows L2 Wb
/-- a box, a direction, a point within -/
structure Bx (ss us ps : List Int) : Prop where
  n2 : 2 ≤ us.length
  n3 : us.length ≤ 3
  sl : ss.length = us.length
  pl : ps.length = us.length
  u4 : ∀ u ∈ us, u.natAbs ≤ 4
  nz : ∃ u ∈ us, u ≠ 0
  ins : insB ss ps = true
structure Line (ss us ps : List Int) (lo hi : Int) : Prop where
  sp : Span ss us ps lo hi
  lo0 : lo ≤ 0
  hi0 : 0 ≤ hi
theorem Bx.line {ss us ps : List Int} (h : Bx ss us ps) : ∃ lo hi, Line ss us ps lo hi := by
  obtain ⟨⟨a, r, e1⟩, ⟨b, t, e2⟩⟩ := lows_ne ss us ps h.sl h.pl h.nz
  have S := span h.sl h.pl h.u4 h.ins e1 e2
  exact ⟨_, _, S, (S.zero h.pl h.ins).1, (S.zero h.pl h.ins).2⟩
/-! ### all points of a small box -/
theorem row_eq {q : List Int} {s : Nat} (ql : q.length ≤ 3) (s8 : s ≤ 8) (s0 s1 s3 s5 : Sl) :
    (eLc [5] (iArg oRng1 (aCons (eV 2) aNil)) (bName 5) tTrue (eBin oAdd (eV 4) (eTup (aCons (eV 5) aNil))) [s0, s1, .d (.int (s : Nat)), s3, .d (vecD q), s5]) = .ret (.list (((List.range s).map fun (i : Nat) => q ++ [(i : Int)]).map vecD)) := by
  have e : (((List.range s).map fun (i : Nat) => q ++ [(i : Int)]).map vecD) = (rangeD 0 s).map fun d => .tuple (q.map PyData.int ++ [d]) := by
    unfold rangeD
    rw [List.map_map, List.map_map]
    refine List.map_congr_left fun i _ => ?_
    simp [vecD]
  rw [e]
  refine eLc_ret (ds := rangeD 0 s) (by simp [oRng1_nat (n := s) (by omega)]) (by rw [rangeD_len]; omega) (lc_map _ fun d hd => ⟨_, rfl, rfl, ?_⟩)
  have l : (q.map PyData.int).length ≤ 999999 := by rw [List.length_map]; omega
  unfold vecD
  generalize q.map PyData.int = Q at *
  simp [l]
theorem row1 {q : List Int} {s : Nat} (ql : q.length ≤ 3) (s8 : s ≤ 8) (s0 s1 s5 : Sl) {O : List D} (lO : O.length ≤ 10000) :
    B0_law_points [s0, s1, .d (.int (s : Nat)), .own O, .d (vecD q), s5] = .ret (.nx [s0, s1, .d (.int (s : Nat)), .own (O ++ ((List.range s).map fun (i : Nat) => q ++ [(i : Int)]).map vecD), .d (vecD q), s5]) := by
  have e := row_eq ql s8 s0 s1 (.own O) s5
  have lm : O.length + (((List.range s).map fun (i : Nat) => q ++ [(i : Int)]).map vecD).length ≤ 1000000 := by
    simp
    omega
  generalize (((List.range s).map fun (i : Nat) => q ++ [(i : Int)]).map vecD) = M at *
  generalize vecD q = Q at *
  simp [B0_law_points, e, lm]
theorem ext_go {s : Nat} (s8 : s ≤ 8) (s0 s1 s5 : Sl) : ∀ (fd : List (List Int)) (O : List D) (s4 : Sl), (∀ q ∈ fd, q.length ≤ 3) → O.length + 8 * fd.length ≤ 10000 →
    ∃ s4', forGo (bName 4) B0_law_points (fd.map vecD) [s0, s1, .d (.int (s : Nat)), .own O, s4, s5] = .ret (.nx [s0, s1, .d (.int (s : Nat)), .own (O ++ (extP fd s).map vecD), s4', s5])
  | [], O, s4, _, _ => ⟨s4, by simp [extP, forGo]⟩
  | q :: fd, O, s4, hq, hO => by
    rw [List.length_cons] at hO
    have e := row1 (hq q (List.mem_cons_self ..)) s8 s0 s1 s5 (O := O) (by omega)
    have lr : (((List.range s).map fun (i : Nat) => q ++ [(i : Int)]).map vecD).length = s := by simp
    obtain ⟨s4', ih⟩ := ext_go s8 s0 s1 s5 fd (O ++ ((List.range s).map fun (i : Nat) => q ++ [(i : Int)]).map vecD) (.d (vecD q)) (fun x hx => hq x (List.mem_cons_of_mem _ hx)) (by rw [List.length_append, lr]; omega)
    refine ⟨s4', ?_⟩
    have ex : O ++ (extP (q :: fd) s).map vecD = O ++ ((List.range s).map fun (i : Nat) => q ++ [(i : Int)]).map vecD ++ (extP fd s).map vecD := by
      simp [extP]
    rw [ex, List.map_cons]
    generalize B0_law_points = B at *
    unfold forGo
    show (B [s0, s1, .d (.int (s : Nat)), .own O, .d (vecD q), s5]).bind _ = _
    rw [e]
    exact ih
theorem pts_step {s : Nat} (s8 : s ≤ 8) (S : D) {fd : List (List Int)} (hq : ∀ q ∈ fd, q.length ≤ 3) (lf : fd.length ≤ 64) (s3 s4 s5 : Sl) :
    ∃ t3 t4, B1_law_points [.d S, .d (.list (fd.map vecD)), .d (.int (s : Nat)), s3, s4, s5] = .ret (.nx [.d S, .d (.list ((extP fd s).map vecD)), .d (.int (s : Nat)), t3, t4, s5]) := by
  obtain ⟨t4, e⟩ := ext_go s8 (.d S) (.d (.list (fd.map vecD))) s5 fd [] s4 hq (by simp; omega)
  rw [List.nil_append] at e
  refine ⟨.d (.list ((extP fd s).map vecD)), t4, ?_⟩
  unfold B1_law_points
  generalize B0_law_points = B at *
  generalize fd.map vecD = FD at *
  generalize (extP fd s).map vecD = EX at *
  simp [e]
theorem ext_len (fd : List (List Int)) {s : Int} (h : s ≤ 8) : (extP fd s).length ≤ fd.length * 8 := by
  unfold extP
  induction fd with
  | nil => simp
  | cons q fd ih =>
    rw [List.flatMap_cons, List.length_append, List.length_map, List.length_range, List.length_cons]
    omega
theorem ext_item {fd : List (List Int)} {s : Int} {k : Nat} (h : ∀ q ∈ fd, q.length ≤ k) : ∀ q ∈ extP fd s, q.length ≤ k + 1 := by
  intro q hq
  unfold extP at hq
  rw [List.mem_flatMap] at hq
  obtain ⟨p, hp, hq⟩ := hq
  obtain ⟨i, _, rfl⟩ := List.mem_map.mp hq
  have := h p hp
  simp
  omega
theorem pts_go (S : D) : ∀ (rest : List Int) (k : Nat) (fd : List (List Int)) (s2 s3 s4 s5 : Sl), k + rest.length ≤ 3 → (∀ s ∈ rest, 1 ≤ s ∧ s ≤ 8) → (∀ q ∈ fd, q.length ≤ k) → fd.length ≤ 8 ^ k →
    ∃ t2 t3 t4, forGo (bName 2) B1_law_points (rest.map PyData.int) [.d S, .d (.list (fd.map vecD)), s2, s3, s4, s5] = .ret (.nx [.d S, .d (.list ((ptsF fd rest).map vecD)), t2, t3, t4, s5])
  | [], k, fd, s2, s3, s4, s5, _, _, _, _ => ⟨s2, s3, s4, rfl⟩
  | s :: rest, k, fd, s2, s3, s4, s5, hk, hs, hq, lf => by
    rw [List.length_cons] at hk
    obtain ⟨a, b⟩ := hs s (List.mem_cons_self ..)
    obtain ⟨n, rfl⟩ : ∃ n : Nat, s = n := ⟨s.toNat, by omega⟩
    have pw : (8 : Nat) ^ k ≤ 64 := Nat.le_trans (Nat.pow_le_pow_right (by decide) (by omega : k ≤ 2)) (by decide)
    obtain ⟨t3, t4, e⟩ := pts_step (s := n) (by omega) S (fd := fd) (fun q h => by have := hq q h; omega) (by omega) s3 s4 s5
    have el := ext_len fd (s := (n : Int)) b
    obtain ⟨u2, u3, u4, ih⟩ := pts_go S rest (k + 1) (extP fd n) (.d (.int (n : Nat))) t3 t4 s5 (by omega) (fun x hx => hs x (List.mem_cons_of_mem _ hx)) (ext_item hq) (by rw [Nat.pow_succ]; omega)
    refine ⟨u2, u3, u4, ?_⟩
    rw [List.map_cons]
    have ef : ptsF fd ((n : Int) :: rest) = ptsF (extP fd n) rest := rfl
    rw [ef]
    generalize B1_law_points = B at *
    unfold forGo
    show (B [.d S, .d (.list (fd.map vecD)), .d (.int (n : Nat)), s3, s4, s5]).bind _ = _
    rw [e]
    exact ih
theorem points_eq {ss : List Int} (hl : ss.length ≤ 3) (h : ∀ s ∈ ss, 1 ≤ s ∧ s ≤ 8) : m_law_points [.d (vecD ss)] = .ret (.list ((ptsR ss).map vecD)) := by
  obtain ⟨t2, t3, t4, g⟩ := pts_go (vecD ss) ss 0 [[]] .no .no .no .no (by omega) h (fun q hq => by
    rw [List.mem_singleton] at hq
    rw [hq]
    simp) (by simp)
  rw [pts_eq] at g
  have it : itemsD (vecD ss) = .ret (ss.map PyData.int) := rfl
  have e0 : ([[]] : List (List Int)).map vecD = [.tuple []] := rfl
  rw [e0] at g
  rw [mq_law_points]
  unfold F_law_points
  generalize B1_law_points = B at *
  generalize vecD ss = S at *
  generalize ss.map PyData.int = Z at *
  generalize (ptsR ss).map vecD = R at *
  simp [it, g]
/-- the test of a point of the grid -/
def onV (f : List Int → Bool) : D → Bool
  | .tuple xs => f (intsD xs)
  | _ => false
theorem onV_vec (f : List Int → Bool) (p : List Int) : onV f (vecD p) = f p := by
  unfold onV vecD
  simp only [intsD_map]
def toV (f : List Int → D) : D → D
  | .tuple xs => f (intsD xs)
  | _ => .none
theorem toV_vec (f : List Int → D) (p : List Int) : toV f (vecD p) = f p := by
  unfold toV vecD
  simp only [intsD_map]
theorem firsts_eq {ss us : List Int} (hl : ss.length = us.length) (l3 : us.length ≤ 3) (hu : ∀ u ∈ us, u.natAbs ≤ 4) (h : ∀ s ∈ ss, 1 ≤ s ∧ s ≤ 8) : m_law_firsts [.d (vecD ss), .d (vecD us)] = .ret (.list ((firstsL ss us).map vecD)) := by
  have pe := points_eq (ss := ss) (by omega) h
  have pl := pts_len ss fun s hs => (h s hs).2
  have pw : (8 : Nat) ^ ss.length ≤ 512 := Nat.le_trans (Nat.pow_le_pow_right (by decide) (by omega : ss.length ≤ 3)) (by decide)
  have g : lcGo (bName 2) (eUn oNot (eCall 2 m_law_inside (aCons (eV 0) (aCons (eCall 3 m_law_on (aCons (eV 2) (aCons (eV 1) (aCons (eUn oNeg (eC (.int 1))) aNil)))) aNil)))) (eV 2) [.d (vecD ss), .d (vecD us), .no] ((ptsR ss).map vecD) = .ret (((ptsR ss).map vecD).filter (onV fun p => !insB ss (goL p (-1) us))) := by
    refine lc_filter _ fun d hd => ?_
    obtain ⟨p, hp, rfl⟩ := List.mem_map.mp hd
    obtain ⟨p1, p2⟩ := pts_ok ss p hp
    refine ⟨_, rfl, ?_, rfl⟩
    have on := law_on_eq (as := p) (us := us) (m := -1) (by omega) hu
    have ag : addM p (-1) us = goL p (-1) us := rfl
    rw [ag] at on
    have ins := inside_eq (ss := ss) (ps := goL p (-1) us) (by rw [go_len us p (-1) (by omega)]; omega)
    rw [onV_vec]
    generalize vecD (goL p (-1) us) = V at *
    generalize vecD ss = S at *
    generalize vecD us = U at *
    generalize vecD p = P at *
    simp [on, ins]
  have ef : ((ptsR ss).map vecD).filter (onV fun p => !insB ss (goL p (-1) us)) = (firstsL ss us).map vecD := by
    rw [List.filter_map]
    unfold firstsL
    congr 1
    refine List.filter_congr fun p _ => ?_
    show onV _ (vecD p) = _
    rw [onV_vec]
  rw [ef] at g
  have ll : ((ptsR ss).map vecD).length ≤ 1000000 := by
    rw [List.length_map]
    omega
  have ec : eLc [2] (iSeq (eCall 1 m_law_points (aCons (eV 0) aNil))) (bName 2) (eUn oNot (eCall 2 m_law_inside (aCons (eV 0) (aCons (eCall 3 m_law_on (aCons (eV 2) (aCons (eV 1) (aCons (eUn oNeg (eC (.int 1))) aNil)))) aNil)))) (eV 2) [.d (vecD ss), .d (vecD us), .no] = .ret (.list ((firstsL ss us).map vecD)) := by
    refine eLc_ret (ds := (ptsR ss).map vecD) ?_ ll g
    generalize (ptsR ss).map vecD = R at *
    generalize vecD ss = S at *
    simp [pe]
  rw [mq_law_firsts]
  generalize vecD ss = S at *
  generalize vecD us = U at *
  simp [F_law_firsts, ec]
end Wk40

set_option Elab.async false
set_option linter.all false
set_option maxRecDepth 100000
set_option maxHeartbeats 4000000
namespace Wk40
open PySem PySem.Spec PyProof.Rows L2 Wb
theorem wideM {M : Int} : ∀ (ss us ps : List Int) (a b : Int), ss.length = us.length → ps.length = us.length → (∀ s ∈ ss, s ≤ M) → (∀ u ∈ us, u.natAbs ≤ 4) → (∃ u ∈ us, u ≠ 0) → insB ss (goL ps a us) = true → insB ss (goL ps b us) = true → b - a < M
  | s :: ss, u :: us, p :: ps, a, b, h1, h2, hs, hu, hn, ha, hb => by
    have ha : (decide (0 ≤ p + a * u ∧ p + a * u < s) && insB ss (goL ps a us)) = true := ha
    have hb : (decide (0 ≤ p + b * u ∧ p + b * u < s) && insB ss (goL ps b us)) = true := hb
    rw [Bool.and_eq_true, decide_eq_true_eq] at ha hb
    have s9 := hs s (List.mem_cons_self ..)
    have u4 := hu u (List.mem_cons_self ..)
    by_cases c : u = 0
    · refine wideM ss us ps a b (by simpa using h1) (by simpa using h2) (fun x hx => hs x (List.mem_cons_of_mem _ hx)) (fun x hx => hu x (List.mem_cons_of_mem _ hx)) ?_ ha.2 hb.2
      obtain ⟨v, hv, nv⟩ := hn
      rcases List.mem_cons.mp hv with e | e
      · exact absurd (e ▸ c) nv
      · exact ⟨v, e, nv⟩
    · have cs : u = 1 ∨ u = 2 ∨ u = 3 ∨ u = 4 ∨ u = -1 ∨ u = -2 ∨ u = -3 ∨ u = -4 := by omega
      obtain ⟨⟨x1, x2⟩, _⟩ := ha
      obtain ⟨⟨y1, y2⟩, _⟩ := hb
      rcases cs with rfl | rfl | rfl | rfl | rfl | rfl | rfl | rfl <;> omega
  | _, [], _, _, _, _, _, _, _, h, _, _ => by
    obtain ⟨_, h, _⟩ := h
    cases h
  | [], _ :: _, _, _, _, h, _, _, _, _, _, _ => by simp at h
  | _, _ :: _, [], _, _, _, h, _, _, _, _, _ => by simp at h
abbrev bkT : Env' → T D := (eCall 2 m_law_inside (aCons (eV 0) (aCons (eCall 3 m_law_on (aCons (eV 3) (aCons (eV 1) (aCons (eUn oNeg (eC (.int 1))) aNil)))) aNil)))
abbrev bkF : Env' → T Fl := (sSet 3 (eCall 3 m_law_on (aCons (eV 3) (aCons (eV 1) (aCons (eUn oNeg (eC (.int 1))) aNil)))))
abbrev fwT : Env' → T D := (eCall 2 m_law_inside (aCons (eV 0) (aCons (eV 3) aNil)))
abbrev fwF : Env' → T Fl := (sSeq (sApp 4 (eV 3)) (sSet 3 (eCall 3 m_law_on (aCons (eV 3) (aCons (eV 1) (aCons (eC (.int 1)) aNil))))))
section
variable {ss us ps : List Int} {lo hi : Int}
theorem Line.on (h : Bx ss us ps) (k m : Int) : m_law_on [.d (vecD (goL ps k us)), .d (vecD us), .d (.int m)] = .ret (vecD (goL ps (k + m) us)) := by
  have on := law_on_eq (as := goL ps k us) (us := us) (m := m) (by have := h.n3; omega) h.u4
  have og : addM (goL ps k us) m us = goL ps (k + m) us := go_go us ps k m h.pl
  rw [og] at on
  exact on
theorem Line.inside (h : Bx ss us ps) (L : Line ss us ps lo hi) (k : Int) : m_law_inside [.d (vecD ss), .d (vecD (goL ps k us))] = .ret (.bool (decide (lo ≤ k ∧ k ≤ hi))) := by
  rw [inside_eq (by rw [go_len us ps k h.pl]; have := h.n3; omega)]
  congr 2
  rw [Bool.eq_iff_iff, decide_eq_true_eq]
  exact L.sp.at_ k
theorem back_go (h : Bx ss us ps) (L : Line ss us ps lo hi) (P : D) (O : List D) : ∀ (m f : Nat), m < f → lo + m ≤ hi → whGo bkT bkF f [.d (vecD ss), .d (vecD us), .d P, .d (vecD (goL ps (lo + m) us)), .own O] = .ret (.nx [.d (vecD ss), .d (vecD us), .d P, .d (vecD (goL ps lo us)), .own O])
  | 0, 0, hf, _ => by omega
  | m + 1, 0, hf, _ => by omega
  | 0, f + 1, _, _ => by
    have on := Line.on h (lo + (0 : Nat)) (-1)
    have ins := Line.inside h L (lo + (0 : Nat) + -1)
    have c : decide (lo ≤ lo + ((0 : Nat) : Int) + -1 ∧ lo + ((0 : Nat) : Int) + -1 ≤ hi) = false := by
      rw [decide_eq_false_iff_not]
      omega
    rw [c] at ins
    have e : lo + ((0 : Nat) : Int) = lo := by omega
    rw [e] at on ins ⊢
    generalize vecD (goL ps (lo + -1) us) = V1 at *
    generalize vecD (goL ps lo us) = V0 at *
    generalize vecD ss = S at *
    generalize vecD us = U at *
    unfold whGo
    simp [on, ins]
  | m + 1, f + 1, hf, hm => by
    have ih := back_go h L P O m f (by omega) (by omega)
    have on := Line.on h (lo + (m + 1 : Nat)) (-1)
    have e : lo + ((m + 1 : Nat) : Int) + -1 = lo + (m : Nat) := by omega
    rw [e] at on
    have ins := Line.inside h L (lo + (m : Nat))
    have c : decide (lo ≤ lo + ((m : Nat) : Int) ∧ lo + ((m : Nat) : Int) ≤ hi) = true := by
      rw [decide_eq_true_eq]
      omega
    rw [c] at ins
    generalize vecD (goL ps (lo + (m : Nat)) us) = V1 at *
    generalize vecD (goL ps (lo + (m + 1 : Nat)) us) = V2 at *
    generalize vecD (goL ps lo us) = V0 at *
    generalize vecD ss = S at *
    generalize vecD us = U at *
    unfold whGo
    simp [on, ins]
    exact ih
def rowL (us ps : List Int) : Int → Nat → List D
  | _, 0 => []
  | k, m + 1 => vecD (goL ps k us) :: rowL us ps (k + 1) m
theorem fwd_go (h : Bx ss us ps) (L : Line ss us ps lo hi) (P : D) : ∀ (m f : Nat) (k : Int) (O : List D), m < f → lo ≤ k → k + m = hi + 1 → O.length + m ≤ 1000 → whGo fwT fwF f [.d (vecD ss), .d (vecD us), .d P, .d (vecD (goL ps k us)), .own O] = .ret (.nx [.d (vecD ss), .d (vecD us), .d P, .d (vecD (goL ps (hi + 1) us)), .own (O ++ rowL us ps k m)])
  | 0, 0, _, _, hf, _, _, _ => by omega
  | m + 1, 0, _, _, hf, _, _, _ => by omega
  | 0, f + 1, k, O, _, hk, e, _ => by
    have e : k = hi + 1 := by omega
    subst e
    have ins := Line.inside h L (hi + 1)
    have c : decide (lo ≤ hi + 1 ∧ hi + 1 ≤ hi) = false := by
      rw [decide_eq_false_iff_not]
      omega
    rw [c] at ins
    generalize vecD (goL ps (hi + 1) us) = V0 at *
    generalize vecD ss = S at *
    generalize vecD us = U at *
    unfold whGo
    simp [ins, rowL]
  | m + 1, f + 1, k, O, hf, hk, e, hO => by
    have ih := fwd_go h L P m f (k + 1) (O ++ [vecD (goL ps k us)]) (by omega) (by omega) (by omega) (by simp; omega)
    have on := Line.on h k 1
    have ins := Line.inside h L k
    have c : decide (lo ≤ k ∧ k ≤ hi) = true := by
      rw [decide_eq_true_eq]
      omega
    rw [c] at ins
    have lO : O.length < 1000000 := by omega
    have er : O ++ rowL us ps k (m + 1) = (O ++ [vecD (goL ps k us)]) ++ rowL us ps (k + 1) m := by simp [rowL]
    rw [er]
    generalize vecD (goL ps k us) = V1 at *
    generalize vecD (goL ps (k + 1) us) = V2 at *
    generalize vecD (goL ps (hi + 1) us) = V3 at *
    generalize vecD ss = S at *
    generalize vecD us = U at *
    generalize rowL us ps (k + 1) m = RR at *
    unfold whGo
    simp [on, ins, lO]
    rw [List.append_assoc, List.singleton_append] at ih
    exact ih
theorem walk_eq (h : Bx ss us ps) (L : Line ss us ps lo hi) (s8 : ∀ s ∈ ss, s ≤ 8) : m_law_walk [.d (vecD ss), .d (vecD us), .d (vecD ps)] = .ret (.list (rowL us ps lo (hi - lo + 1).toNat)) := by
  have w := wideM ss us ps lo hi h.sl h.pl s8 h.u4 h.nz ((L.sp.at_ lo).mpr ⟨Int.le_refl _, by have := L.lo0; have := L.hi0; omega⟩) ((L.sp.at_ hi).mpr ⟨by have := L.lo0; have := L.hi0; omega, Int.le_refl _⟩)
  have l0 := L.lo0
  have h0 := L.hi0
  have b := back_go h L (vecD ps) [] (-lo).toNat 20 (by omega) (by omega)
  have e : lo + (((-lo).toNat : Nat) : Int) = 0 := by omega
  rw [e, go_zero us ps h.pl] at b
  have f := fwd_go h L (vecD ps) (hi - lo + 1).toNat 20 lo [] (by omega) (Int.le_refl _) (by omega) (by simp; omega)
  rw [List.nil_append] at f
  rw [mq_law_walk]
  unfold F_law_walk
  change (mkDef 5 (sSeq _ (sSeq (sWhile 20 bkT bkF) (sSeq (sWhile 20 fwT fwF) _))) _) = _
  generalize bkT = B1 at *
  generalize bkF = B2 at *
  generalize fwT = F1 at *
  generalize fwF = F2 at *
  generalize rowL us ps lo (hi - lo + 1).toNat = RR at *
  generalize vecD (goL ps lo us) = V0 at *
  generalize vecD ss = S at *
  generalize vecD us = U at *
  generalize vecD ps = P at *
  have wb : ∀ ρ, sWhile 20 B1 B2 ρ = whGo B1 B2 20 ρ := fun _ => rfl
  have wf : ∀ ρ, sWhile 20 F1 F2 ρ = whGo F1 F2 20 ρ := fun _ => rfl
  simp [wb, wf, b, f]
end
theorem row_len (us ps : List Int) : ∀ (m : Nat) (k : Int), (rowL us ps k m).length = m
  | 0, _ => rfl
  | m + 1, k => by
    unfold rowL
    rw [List.length_cons, row_len us ps m (k + 1)]
end Wk40

set_option Elab.async false
set_option linter.all false
set_option maxRecDepth 100000
set_option maxHeartbeats 4000000
namespace Wk40
open PySem PySem.Spec PyProof.Rows L2 Wb
section
variable {n : Nat} {M : Int} {bs us : List Int}
theorem Box4.nzb (B : Box4 n M bs us) (hM : M ≤ 1000000000) {m : Int} (hm : 0 ≤ m) : 0 ≤ NZ bs us m ∧ NZ bs us m ≤ 10 ^ 27 := by
  have h := prod_bound (stL m bs us) 1 1 (by decide) (by decide) fun x hx => stL_le hm (B.bs9 hM) x hx
  have ll : (stL m bs us).length = n := by
    unfold stL
    rw [List.length_map, List.length_zip, B.bl, B.ul, Nat.min_self]
  rw [ll] at h
  have n3 := B.n3
  have e : n = 2 ∨ n = 3 := by have := B.n2; omega
  refine ⟨h.1, ?_⟩
  have h2 := h.2
  unfold NZ
  rcases e with rfl | rfl <;> omega
theorem Box4.prod (B : Box4 n M bs us) : prodZ 1 bs = NZ bs us 0 := (NZ_zero bs us (by rw [B.bl, B.ul]) fun b hb => (B.b1 b hb).1).symm
theorem Box4.lines (B : Box4 n M bs us) (hM : M ≤ 1000000000) : m_count_lines [.d (vecD bs), .d (vecD us)] = .ret (.int (NZ bs us 0 - NZ bs us 1)) := by
  rw [← B.prod]
  exact lines_eq (by rw [B.bl]; have := B.n3; omega) B.u4 (by rw [B.ul]; have := B.n3; omega) (B.bs9 hM) B.dirL
theorem Box4.long (B : Box4 n M bs us) (hM : M ≤ 1000000000) {m : Int} (hm : 1 ≤ m) : m_count_long [.d (vecD bs), .d (vecD us), .d (.int m)] = .ret (.int (NZ bs us (m - 1) - NZ bs us m)) :=
  long_eq (by rw [B.bl]; have := B.n3; omega) B.u4 (by rw [B.ul]; have := B.n3; omega) (B.bs9 hM) B.dirL hm
theorem b0 (B : Box4 n M bs us) (hM : M ≤ 1000000000) {m : Int} (hm : 1 ≤ m) (s0 s1 s2 s3 s6 s7 s8 s10 s11 s12 s13 : Sl) :
    B0_law [s0, s1, s2, s3, .d (vecD bs), .d (vecD us), s6, s7, s8, .d (.int m), s10, s11, s12, s13] = .ret (.nx [s0, s1, s2, s3, .d (vecD bs), .d (vecD us), s6, s7, s8, .d (.int m), s10, s11, s12, s13]) := by
  have h1 := B.long hM hm
  have h2 := B.inner hM (m := m - 1) (by omega)
  have h3 := B.inner hM (m := m) (by omega)
  generalize vecD bs = BB at *
  generalize vecD us = UU at *
  simp [B0_law, h1, h2, h3, ne_ints]
def posB : D → Bool
  | .int m => decide (0 < m)
  | _ => false
theorem pos_go (ns : List Int) (ρ : Env') (h : ∀ d : D, (eBin oGt (eV 11) (eC (.int 0))) (ρ.set 11 (.d d)) = (oGt d (.int 0))) (h2 : ∀ d : D, eV 11 (ρ.set 11 (.d d)) = .ret d) (hb : ∀ d : D, bName 11 d ρ = some (ρ.set 11 (.d d))) :
    lcGo (bName 11) (eBin oGt (eV 11) (eC (.int 0))) (eV 11) ρ (ns.map PyData.int) = .ret ((ns.map PyData.int).filter posB) := by
  refine lc_filter _ fun d hd => ?_
  obtain ⟨m, _, rfl⟩ := List.mem_map.mp hd
  refine ⟨_, hb _, ?_, h2 _⟩
  rw [h]
  rfl
theorem p39 : oPow (.int 10) (.int 39) = .ret (.int (1000000000000000000000000000000000000000)) := rfl
theorem two_fine {a b : Int} (ha : a.natAbs < 10 ^ 50) (hb : b.natAbs < 10 ^ 50) : oNe (.list [.int a, .int b]) (.list [.int a, .int b]) = .ret (.bool false) := by
  have c : cEq (.list [.int a, .int b]) = true := (fine_list (k := 0) (b := 0) (n := 2) (xs := [PyData.int a, PyData.int b]) (fun x hx => by
    refine ints_fine' (ns := [a, b]) (fun y hy => ?_) x hx
    simp only [List.mem_cons, List.not_mem_nil, or_false] at hy
    rcases hy with rfl | rfl
    · exact ha
    · exact hb) (by simp)).eq (by decide)
  rw [ne_fine c c]
  simp [PyData.eqv, PyData.eqvAll]
theorem turn1 (d s3 s4 s5 s6 s7 s8 s9 s10 s11 s12 s13 : Sl) : (B1_law [.no, .box false, d, s3, s4, s5, s6, s7, s8, s9, s10, s11, s12, s13]).wp (fun fl => ∃ t3 t4 t5 t6 t7 t8 t9, fl = .nx [.no, .box false, d, t3, t4, t5, t6, t7, t8, t9, s10, s11, s12, s13]) noE := by
  have B0 := @b0
  have q39 := p39
  simp only [oPow] at q39
  unfold B1_law
  generalize B0_law = BO at *
  simp
  intro i i0 i1
  obtain ⟨n, hn⟩ : ∃ n : Nat, (2 + i : Int) = (n : Int) := ⟨(2 + i).toNat, by omega⟩
  have h2 : 2 ≤ n := by omega
  have h3 : n ≤ 3 := by omega
  rw [hn]
  refine T.le (great_wp h3) ?_
  rintro _ ⟨g1, rfl, gl, gb⟩
  try simp
  refine T.le (box_wp h2 h3) ?_
  rintro _ ⟨g2, rfl, gl2, gb2⟩
  try simp
  refine T.le (P := BoxOk n 1000000000) (pick_wp (by simp) (by simp) ?_) ?_
  · intro x hx
    simp only [List.mem_cons, List.not_mem_nil, or_false] at hx
    rcases hx with rfl | rfl
    · exact ⟨_, rfl, gl, gb⟩
    · exact ⟨_, rfl, gl2, fun s hs => by have := gb2 s hs; omega⟩
  rintro _ ⟨bs, rfl, bl, bb⟩
  try simp
  refine T.le (direction_wp (n := n) h2 h3) ?_
  rintro _ ⟨us, rfl, ul, ub, ug⟩
  obtain ⟨d1, d2, d3⟩ := dir_facts ul ub ug
  have uv : PyData.tuple (us.map PyData.int) = vecD us := rfl
  try rw [uv]
  have B : Box4 n 1000000000 bs us := ⟨h2, h3, bl, ul, bb, d2, d3, d1⟩
  have e1 := B.law_longest
  have e2 := B.inner (by decide) (m := 0) (by decide)
  have e3 := B.inner (by decide) (m := 1) (by decide)
  have e4 := B.lines (by decide)
  have e5 := B.longest
  have lb := B.lgb
  have e6 := B.long (by decide) (m := LG bs us) lb.1
  have n1 := B.n1 (k := LG bs us - 1) (by omega)
  have n0 := B.n0 (k := LG bs us) (by omega)
  have z0 := B.nzb (by decide) (m := 0) (by decide)
  have z1 := B.nzb (by decide) (m := 1) (by decide)
  have ne := two_fine (a := NZ bs us 0 - NZ bs us 1) (b := LG bs us) (by omega) (by omega)
  have f2 := fd (a := LG bs us) (u := 2) (by decide) (by decide)
  have rw' := refused_wp (bs := bs) (us := us) (by omega) (by omega) B.dirL (by omega)
  have bb0 := fun (m : Int) (hm : 1 ≤ m) => B0 B (by decide) hm
  rw [n0] at e6
  generalize NZ bs us (LG bs us - 1) = NL at *
  generalize NZ bs us 0 = N0 at *
  generalize NZ bs us 1 = N1 at *
  generalize LG bs us = L at *
  have hL : ¬ NL - 0 < 1 := by omega
  have hL2 : ¬ NL ≤ 0 := by omega
  have hL3 : ¬ NL < 1 := by omega
  generalize vecD bs = BB at *
  generalize vecD us = UU at *
  simp [e1, e2, e3, e4, e5, ne, f2]
  refine T.le (far_wp (m := L) (by omega)) ?_
  rintro _ ⟨z, rfl, y1, y2⟩
  try simp [q39]
  have pg := pos_go [1, 2, 3, L - 1, L, L + 1, L.fdiv 2, z, 1000000000000000000000000000000000000000] [.no, .box false, d, .d (.int (n : Nat)), .d BB, .d UU, .d (.int L), .d (.list [.int (N0 - N1), .int L]), .d (.list ([1, 2, 3, L - 1, L, L + 1, L.fdiv 2, z, 1000000000000000000000000000000000000000].map PyData.int)), s9, s10, .no, s12, s13] (fun _ => rfl) (fun _ => rfl) (fun _ => rfl)
  have ec : eLc [11] (iSeq (eV 8)) (bName 11) (eBin oGt (eV 11) (eC (.int 0))) (eV 11) [.no, .box false, d, .d (.int (n : Nat)), .d BB, .d UU, .d (.int L), .d (.list [.int (N0 - N1), .int L]), .d (.list ([1, 2, 3, L - 1, L, L + 1, L.fdiv 2, z, 1000000000000000000000000000000000000000].map PyData.int)), s9, s10, s11, s12, s13] = .ret (.list (([1, 2, 3, L - 1, L, L + 1, L.fdiv 2, z, 1000000000000000000000000000000000000000].map PyData.int).filter posB)) :=
    eLc_ret (ds := [1, 2, 3, L - 1, L, L + 1, L.fdiv 2, z, 1000000000000000000000000000000000000000].map PyData.int) rfl (by simp) pg
  have hp : ∀ d ∈ ([1, 2, 3, L - 1, L, L + 1, L.fdiv 2, z, 1000000000000000000000000000000000000000].map PyData.int).filter posB, ∃ m : Int, d = .int m ∧ 1 ≤ m := by
    intro d hd
    obtain ⟨a, b⟩ := List.mem_filter.mp hd
    obtain ⟨m, _, rfl⟩ := List.mem_map.mp a
    refine ⟨m, rfl, ?_⟩
    have := of_decide_eq_true b
    omega
  simp only [List.map_cons, List.map_nil] at ec hp
  generalize hF : List.filter posB _ = FL at ec hp
  simp [ec]
  refine h_go (fun ρ => ∃ s9, ρ = [.no, .box false, d, .d (.int (n : Nat)), .d BB, .d UU, .d (.int L), .d (.list [.int (N0 - N1), .int L]), .d (.list [.int 1, .int 2, .int 3, .int (L - 1), .int L, .int (L + 1), .int (L.fdiv 2), .int z, .int (1000000000000000000000000000000000000000)]), s9, s10, s11, s12, s13]) _ _ ⟨_, rfl⟩ ?_ ?_
  · rintro x hx ρ ⟨t9, rfl⟩
    refine ⟨_, rfl, ?_⟩
    obtain ⟨m, rfl, hm⟩ := hp x hx
    show (BO [.no, .box false, d, .d (.int (n : Nat)), .d BB, .d UU, .d (.int L), .d (.list [.int (N0 - N1), .int L]), .d (.list [.int 1, .int 2, .int 3, .int (L - 1), .int L, .int (L + 1), .int (L.fdiv 2), .int z, .int (1000000000000000000000000000000000000000)]), .d (.int m), s10, s11, s12, s13]).wp _ _
    rw [bb0 m hm]
    exact ⟨_, rfl⟩
  · rintro ρ ⟨t9, rfl⟩
    simp [e6, hL, hL2, hL3]
    refine T.le rw' ?_
    rintro _ rfl
    simp
end
end Wk40

set_option Elab.async false
set_option linter.all false
set_option maxRecDepth 100000
set_option maxHeartbeats 4000000
namespace Wk40
open PySem PySem.Spec PyProof.Rows L2 Wb
/-- how many points a line has, from its first one on -/
def lenF (ss us p : List Int) : Int := (((List.range 9).countP fun k : Nat => insB ss (goL p k us) : Nat) : Int)
theorem cnt_le (hi : Int) (h : 0 ≤ hi ∧ hi ≤ 8) (f : Nat → Bool) (hf : ∀ k : Nat, f k = decide ((k : Int) ≤ hi)) : (((List.range 9).countP f : Nat) : Int) = hi + 1 := by
  have e : f = fun k : Nat => decide ((k : Int) ≤ hi) := funext hf
  rw [e]
  have c : hi = 0 ∨ hi = 1 ∨ hi = 2 ∨ hi = 3 ∨ hi = 4 ∨ hi = 5 ∨ hi = 6 ∨ hi = 7 ∨ hi = 8 := by omega
  rcases c with rfl | rfl | rfl | rfl | rfl | rfl | rfl | rfl | rfl <;> decide
section
variable {n : Nat} {bs us : List Int}
theorem first_line (B : Box4 n 8 bs us) {p : List Int} (hp : p ∈ firstsL bs us) : m_law_walk [.d (vecD bs), .d (vecD us), .d (vecD p)] = .ret (.list (rowL us p 0 (lenF bs us p).toNat)) ∧ (∀ k : Int, 0 ≤ k → (insB bs (goL p k us) = true ↔ k < lenF bs us p)) ∧ 1 ≤ lenF bs us p ∧ lenF bs us p ≤ 8 := by
  unfold firstsL at hp
  obtain ⟨h1, h2⟩ := List.mem_filter.mp hp
  obtain ⟨p1, p2⟩ := pts_ok bs p h1
  have hX : Bx bs us p := ⟨by have := B.n2; rw [B.ul]; exact this, by have := B.n3; rw [B.ul]; exact this, by rw [B.bl, B.ul], by rw [p1, B.bl, B.ul], B.u4, B.nz, p2⟩
  obtain ⟨lo, hi, L⟩ := hX.line
  have l0 : lo = 0 := by
    have a := L.lo0
    have b := L.hi0
    apply Classical.byContradiction
    intro ne
    have := (L.sp.at_ (-1)).mpr ⟨by omega, by omega⟩
    rw [this] at h2
    cases h2
  subst l0
  have w := wideM bs us p 0 hi hX.sl hX.pl (fun s hs => (B.b1 s hs).2) B.u4 B.nz ((L.sp.at_ 0).mpr ⟨Int.le_refl _, L.hi0⟩) ((L.sp.at_ hi).mpr ⟨L.hi0, Int.le_refl _⟩)
  have hh := L.hi0
  have e : lenF bs us p = hi + 1 := cnt_le hi ⟨hh, by omega⟩ _ fun k => by
    rw [Bool.eq_iff_iff, decide_eq_true_eq, L.sp.at_ k]
    omega
  have we := walk_eq hX L fun s hs => (B.b1 s hs).2
  rw [e]
  refine ⟨?_, fun k hk => ?_, by omega, by omega⟩
  · rw [we, Int.sub_zero]
  · rw [L.sp.at_ k]
    omega
/-- the lines' lengths -/
def lensL (bs us : List Int) : List Int := (firstsL bs us).map (lenF bs us)
theorem firsts_len (B : Box4 n 8 bs us) : (firstsL bs us).length ≤ 512 := by
  have a := pts_len bs fun s hs => (B.b1 s hs).2
  have pw : (8 : Nat) ^ bs.length ≤ 512 := Nat.le_trans (Nat.pow_le_pow_right (by decide) (by rw [B.bl]; exact B.n3 : bs.length ≤ 3)) (by decide)
  unfold firstsL
  exact Nat.le_trans (List.length_filter_le _ _) (Nat.le_trans a pw)
theorem lens_cnt (B : Box4 n 8 bs us) {m : Int} (h1 : 1 ≤ m) (h9 : m ≤ 10) : (((lensL bs us).countP fun z => decide (m ≤ z) : Nat) : Int) = NZ bs us (m - 1) - NZ bs us m := by
  have c := cntF (k := m - 1) ⟨by omega, by omega⟩ (by rw [B.bl, B.ul] : bs.length = us.length) B.b1 B.u4
  have e : m - 1 + 1 = m := by omega
  rw [e] at c
  rw [← c]
  unfold lensL
  rw [List.countP_map]
  congr 1
  refine List.countP_congr fun p hp => ?_
  have := (first_line B hp).2.1 (m - 1) (by omega)
  simp only [Function.comp, decide_eq_true_eq]
  rw [this]
  omega
theorem lens_all (B : Box4 n 8 bs us) : ((lensL bs us).length : Int) = NZ bs us 0 - NZ bs us 1 := by
  have c := lens_cnt B (m := 1) (by decide) (by decide)
  rw [show (1 : Int) - 1 = 0 from rfl] at c
  rw [← c]
  congr 1
  refine (List.countP_eq_length.mpr fun z hz => ?_).symm
  obtain ⟨p, hp, rfl⟩ := List.mem_map.mp hz
  rw [decide_eq_true_eq]
  exact (first_line B hp).2.2.1
theorem lens_max (B : Box4 n 8 bs us) : ∃ a r, lensL bs us = a :: r ∧ mxZ a r = LG bs us := by
  have lb := B.lgb
  have c1 := lens_cnt B (m := LG bs us) lb.1 (by omega)
  have c2 := lens_cnt B (m := LG bs us + 1) (by omega) (by omega)
  rw [B.n0 (k := LG bs us) (Int.le_refl _)] at c1
  rw [B.n0 (k := LG bs us + 1 - 1) (by omega), B.n0 (k := LG bs us + 1) (by omega)] at c2
  have n1 := B.n1 (k := LG bs us - 1) (by omega)
  have z1 : 0 < (lensL bs us).countP fun z => decide (LG bs us ≤ z) := by omega
  have z2 : (lensL bs us).countP (fun z => decide (LG bs us + 1 ≤ z)) = 0 := by omega
  rw [List.countP_pos_iff] at z1
  rw [List.countP_eq_zero] at z2
  obtain ⟨z, hz, hl⟩ := z1
  cases e : lensL bs us with
  | nil =>
    rw [e] at hz
    cases hz
  | cons a r =>
    refine ⟨a, r, rfl, ?_⟩
    rw [e] at hz z2
    have g := mxZ_ge r a z hz
    have m := z2 _ (mxZ_mem r a)
    rw [decide_eq_true_eq] at hl m
    omega
theorem rows_eq (B : Box4 n 8 bs us) (s0 s1 s2 s3 s6 s7 s8 s9 s10 s11 s12 s13 : Sl) :
    eLc [12] (iSeq (eCall 2 m_law_firsts (aCons (eV 4) (aCons (eV 5) aNil)))) (bName 12) tTrue (eCb oLen (aCons (eCall 3 m_law_walk (aCons (eV 4) (aCons (eV 5) (aCons (eV 12) aNil)))) aNil)) [s0, s1, s2, s3, .d (vecD bs), .d (vecD us), s6, s7, s8, s9, s10, s11, s12, s13] = .ret (.list ((lensL bs us).map PyData.int)) := by
  have fe := firsts_eq (ss := bs) (us := us) (by rw [B.bl, B.ul]) (by rw [B.ul]; exact B.n3) B.u4 B.b1
  have lf := firsts_len B
  have go : lcGo (bName 12) tTrue (eCb oLen (aCons (eCall 3 m_law_walk (aCons (eV 4) (aCons (eV 5) (aCons (eV 12) aNil)))) aNil)) [s0, s1, s2, s3, .d (vecD bs), .d (vecD us), s6, s7, s8, s9, s10, s11, .no, s13] ((firstsL bs us).map vecD) = .ret (((firstsL bs us).map vecD).map (toV fun p => .int (lenF bs us p))) := by
    refine lc_map _ fun d hd => ?_
    obtain ⟨p, hp, rfl⟩ := List.mem_map.mp hd
    refine ⟨_, rfl, rfl, ?_⟩
    obtain ⟨w, _, l1, _⟩ := first_line B hp
    rw [toV_vec]
    have rl := row_len us p (lenF bs us p).toNat 0
    have rl' : ((rowL us p 0 (lenF bs us p).toNat).length : Int) = lenF bs us p := by
      rw [rl]
      omega
    generalize rowL us p 0 (lenF bs us p).toNat = R at *
    generalize vecD bs = BB at *
    generalize vecD us = UU at *
    generalize vecD p = P at *
    simp [w, rl']
  have ef : ((firstsL bs us).map vecD).map (toV fun p => .int (lenF bs us p)) = (lensL bs us).map PyData.int := by
    unfold lensL
    rw [List.map_map, List.map_map]
    refine List.map_congr_left fun p _ => ?_
    exact toV_vec _ p
  rw [ef] at go
  refine eLc_ret (ds := (firstsL bs us).map vecD) ?_ (by rw [List.length_map]; omega) go
  generalize (firstsL bs us).map vecD = F at *
  generalize vecD bs = BB at *
  generalize vecD us = UU at *
  simp [fe]
/-- what is told for each number of points -/
def tD (bs us : List Int) : D → D
  | .int m => .int (NZ bs us (m - 1) - NZ bs us m)
  | _ => .none
theorem r19 : oRng2 [.d (.int 1), .d (.int 10)] = .ret (rangeD 1 9) := rfl
theorem mem19 {d : D} (h : d ∈ rangeD 1 9) : ∃ m : Int, d = .int m ∧ 1 ≤ m ∧ m ≤ 9 := by
  obtain ⟨i, hi, rfl⟩ := List.mem_map.mp h
  rw [List.mem_range] at hi
  exact ⟨_, rfl, by omega, by omega⟩
def geB (m : Int) : D → Bool
  | .int z => decide (m ≤ z)
  | _ => false
theorem due_eq (B : Box4 n 8 bs us) (s0 s1 s2 s3 s6 s7 s8 s9 s11 s12 s13 : Sl) :
    eLc [9] (iArg oRng2 (aCons (eC (.int 1)) (aCons (eC (.int 10)) aNil))) (bName 9) tTrue (eCb oLen (aCons (eLc [13] (iSeq (eV 10)) (bName 13) (eBin oGe (eV 13) (eV 9)) (eV 13)) aNil)) [s0, s1, s2, s3, .d (vecD bs), .d (vecD us), s6, s7, s8, s9, .d (.list ((lensL bs us).map PyData.int)), s11, s12, s13] = .ret (.list ((rangeD 1 9).map (tD bs us))) := by
  have lf : (lensL bs us).length ≤ 512 := by
    unfold lensL
    rw [List.length_map]
    exact firsts_len B
  refine eLc_ret (ds := rangeD 1 9) (by simp [r19]) (by decide) (lc_map _ fun d hd => ⟨_, rfl, rfl, ?_⟩)
  obtain ⟨m, rfl, h1, h9⟩ := mem19 hd
  have c := lens_cnt B h1 (by omega)
  have go : eLc [13] (iSeq (eV 10)) (bName 13) (eBin oGe (eV 13) (eV 9)) (eV 13) [s0, s1, s2, s3, .d (vecD bs), .d (vecD us), s6, s7, s8, .d (.int m), .d (.list ((lensL bs us).map PyData.int)), s11, s12, s13] = .ret (.list (((lensL bs us).map PyData.int).filter (geB m))) := by
    refine eLc_ret (ds := (lensL bs us).map PyData.int) rfl (by rw [List.length_map]; omega) (lc_filter _ fun d hd => ?_)
    obtain ⟨z, _, rfl⟩ := List.mem_map.mp hd
    exact ⟨_, rfl, rfl, rfl⟩
  have cl : ((((lensL bs us).map PyData.int).filter (geB m)).length : Int) = NZ bs us (m - 1) - NZ bs us m := by
    rw [← c, ← List.countP_eq_length_filter, List.countP_map]
    rfl
  have ll : ((lensL bs us).map PyData.int).length ≤ 512 := by rw [List.length_map]; exact lf
  show eCb oLen (aCons (eLc [13] (iSeq (eV 10)) (bName 13) (eBin oGe (eV 13) (eV 9)) (eV 13)) aNil) [s0, s1, s2, s3, .d (vecD bs), .d (vecD us), s6, s7, s8, .d (.int m), .d (.list ((lensL bs us).map PyData.int)), s11, s12, s13] = _
  generalize ((lensL bs us).map PyData.int).filter (geB m) = FF at *
  generalize (lensL bs us).map PyData.int = LL at *
  generalize vecD bs = BB at *
  generalize vecD us = UU at *
  simp [go, cl, tD]
theorem told_eq (B : Box4 n 8 bs us) (s0 s1 s2 s3 s6 s7 s8 s9 s10 s11 s12 s13 : Sl) :
    eLc [9] (iArg oRng2 (aCons (eC (.int 1)) (aCons (eC (.int 10)) aNil))) (bName 9) tTrue (eCall 3 m_count_long (aCons (eV 4) (aCons (eV 5) (aCons (eV 9) aNil)))) [s0, s1, s2, s3, .d (vecD bs), .d (vecD us), s6, s7, s8, s9, s10, s11, s12, s13] = .ret (.list ((rangeD 1 9).map (tD bs us))) := by
  refine eLc_ret (ds := rangeD 1 9) (by simp [r19]) (by decide) (lc_map _ fun d hd => ⟨_, rfl, rfl, ?_⟩)
  obtain ⟨m, rfl, h1, h9⟩ := mem19 hd
  have l := B.long (by decide) h1
  generalize vecD bs = BB at *
  generalize vecD us = UU at *
  simp [l, tD]
theorem td_rep (B : Box4 n 8 bs us) : okRep (.list ((rangeD 1 9).map (tD bs us))) = true := by
  refine (fine_list (k := 0) (b := 0) (n := 9) (fun x hx => ?_) (by rw [List.length_map, rangeD_len]; exact Nat.le_refl 9)).rep (by decide) (by decide)
  obtain ⟨d, hd, rfl⟩ := List.mem_map.mp hx
  obtain ⟨m, rfl, h1, h9⟩ := mem19 hd
  have a := B.nzb (by decide) (m := m - 1) (by omega)
  have b := B.nzb (by decide) (m := m) (by omega)
  refine ints_fine' (ns := [NZ bs us (m - 1) - NZ bs us m]) (fun y hy => ?_) _ (List.mem_singleton.mpr rfl)
  rw [List.mem_singleton] at hy
  omega
theorem two_rep {a b : Int} (ha : a.natAbs < 10 ^ 50) (hb : b.natAbs < 10 ^ 50) : okRep (.list [.int a, .int b]) = true :=
  (fine_list (k := 0) (b := 0) (n := 2) (xs := [PyData.int a, PyData.int b]) (fun x hx => by
    refine ints_fine' (ns := [a, b]) (fun y hy => ?_) x hx
    simp only [List.mem_cons, List.not_mem_nil, or_false] at hy
    rcases hy with rfl | rfl
    · exact ha
    · exact hb) (by simp)).rep (by decide) (by decide)
theorem turn2 (d s3 s4 s5 s6 s7 s8 s9 s10 s11 s12 s13 : Sl) : (B2_law [.no, .box false, d, s3, s4, s5, s6, s7, s8, s9, s10, s11, s12, s13]).wp (fun fl => ∃ t3 t4 t5 t7 t10, fl = .nx [.no, .box false, d, t3, t4, t5, s6, t7, s8, s9, t10, s11, s12, s13]) noE := by
  unfold B2_law
  simp
  intro i i0 i1
  obtain ⟨n, hn⟩ : ∃ n : Nat, (2 + i : Int) = (n : Int) := ⟨(2 + i).toNat, by omega⟩
  have h2 : 2 ≤ n := by omega
  have h3 : n ≤ 3 := by omega
  rw [hn]
  refine T.le (box_wp h2 h3) ?_
  rintro _ ⟨bs, rfl, bl, bb⟩
  try simp
  refine T.le (direction_wp (n := n) h2 h3) ?_
  rintro _ ⟨us, rfl, ul, ub, ug⟩
  obtain ⟨d1, d2, d3⟩ := dir_facts ul ub ug
  have uv : PyData.tuple (us.map PyData.int) = vecD us := rfl
  try rw [uv]
  have B : Box4 n 8 bs us := ⟨h2, h3, bl, ul, bb, d2, d3, d1⟩
  have e1 := rows_eq B .no (.box false) d (.d (.int (n : Nat))) s6 s7 s8 s9 s10 s11 s12 s13
  have e2 := B.lines (by decide)
  have e3 := B.longest
  have z0 := B.nzb (by decide) (m := 0) (by decide)
  have z1 := B.nzb (by decide) (m := 1) (by decide)
  have lb := B.lgb
  have la := lens_all B
  obtain ⟨a, r, el, em⟩ := lens_max B
  have r2 := Wb.repr_eq (two_rep (a := NZ bs us 0 - NZ bs us 1) (b := LG bs us) (by omega) (by omega))
  have e4 := due_eq B .no (.box false) d (.d (.int (n : Nat))) s6 s7 s8 s9 s11 s12 s13
  have e5 := told_eq B .no (.box false) d (.d (.int (n : Nat))) s6 (.d (.list ((rangeD 1 9).map (tD bs us)))) s8 s9 (.d (.list ((lensL bs us).map PyData.int))) s11 s12 s13
  have r3 := Wb.repr_eq (td_rep B)
  have mx : oMaxL (.list ((lensL bs us).map PyData.int)) = .ret (.int (LG bs us)) := by
    rw [el, List.map_cons, oMaxL_ints, em]
  have ll : oLen [.d (.list ((lensL bs us).map PyData.int))] = .ret (.int (NZ bs us 0 - NZ bs us 1)) := by
    rw [← la]
    simp
  generalize NZ bs us 0 - NZ bs us 1 = NN at *
  generalize LG bs us = L at *
  generalize (lensL bs us).map PyData.int = LL at *
  generalize (rangeD 1 9).map (tD bs us) = TT at *
  generalize vecD bs = BB at *
  generalize vecD us = UU at *
  generalize hX : PyData.list [.int NN, .int L] = XX at *
  generalize hY : PyData.list TT = YY at *
  generalize hZ : PyData.list LL = ZZ at *
  simp [e1, e2, e3, e4, e5, ll, mx, hX, r2, r3, Wb.ne_str]
end
theorem r10 : oRng1 [.d (.int 10)] = .ret (rangeD 0 10) := oRng1_nat (n := 10) (by decide)
theorem r3 : oRng1 [.d (.int 3)] = .ret (rangeD 0 3) := oRng1_nat (n := 3) (by decide)
theorem last_eq : m_count_lines [.d (.tuple [.int 1000000000, .int 1000000000]), .d (.tuple [.int 1, .int (-1)])] = .ret (.int 1999999999) := by
  have B : Box4 2 1000000000 [1000000000, 1000000000] [1, -1] := ⟨by decide, by decide, rfl, rfl, by decide, by decide, ⟨1, by decide, by decide⟩, by decide +kernel⟩
  have e := B.lines (by decide)
  have n0 : NZ [1000000000, 1000000000] [1, -1] 0 = 1000000000000000000 := by decide +kernel
  have n1 : NZ [1000000000, 1000000000] [1, -1] 1 = 999999998000000001 := by decide +kernel
  rw [n0, n1] at e
  exact e
theorem p9 : oPow (.int 10) (.int 9) = .ret (.int 1000000000) := rfl
theorem R_law_eq (ρ : Env') : R_law ρ = .ret (.bool true) := by
  have e := last_eq
  have q9 := p9
  simp only [oPow] at q9
  have m : oMul (.int 2) (.int 1000000000) = .ret (.int 2000000000) := rfl
  unfold R_law
  simp [q9, e, m, eq_ints]
theorem law_true : (F_law ([Sl.no, .box false] ++ List.replicate 12 .no)).run.wp (fun d => d = .bool true) (fun _ => False) := by
  show (F_law [.no, .box false, .no, .no, .no, .no, .no, .no, .no, .no, .no, .no, .no, .no]).run.wp _ _
  have T1 := @turn1
  have T2 := @turn2
  have RL := @R_law_eq
  unfold F_law
  generalize B1_law = B at *
  generalize B2_law = C at *
  generalize R_law = R at *
  simp [r10]
  refine h_go (fun ρ => ∃ s2 s3 s4 s5 s6 s7 s8 s9 s10 s11 s12 s13, ρ = [.no, .box false, s2, s3, s4, s5, s6, s7, s8, s9, s10, s11, s12, s13]) _ _ ⟨_, _, _, _, _, _, _, _, _, _, _, _, rfl⟩ ?_ ?_
  · rintro d _ ρ ⟨s2, s3, s4, s5, s6, s7, s8, s9, s10, s11, s12, s13, rfl⟩
    refine ⟨_, rfl, ?_⟩
    refine T.wp_mono ?_ (fun _ z => z) _ (T1 (.d d) s3 s4 s5 s6 s7 s8 s9 s10 s11 s12 s13)
    rintro _ ⟨t3, t4, t5, t6, t7, t8, t9, rfl⟩
    exact ⟨_, _, _, _, _, _, _, _, _, _, _, _, rfl⟩
  · rintro ρ ⟨s2, s3, s4, s5, s6, s7, s8, s9, s10, s11, s12, s13, rfl⟩
    simp [r3]
    refine h_go (fun ρ => ∃ s2 s3 s4 s5 s6 s7 s8 s9 s10 s11 s12 s13, ρ = [.no, .box false, s2, s3, s4, s5, s6, s7, s8, s9, s10, s11, s12, s13]) _ _ ⟨_, _, _, _, _, _, _, _, _, _, _, _, rfl⟩ ?_ ?_
    · rintro d _ ρ ⟨s2, s3, s4, s5, s6, s7, s8, s9, s10, s11, s12, s13, rfl⟩
      refine ⟨_, rfl, ?_⟩
      refine T.wp_mono ?_ (fun _ z => z) _ (T2 (.d d) s3 s4 s5 s6 s7 s8 s9 s10 s11 s12 s13)
      rintro _ ⟨t3, t4, t5, t7, t10, rfl⟩
      exact ⟨_, _, _, _, _, _, _, _, _, _, _, _, rfl⟩
    · rintro ρ ⟨s2, s3, s4, s5, s6, s7, s8, s9, s10, s11, s12, s13, rfl⟩
      simp [RL]
end Wk40

set_option Elab.async false
set_option linter.all false
set_option maxRecDepth 100000
namespace Wk40
end Wk40
open PySem PySem.W PyProof.Rows
set_option maxHeartbeats 0 in
theorem PySem.Challenge.cw_wirebeats_k40_lines_counted_holds : PySem.Challenge.rw_wirebeats_k40_lines_counted.Holds := by
  w_on; o_law; k_head; (case hw => w_witness2)
  k_fill
  refine Wb.walkGT (l := PySem.Challenge.rw_wirebeats_k40_lines_counted) (n := 63) (k := 15) (x := "_law_script") rfl (by decide) rfl ⟨rfl, by decide, by decide⟩ (fun w h Y => PySem.W.km_in_of Y) ?F
  case F =>
    intro w mg fa h Y KX G hmg tf
    refine' Wk40.all_mk KX G hmg (tf "_law_refused_right" (by decide +kernel)) ?a_is_integer ?l_is_integer ?c_is_integer ?k_is_integer ?a_is_within ?l_is_within ?c_is_within ?k_is_within ?a_is_bounded ?l_is_bounded ?c_is_bounded ?k_is_bounded ?a_count_points ?l_count_points ?c_count_points ?k_count_points ?a_common_divisor ?l_common_divisor ?c_common_divisor ?k_common_divisor ?a_is_direction ?l_is_direction ?c_is_direction ?k_is_direction ?a_check_direction ?l_check_direction ?c_check_direction ?k_check_direction ?a_count_staying ?l_count_staying ?c_count_staying ?k_count_staying ?a_greatest_step ?l_greatest_step ?c_greatest_step ?k_greatest_step ?a_count_lines ?l_count_lines ?c_count_lines ?k_count_lines ?a_longest_line ?l_longest_line ?c_longest_line ?k_longest_line ?a_count_long ?l_count_long ?c_count_long ?k_count_long ?a_law_spring ?l_law_spring ?c_law_spring ?k_law_spring ?a_law_dip ?l_law_dip ?c_law_dip ?k_law_dip ?a_law_pick ?l_law_pick ?c_law_pick ?k_law_pick ?a_law_far ?l_law_far ?c_law_far ?k_law_far ?a_law_gcd ?l_law_gcd ?c_law_gcd ?k_law_gcd ?a_law_share ?l_law_share ?c_law_share ?k_law_share ?a_law_direction ?l_law_direction ?c_law_direction ?k_law_direction ?a_law_box ?l_law_box ?c_law_box ?k_law_box ?a_law_great ?l_law_great ?c_law_great ?k_law_great ?a_law_on ?l_law_on ?c_law_on ?k_law_on ?a_law_inside ?l_law_inside ?c_law_inside ?k_law_inside ?a_law_points ?l_law_points ?c_law_points ?k_law_points ?a_law_walk ?l_law_walk ?c_law_walk ?k_law_walk ?a_law_firsts ?l_law_firsts ?c_law_firsts ?k_law_firsts ?a_law_whole ?l_law_whole ?c_law_whole ?k_law_whole ?a_law_vector ?l_law_vector ?c_law_vector ?k_law_vector ?a_law_is_direction ?l_law_is_direction ?c_law_is_direction ?k_law_is_direction ?a_law_odd ?l_law_odd ?c_law_odd ?k_law_odd ?a_law_bent ?l_law_bent ?c_law_bent ?k_law_bent ?a_law_wrong ?l_law_wrong ?c_law_wrong ?k_law_wrong ?a_law_inner ?l_law_inner ?c_law_inner ?k_law_inner ?a_law_longest ?l_law_longest ?c_law_longest ?k_law_longest ?a_law_told ?l_law_told ?c_law_told ?k_law_told ?a_law_refused_right ?l_law_refused_right ?c_law_refused_right ?lc_law_refused_right ?ve_law_refused_right ?kt_law_refused_right ?k_law_refused_right ?a_law ?l_law ?c_law ?k_law ?z_abs ?z_bool ?z_int ?z_isinstance ?z_len ?z_list ?z_max ?z_min ?z_range ?z_repr ?z_tuple ?z_zip ?v_MAX_DIST ?y_gcd ?a_BadDirection ?ex_BadDirection ?ty_BadDirection ?ic_BadDirection ?a_NoCount ?ex_NoCount ?ty_NoCount ?ic_NoCount ?x_BadDirection ?r_BadDirection ?sa_BadDirection ?ga_BadDirection ?gg_BadDirection ?no_BadDirection ?kc_BadDirection ?hd_BadDirection ?ii_BadDirection ?ti_BadDirection ?li_BadDirection ?ci_BadDirection ?ki_BadDirection ?x_NoCount ?r_NoCount ?sa_NoCount ?ga_NoCount ?gg_NoCount ?no_NoCount ?kc_NoCount ?hd_NoCount ?ii_NoCount ?ti_NoCount ?li_NoCount ?ci_NoCount ?ki_NoCount ?s_BadDirection_BadDirection ?s_BadDirection_NoCount ?s_NoCount_BadDirection ?s_NoCount_NoCount ?ndT Wk40.law_true
    (case a_is_integer => k_is)
    (case l_is_integer => k_is)
    (case c_is_integer => k_is)
    (case k_is_integer => k_is)
    (case a_is_within => k_is)
    (case l_is_within => k_is)
    (case c_is_within => k_is)
    (case k_is_within => k_is)
    (case a_is_bounded => k_is)
    (case l_is_bounded => k_is)
    (case c_is_bounded => k_is)
    (case k_is_bounded => k_is)
    (case a_count_points => k_is)
    (case l_count_points => k_is)
    (case c_count_points => k_is)
    (case k_count_points => k_is)
    (case a_common_divisor => k_is)
    (case l_common_divisor => k_is)
    (case c_common_divisor => k_is)
    (case k_common_divisor => k_is)
    (case a_is_direction => k_is)
    (case l_is_direction => k_is)
    (case c_is_direction => k_is)
    (case k_is_direction => k_is)
    (case a_check_direction => k_is)
    (case l_check_direction => k_is)
    (case c_check_direction => k_is)
    (case k_check_direction => k_is)
    (case a_count_staying => k_is)
    (case l_count_staying => k_is)
    (case c_count_staying => k_is)
    (case k_count_staying => k_is)
    (case a_greatest_step => k_is)
    (case l_greatest_step => k_is)
    (case c_greatest_step => k_is)
    (case k_greatest_step => k_is)
    (case a_count_lines => k_is)
    (case l_count_lines => k_is)
    (case c_count_lines => k_is)
    (case k_count_lines => k_is)
    (case a_longest_line => k_is)
    (case l_longest_line => k_is)
    (case c_longest_line => k_is)
    (case k_longest_line => k_is)
    (case a_count_long => k_is)
    (case l_count_long => k_is)
    (case c_count_long => k_is)
    (case k_count_long => k_is)
    (case a_law_spring => k_is)
    (case l_law_spring => k_is)
    (case c_law_spring => k_is)
    (case k_law_spring => k_is)
    (case a_law_dip => k_is)
    (case l_law_dip => k_is)
    (case c_law_dip => k_is)
    (case k_law_dip => k_is)
    (case a_law_pick => k_is)
    (case l_law_pick => k_is)
    (case c_law_pick => k_is)
    (case k_law_pick => k_is)
    (case a_law_far => k_is)
    (case l_law_far => k_is)
    (case c_law_far => k_is)
    (case k_law_far => k_is)
    (case a_law_gcd => k_is)
    (case l_law_gcd => k_is)
    (case c_law_gcd => k_is)
    (case k_law_gcd => k_is)
    (case a_law_share => k_is)
    (case l_law_share => k_is)
    (case c_law_share => k_is)
    (case k_law_share => k_is)
    (case a_law_direction => k_is)
    (case l_law_direction => k_is)
    (case c_law_direction => k_is)
    (case k_law_direction => k_is)
    (case a_law_box => k_is)
    (case l_law_box => k_is)
    (case c_law_box => k_is)
    (case k_law_box => k_is)
    (case a_law_great => k_is)
    (case l_law_great => k_is)
    (case c_law_great => k_is)
    (case k_law_great => k_is)
    (case a_law_on => k_is)
    (case l_law_on => k_is)
    (case c_law_on => k_is)
    (case k_law_on => k_is)
    (case a_law_inside => k_is)
    (case l_law_inside => k_is)
    (case c_law_inside => k_is)
    (case k_law_inside => k_is)
    (case a_law_points => k_is)
    (case l_law_points => k_is)
    (case c_law_points => k_is)
    (case k_law_points => k_is)
    (case a_law_walk => k_is)
    (case l_law_walk => k_is)
    (case c_law_walk => k_is)
    (case k_law_walk => k_is)
    (case a_law_firsts => k_is)
    (case l_law_firsts => k_is)
    (case c_law_firsts => k_is)
    (case k_law_firsts => k_is)
    (case a_law_whole => k_is)
    (case l_law_whole => k_is)
    (case c_law_whole => k_is)
    (case k_law_whole => k_is)
    (case a_law_vector => k_is)
    (case l_law_vector => k_is)
    (case c_law_vector => k_is)
    (case k_law_vector => k_is)
    (case a_law_is_direction => k_is)
    (case l_law_is_direction => k_is)
    (case c_law_is_direction => k_is)
    (case k_law_is_direction => k_is)
    (case a_law_odd => k_is)
    (case l_law_odd => k_is)
    (case c_law_odd => k_is)
    (case k_law_odd => k_is)
    (case a_law_bent => k_is)
    (case l_law_bent => k_is)
    (case c_law_bent => k_is)
    (case k_law_bent => k_is)
    (case a_law_wrong => k_is)
    (case l_law_wrong => k_is)
    (case c_law_wrong => k_is)
    (case k_law_wrong => k_is)
    (case a_law_inner => k_is)
    (case l_law_inner => k_is)
    (case c_law_inner => k_is)
    (case k_law_inner => k_is)
    (case a_law_longest => k_is)
    (case l_law_longest => k_is)
    (case c_law_longest => k_is)
    (case k_law_longest => k_is)
    (case a_law_told => k_is)
    (case l_law_told => k_is)
    (case c_law_told => k_is)
    (case k_law_told => k_is)
    (case a_law_refused_right => k_is)
    (case l_law_refused_right => k_is)
    (case c_law_refused_right => k_is)
    (case lc_law_refused_right => k_is)
    (case ve_law_refused_right => (first | rfl | k_is))
    (case kt_law_refused_right => (first | rfl | k_is))
    (case k_law_refused_right => k_is)
    (case a_law => k_is)
    (case l_law => k_is)
    (case c_law => k_is)
    (case k_law => k_is)
    (case z_abs => k_is)
    (case z_bool => k_is)
    (case z_int => k_is)
    (case z_isinstance => k_is)
    (case z_len => k_is)
    (case z_list => k_is)
    (case z_max => k_is)
    (case z_min => k_is)
    (case z_range => k_is)
    (case z_repr => k_is)
    (case z_tuple => k_is)
    (case z_zip => k_is)
    (case v_MAX_DIST => k_is)
    (case y_gcd => k_is)
    (case a_BadDirection => k_is)
    (case ex_BadDirection => k_is)
    (case ty_BadDirection => k_is)
    (case ic_BadDirection => k_is)
    (case a_NoCount => k_is)
    (case ex_NoCount => k_is)
    (case ty_NoCount => k_is)
    (case ic_NoCount => k_is)
    (case x_BadDirection => k_is)
    (case r_BadDirection => decide +kernel)
    (case sa_BadDirection => k_is)
    (case ga_BadDirection => k_is)
    (case gg_BadDirection => k_is)
    (case no_BadDirection => k_is)
    (case kc_BadDirection => k_is)
    (case hd_BadDirection => k_is)
    (case ii_BadDirection => k_is)
    (case ti_BadDirection => k_is)
    (case li_BadDirection => k_is)
    (case ci_BadDirection => k_is)
    (case ki_BadDirection => k_is)
    (case x_NoCount => k_is)
    (case r_NoCount => decide +kernel)
    (case sa_NoCount => k_is)
    (case ga_NoCount => k_is)
    (case gg_NoCount => k_is)
    (case no_NoCount => k_is)
    (case kc_NoCount => k_is)
    (case hd_NoCount => k_is)
    (case ii_NoCount => k_is)
    (case ti_NoCount => k_is)
    (case li_NoCount => k_is)
    (case ci_NoCount => k_is)
    (case ki_NoCount => k_is)
    (case s_BadDirection_BadDirection => (first | rfl | k_is))
    (case s_BadDirection_NoCount => (first | rfl | k_is))
    (case s_NoCount_BadDirection => (first | rfl | k_is))
    (case s_NoCount_NoCount => (first | rfl | k_is))
    (case ndT => decide)


