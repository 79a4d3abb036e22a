import PyProof.Rows.All
import Wide.All
import OpenK.AllK
import Wide.FinOn
import HandS.ForMost
import HandS.Exc
import HandS.TryOnly
import HandS.WordsExc
import HandS.CallSlots
import HandS.Deep
import HandS.Wide
import HandS.Gcd
import HandS.IsInst
import HandS.TupAny
import HandS.TupMul
import HandS.Zip
import HandS.Lambda
import HandS.Walk
import KE.KeyNested
import HandS.ExcInit
import HandS.ExcField
import HandS.TupLe
import HandS.Dict
import PyProof.ReprBulk
import HandS.Zip0
import HandS.TryMany
import HandS.Small
import PyProof.ReprLen
import HandS.Rev
import HandS.ExcIs
import KE.KExcIs
import HandS.Style
import HandS.SetFor
import HandS.More
import PyProof.EqAt
import PyProof.NeKinds
import KE.GoesNew
import PyProof.Rows.IntBool
import KE.DataMinMax
import PyProof.Rows.ReprOcc
import HandS.Conv
import PyProof.P3In
import PyProof.Rows.SortShellAny
import KE.KItemsList
import HandS.Flow
import HandS.EndTab
import PyProof.EqKinds
import PyProof.Dict
import HandS.Codes
import KE.SortKeyed
import KE.KTupSum
import KE.DataAny
import KE.GoesEnumKw
import HandS.RevRange
import HandS.Strs
import KE.KDictKeyed
import PyProof.Rows.TupTab
import HandS.DictComp
import HandS.HotCalls
import HandS.FStr
import HandS.Text
import PySem.Challenge.RW_wirebeats_k11_texts_of_flows
set_option Elab.async false
set_option linter.all false
set_option maxRecDepth 100000
set_option maxHeartbeats 4000000
/-! Wb, part 0: defs that are called where no repr is under way (FnG), their rule, their call, the law's head. -/
namespace Wb
open PySem PySem.Spec PyProof.Rows L2
/-- a def's promise, where no guard is under way -/
structure FnG (P : Program) (w : World) (K : PySem.W.Frag) (mg : Str → Option Value) (base : Heap) (k : Nat) (f : Addr) (fd : FuncData) (ps : List Str) (sp : Sp) : Prop where
  len : ∀ vs H Q E, sp vs H Q E → vs.length = ps.length
  go : ∀ (A : Around) (outer : List Env) (s : Shared) (H : Hp) (args : Args) (us : List Value) (vs : List V) (Q : VK) (E : XK),
    Room k A → A.guards = some [] → Env0 P w K mg base A outer s H →
    BindsTo s fd args (ps.zip us) → Vals vs us → sp vs H Q E →
    codeAny (model P w) A (.call (.ref f) args) (CR (L2.CX P w) outer P w H s Q E) s
section
variable {P : Program} {w : World} {K : PySem.W.Frag} {mg : Str → Option Value} {base : Heap}
theorem FnG.mono {j k : Nat} {f : Addr} {fd : FuncData} {ps : List Str} {sp : Sp} (F : FnG P w K mg base j f fd ps sp) (h : j ≤ k) :
    FnG P w K mg base k f fd ps sp :=
  ⟨F.len, fun A o s H a us vs Q E hr hg => F.go A o s H a us vs Q E (hr.mono h) hg⟩
theorem FnG.imp {k : Nat} {f : Addr} {fd : FuncData} {ps : List Str} {sp sp' : Sp} (F : FnG P w K mg base k f fd ps sp)
    (h : ∀ vs H Q E, sp' vs H Q E → sp vs H Q E) : FnG P w K mg base k f fd ps sp' :=
  ⟨fun vs H Q E q => F.len vs H Q E (h _ _ _ _ q), fun A o s H a us vs Q E hr hg he hb hv hs => F.go A o s H a us vs Q E hr hg he hb hv (h _ _ _ _ hs)⟩
/-- the context of a def's body -/
abbrev bodyX (P : Program) (w : World) (K : PySem.W.Frag) (mg : Str → Option Value) (base : Heap) (N : List Str) (qual : Str) (st : Stmt) (f : Addr) (cdv : Value) (A : Around) (outer : List Env) (s : Shared) (H : Hp) (E : XK) : Cx :=
  cxOf (L2.CX P w) P w K mg base N qual (defScope st) f cdv A outer s H E
/-- the rule of a def -/
theorem FnG.ofE {x qual : Str} {st : Stmt} {f : Addr} {fd : FuncData} {N ps : List Str} {k : Nat} {sp : Sp} (F : Fun K x qual st f fd) (S : FnScope N ps (defScope st))
    (len : ∀ vs H Q E, sp vs H Q E → vs.length = ps.length)
    (hbody : ∀ (cdv : Value) (A : Around) (outer : List Env) (s : Shared) (H : Hp) (vs : List V) (Q : VK) (E : XK), fd.code = cdv →
      Room k (A.deeper (envOfC qual (defScope st) s.heap.objs.size f cdv)) → A.guards = some [] → sp vs H Q E →
      ∃ t, PSs (bodyX P w K mg base N qual st f cdv A outer s H E) (defBody st) t ∧ t { nx := fun _ H' => Q .non H', rt := Q } (start N vs) H) :
    FnG P w K mg base (k + 1) f fd ps sp := by
  obtain ⟨oc, od, kV, doc, pm, an, cdv, ct, osl, rfl, lk, hcd⟩ := F.ex
  constructor
  · exact len
  intro A outer s H args us vs Q E room noG e0 hbind rvs hsp
  have lenV := len vs H Q E hsp
  have hK : K.In s.heap := e0.mod.kin.keeps (fun b o z => (e0.bs b o z).1)
  have noLim : s.heap.NoLimit := e0.mod.nolimit.keeps (fun b o z => (e0.bs b o z).1)
  have kinds : ∀ y ∈ ps.zip us, (defScope st).names.lookup y.1 = some .local ∨
      ((defScope st).names.lookup y.1 = some .cell ∧ ((cellsFrom (s.heap.objs.size + 1) (defScope st).names []).lookup y.1).isSome = true) := by
    rintro ⟨n, v⟩ hy
    have hn := (List.of_mem_zip hy).1
    cases S.par n hn with
    | inl q => exact Or.inl q
    | inr q => exact Or.inr ⟨q, PySem.W.cellsFrom_some _ _ _ (Or.inl q)⟩
  apply codeAny_call_function room.depth (hK _ _ lk) rfl S.co S.gen rfl (PySem.W.codeRec_of hK hcd)
  apply hbind
  apply wpAny_newFunctionEnv_cells S.kind kinds
  intro env henv s1 born
  subst henv
  refine ⟨noLim.keeps born.toInCall.keep, codeAny_func ?_⟩
  obtain ⟨t, ht, hq⟩ := hbody cdv A outer s H vs Q E rfl (room.deeper _) noG hsp
  have I0 := inv_start (CX := L2.CX P w) (K := K) (E := E) S room.hd e0 lenV rvs born
  have done := ht.run [] s1 (start N vs) H _ I0 hq
  refine wpAny_mono done (fun fl s' res => ?_) (fun e s' res => res)
  cases fl with
  | next =>
    obtain ⟨σ', H', J, q⟩ := res
    exact ⟨V.non, H', J.os, J.bare, J.base, J.hok, rfl, q⟩
  | ret u =>
    obtain ⟨v, σ', H', J, rv, q⟩ := res
    exact ⟨v, H', J.os, J.bare, J.base, J.hok, rv, q⟩
  | brk => exact res.elim fun _ z => z.elim fun _ z => z.2.elim
  | cont => exact res.elim fun _ z => z.elim fun _ z => z.2.elim
theorem FnG.of {x qual : Str} {st : Stmt} {f : Addr} {fd : FuncData} {N ps : List Str} {k : Nat} {sp : Sp} (F : Fun K x qual st f fd) (S : FnScope N ps (defScope st))
    (len : ∀ vs H Q E, sp vs H Q E → vs.length = ps.length)
    (hbody : ∀ (cdv : Value) (A : Around) (outer : List Env) (s : Shared) (H : Hp) (vs : List V) (Q : VK) (E : XK),
      Room k (A.deeper (envOfC qual (defScope st) s.heap.objs.size f cdv)) → A.guards = some [] → sp vs H Q E →
      ∃ t, PSs (bodyX P w K mg base N qual st f cdv A outer s H E) (defBody st) t ∧ t { nx := fun _ H' => Q .non H', rt := Q } (start N vs) H) :
    FnG P w K mg base (k + 1) f fd ps sp :=
  FnG.ofE F S len fun cdv A outer s H vs Q E _ hr hg h => hbody cdv A outer s H vs Q E hr hg h
end
/-! ### its call -/
section
variable {X : Cx} {k : Nat} {f : Addr} {fd : FuncData} {ps : List Str} {sp : Sp} {dvs : List V} {ds : List Value} {W : WX} {x : Str} {p pos : Pos} {e : Expr} {es : List Expr} {t : TA}
/-- f(..): what leaves it is wished for at the caller's slots -/
def tCallW (sp : Sp) (dvs : List V) (W : WX) (t : TA) : TE := fun σ H Q => t σ H fun vs H1 => sp (vs ++ dvs) H1 Q (fun c d H' => W c d σ H')
theorem runG {pins : List (Addr × Obj)} {σ : L2.St} {H : Hp} {s : Shared} {Q : VK} {us : List Value} {vs : List V}
    (F : FnG X.prog X.w X.K X.mg X.base k f fd ps sp) (hr : Room k X.A) (hg : X.A.guards = some []) (hb : Binds X.K fd ps ds) (hd : Vals dvs ds) (tk : Takes X W)
    (I : Inv X pins σ H s) (r : Vals vs us) (h : sp (vs ++ dvs) H Q (fun c d H' => W c d σ H')) :
    wpAny (model X.prog X.w) X.A (call (.ref f) us) (EP X pins σ Q) X.xe s := by
  have rr : Vals (vs ++ dvs) (us ++ ds) := Vals.append r hd
  have lenA : (us ++ ds).length = ps.length := by
    rw [← rr.length]
    exact F.len _ _ _ _ h
  have bt := hb s us I.kIn lenA
  have ran := F.go X.A X.stack s H ⟨us, []⟩ (us ++ ds) (vs ++ dvs) Q _ hr hg I.env0 bt rr h
  refine wpAny_call (codeAny_mono ran fun res s' hres => ?_)
  match res, hres with
  | .ok (.ret u), z => exact I.after z
  | .ok .next, z => exact z.elim
  | .ok .brk, z => exact z.elim
  | .ok .cont, z => exact z.elim
  | .error e, z => exact tk e s' (XE.of_call I (fun c d H' q => q) z)
theorem pe_callG (F : FnG X.prog X.w X.K X.mg X.base k f fd ps sp) (hr : Room k X.A) (hgu : X.A.guards = some []) (hg : Gl X x) (hm : X.mg x = some (.ref f)) (hk : PySem.W.keepIn X.K (.ref f) = true)
    (hb : Binds X.K fd ps ds) (hd : Vals dvs ds) (tk : Takes X W) (ha : PA X (e :: es) t) (hdb : (x == ("__debug__" : Str)) = false := by decide)
    (he : starEach (e :: es) X.env = (false, eval e X.env) :: starEach es X.env := by rfl) (hpl : (backTo pos (starEach es X.env)).any (·.1) = false := by rfl) :
    PE X (.Call (.Name x p) (e :: es) [] pos) (tCallW sp dvs W t) := by
  constructor
  intro pins s σ H Q I h
  apply wpAny_Call_Name_kw
  apply ld_glob I hg hm _ hdb
  apply PySem.W.callWith_K (h₀ := X.base) I.ok.mod.kin hk _ he hpl
  refine thn (ha.run pos pins s σ H _ I h) ?_
  rintro us s1 ⟨vs, H1, I1, r, q⟩
  exact ⟨I1.kIn, runG F hr hgu hb hd tk I1 r q⟩
theorem pe_callG0 (F : FnG X.prog X.w X.K X.mg X.base k f fd ps sp) (hr : Room k X.A) (hgu : X.A.guards = some []) (hg : Gl X x) (hm : X.mg x = some (.ref f)) (hk : PySem.W.keepIn X.K (.ref f) = true)
    (hb : Binds X.K fd ps ds) (hd : Vals dvs ds) (tk : Takes X W) (hdb : (x == ("__debug__" : Str)) = false := by decide) :
    PE X (.Call (.Name x p) [] [] pos) (tCallW sp dvs W tNil) := by
  constructor
  intro pins s σ H Q I h
  apply wpAny_Call_Name_kw
  apply ld_glob I hg hm _ hdb
  exact PySem.W.callWith_K0 I.kIn hk (runG (us := []) F hr hgu hb hd tk I .nil h)
end
/-! ### the law's head -/
/-- what is tracked at the law's entry: the script alone, or nothing where it is the module's own -/
def entryH (K : PySem.W.Frag) (a : Addr) (o : Obj) (ns : List Int) : Hp := fun b =>
  if b = a ∧ K.lookup a = none then some (.frz o (.lst (ns.map V.int))) else none
theorem law_callG {P : Program} {w : World} {K : PySem.W.Frag} {mg mb : Str → Option Value} {k : Nat} {fa a : Addr} {fd : FuncData} {x : Str} {sp : Sp} {s₁ : Shared} {vs : List Value} {ns : List Int}
    (KX : K.In s₁.heap) (hns : s₁.heap.Ns mainGlobals mg) (hb : s₁.heap.Ns builtinsNs mb) (hbb : ∀ x : Str, x ≠ "__name__" → mb x = bootBuiltins x) (hlim : s₁.heap.NoLimit) (hg : s₁.gens = #[])
    (ha : s₁.heap.get? a = some { cls := .type "list", data := .seq vs.toArray }) (hi : IntsAre vs ns) (hl : ns.length ≤ sizeLine) (hr : Room k callerA)
    (F : ∀ base : Heap, K.In base → base.Ns mainGlobals mg → FnG P w K mg base k fa fd [x] sp) (hbind : ∀ (s : Shared) (u : Value), BindsTo s fd ⟨[u], []⟩ [(x, u)])
    (hsp : ∀ H : Hp, Only H → SqL K H a (ns.map V.int) → sp [.ref a] H (fun v _ => v = .bl true) fun _ _ _ => False) :
    codeAny (model P w) callerA (.call (.ref fa) ⟨[.ref a], []⟩)
      (fun r s' => r = .ok (.ret (.bool true)) ∧ OldK s₁.heap s'.heap ∧ s'.os = s₁.os ∧ AllBare s'.gens) s₁ := by
  have rv : Vals (ns.map V.int) vs := vals_ints hi
  have sz := hi.length
  obtain ⟨oS, hoS⟩ : ∃ o : Obj, o = { cls := .type "list", data := .seq vs.toArray } := ⟨_, rfl⟩
  rw [← hoS] at ha
  obtain ⟨H, hH⟩ : ∃ H : Hp, H = entryH K a oS ns := ⟨_, rfl⟩
  have atH : ∀ b u, H b = some u → b = a ∧ K.lookup a = none ∧ u = .frz oS (.lst (ns.map V.int)) := by
    intro b u z
    rw [hH] at z
    unfold entryH at z
    split at z
    · next c => exact ⟨c.1, c.2, (Option.some.inj z).symm⟩
    · cases z
  have only : Only H := by
    intro b
    cases q : H b with
    | none => exact Or.inl rfl
    | some u =>
      obtain ⟨_, _, e⟩ := atH b u q
      exact Or.inr ⟨_, _, by rw [e]⟩
  have hok : HOk P w H s₁.heap := by
    intro b u z
    obtain ⟨eb, _, eu⟩ := atH b u z
    subst eb
    subst eu
    refine ⟨ha, ?_, vs, 0, rv, ?_⟩
    · rw [List.length_map]
      exact hl
    · rw [ha, hoS]
  have seq : SqL K H a (ns.map V.int) := by
    cases hk : K.lookup a with
    | none =>
      refine Or.inl (Or.inr ⟨oS, ?_⟩)
      rw [hH]
      exact if_pos ⟨rfl, hk⟩
    | some o =>
      have e := KX a o hk
      rw [ha] at e
      cases e
      refine Or.inr ⟨_, vs.toArray, 0, hk, by rw [hoS], by rw [hoS], by rw [hoS], ?_, by simpa using rv⟩
      rw [List.size_toArray, sz]
      exact hl
  have keepB : ∀ {b : Addr} {o : Obj}, s₁.heap.get? b = some o → H b = none → (hidT s₁.heap H).get? b = some o := fun z n => hidT_get z n
  have dictFree : ∀ {b : Addr} {o : Obj} {es : Array DictEntry} {ep : Nat}, s₁.heap.get? b = some o → o.data = .dict es ep → H b = none := by
    intro b o es ep z d
    cases q : H b with
    | none => rfl
    | some u =>
      obtain ⟨eb, _, _⟩ := atH b u q
      subst eb
      rw [ha] at z
      cases z
      rw [hoS] at d
      cases d
  have nsB : ∀ {b : Addr} {m : Str → Option Value}, s₁.heap.Ns b m → (hidT s₁.heap H).Ns b m := by
    rintro b m ⟨o, es, ep, z, d, r⟩
    exact ⟨o, es, ep, keepB z (dictFree z d), d, r⟩
  have kinB : K.In (hidT s₁.heap H) := by
    intro b o z
    refine keepB (KX b o z) ?_
    cases q : H b with
    | none => rfl
    | some u =>
      obtain ⟨eb, hk, _⟩ := atH b u q
      subst eb
      rw [hk] at z
      cases z
  obtain ⟨mc, lim1, lim2⟩ := hlim
  have md : Mod K mg (hidT s₁.heap H) := ⟨kinB, nsB hns, ⟨mb, nsB hb, hbb⟩, ⟨mc, nsB lim1, lim2⟩⟩
  have e0 : Env0 P w K mg (hidT s₁.heap H) callerA [] s₁ H :=
    { frames := rfl, mod := md, bs := fun b o z => of_hidT z, bsz := Nat.le_of_eq (hidT_size _ _), funs := trivial,
      frf := (fun b z => absurd (show b ∈ ([] : List Addr) from z) (by simp)), hok := hok, bare := AllBare.of_eq hg }
  have run := (F _ kinB (nsB hns)).go callerA [] s₁ H ⟨[.ref a], []⟩ [.ref a] [.ref a] _ _ hr rfl e0 (hbind s₁ (.ref a)) (.cons rfl .nil) (hsp H only seq)
  refine codeAny_mono run fun r s' h => ?_
  match r, h with
  | .error e, z => obtain ⟨_, _, _, _, _, _, _, _, _, _, _, _, q⟩ := z; exact q.elim
  | .ok .next, z => exact z.elim
  | .ok .brk, z => exact z.elim
  | .ok .cont, z => exact z.elim
  | .ok (.ret u), z =>
    obtain ⟨v, H', os, bare, un, hok', rvu, q⟩ := z
    have ev : v = .bl true := q
    subst ev
    have eu : u = Value.bool true := rvu
    subst eu
    refine ⟨rfl, OldK.of_keep (fun b o zb => ?_), os, bare⟩
    cases qb : H b with
    | none => exact un.keep b o zb qb (by simp [frs]) (by simp)
    | some u =>
      obtain ⟨eb, _, eu⟩ := atH b u qb
      subst eb
      subst eu
      obtain ⟨e1, _⟩ := hok _ _ qb
      obtain ⟨e2, _⟩ := hok' _ _ (un.frzs _ _ _ qb)
      rw [zb] at e1
      cases e1
      exact e2
/-- what k_head leaves, from the law's promise -/
theorem walkG {l : PySem.W.OpenLaw} {n k : Nat} {q : Program} {loose : List Str} {XP : (Str → Option Value) → Heap → Prop} {YP : World → Heap → Prop} {d : DefRec} {K : Params → PySem.W.Frag} {sp : World → Sp} {x : Str}
    (hn : l.most = some n) (hn2 : n ≤ sizeLine) (hdf : d.params.defaults = []) (hr : Room k callerA)
    (hY : ∀ (w : World) (h : Heap), YP w h → (K w.params).In h)
    (F : ∀ (w : World) (mg : Str → Option Value) (fa : Addr) (h : Heap), (K w.params).In h → h.Ns mainGlobals mg → mg d.name = some (.ref fa) →
      ∃ fd : FuncData, (∀ (s : Shared) (u : Value), BindsTo s fd ⟨[u], []⟩ [(x, u)]) ∧
        ∀ base : Heap, (K w.params).In base → base.Ns mainGlobals mg → FnG l.prog w (K w.params) mg base k fa fd [x] (sp w))
    (hsp : ∀ (w : World) (H : Hp) (a : Addr) (ns : List Int), ns.length ≤ n → Only H → SqL (K w.params) H a (ns.map V.int) → sp w [.ref a] H (fun v _ => v = .bl true) fun _ _ _ => False) :
    PySem.W.WalkO q loose XP YP l.row.toRowW d [] (fun f vs => PySem.call f vs) := by
  apply Att.attach_call hn hdf
  intro w s₀ s₁ mg mb fa o pm cd doc a vs ns G Y ho hd hcd hmg hobj hints hlen hg
  have KX := hY w _ Y
  obtain ⟨fd, hb, hF⟩ := F w mg fa _ KX G.T.g hmg
  exact law_callG KX G.T.g G.T.b G.T.builtins G.T.nolimit hg hobj hints (Nat.le_trans hlen hn2) hr hF hb (fun H hO hS => hsp w H a ns hlen hO hS)
end Wb
set_option Elab.async false
set_option linter.all false
set_option maxRecDepth 100000
set_option maxHeartbeats 4000000
/-! Wb, before part 1: a tuple is made, and what lies there is told (no dict), so that its methods can be called. -/
namespace L2
open PySem PySem.Spec PyProof.Rows
section
variable {X : Cx} {pins : List (Addr × Obj)} {σ : St} {H : Hp} {s : Shared} {Q : VK} {xs : List V} {its : List Value}
theorem sqF {K : PySem.W.Frag} {a : Addr} {o : Obj} (h : H a = some (.frz o (.tup xs))) : SqT K H a xs := .inl (.inr ⟨o, h⟩)
/-- a wish for a new tuple -/
abbrev QT (Q : VK) (H : Hp) (xs : List V) : Prop := ∀ (p : Addr) (o : Obj), H p = none → o.dict = none → Q (.ref p) (upd H p (.frz o (.tup xs)))
theorem new_tup (I : Inv X pins σ H s) (r : Vals xs its) (hz : xs.length ≤ sizeLine) (q : QT Q H xs) : EP X pins σ Q (.ref s.heap.objs.size) { s with heap := s.heap.push { cls := .type "tuple", data := .seq its.toArray } } :=
  ⟨.ref s.heap.objs.size, _, I.laid (t' := s.toks) (o := .frz _ (.tup xs)) (fun b ob q => Heap.get?_push_of_some _ q) (Nat.le_refl _) ⟨Heap.get?_push_size _ rfl, hz, _, r, IsTup.new _ _⟩, rfl, q _ _ (I.hok.fresh (Nat.le_refl _)) rfl⟩
end
/-- a tuple is written -/
def tTupS (t : TA) : TE := fun σ H Q => t σ H fun xs H1 => xs.length ≤ sizeLine ∧ QT Q H1 xs
theorem pe_tupS {X : Cx} {es : List Expr} {t : TA} {x1 pos} (h : PA X es t) : PE X (.Tuple es x1 pos) (tTupS t) :=
  ⟨fun pins s σ H Q I hq => wpAny_Tuple_spliced (thn (h.run pos pins s σ H _ I hq) fun us s1 ⟨xs, H1, I1, r, z, q⟩ => ⟨by rw [← r.length]; exact z, new_tup I1 r z q⟩)⟩
/-- tuple(xs) -/
theorem call_tuple_S {X : Cx} : CallR X (.type "tuple") (fun xs H Q => ∃ p ys, xs = [.ref p] ∧ ((SqL X.K H p ys ∧ QT Q H ys) ∨ (SqT X.K H p ys ∧ Q (.ref p) H))) := by
  intro pins s σ H xs us Q I r h
  obtain ⟨p, ys, rfl, ⟨hq, q⟩ | ⟨hq, q⟩⟩ := h
  · obtain ⟨u, rfl, rx⟩ := vals1 r
    cases rx
    obtain ⟨its, r', pl, hz⟩ := I.list hq
    have hl := r'.length
    exact call_tuple_list pl.isList (fun h' kp => new_tup (I.kept (t' := s.toks) kp) r' hz q) (by simp only [List.size_toArray] <;> omega)
  · exact call_tuple_of pins s σ H _ us Q I r ⟨p, ys, rfl, .inr ⟨hq, q⟩⟩
/-- t[lo:hi] -/
def rSlST (K : PySem.W.Frag) : V → Option Int → Option Int → Hp → VK → Prop := fun x lo hi H Q => ∃ a xs, x = .ref a ∧ SqT K H a xs ∧
  (HT.sIx xs.length 0 lo = 0 ∧ HT.sIx xs.length xs.length hi = xs.length → Q (.ref a) H) ∧ (¬ (HT.sIx xs.length 0 lo = 0 ∧ HT.sIx xs.length xs.length hi = xs.length) → QT Q H (cutV xs lo hi))
theorem sl_tupS {X : Cx} : SlR X (rSlST X.K) := by
  intro pins s σ H x v vl vu lo hi sl Q I rx hs pl pu h
  obtain ⟨a, xs, rfl, hx, q1, q2⟩ := h
  cases rx
  obtain ⟨its, r, ht, hz⟩ := I.tuple hx
  have hlen : its.toArray.size = xs.length := by rw [List.size_toArray]; exact r.length.symm
  refine ⟨"tuple", _, PyProof.Rows.slot_tuple_getitem.lookup, ht.typeIs, ?_⟩
  by_cases hw : HT.sIx xs.length 0 lo = 0 ∧ HT.sIx xs.length xs.length hi = xs.length
  · exact getItem_tuple_whole ht hs pl pu (by rw [hlen]; exact hw) ⟨.ref a, H, I, rfl, q1 hw⟩
  · refine HT.getItem_tuple_cut ht hs pl pu (by rw [hlen]; exact hw) ?_ (by rw [hlen]; exact hz)
    rw [hlen]
    exact new_tup I ((r.drop (HT.sIx xs.length 0 lo)).take (HT.sIx xs.length xs.length hi - HT.sIx xs.length 0 lo)) (Nat.le_trans (cutV_length xs lo hi) hz) (q2 hw)
/-- t + u -/
def rCatST (K : PySem.W.Frag) : R2 := fun x y H Q => ∃ a b xs ys, x = .ref a ∧ y = .ref b ∧ SqT K H a xs ∧ SqT K H b ys ∧ xs.length + ys.length ≤ sizeLine ∧
  (xs = [] → Q (.ref b) H) ∧ (xs ≠ [] → ys = [] → Q (.ref a) H) ∧ (xs ≠ [] → ys ≠ [] → QT Q H (xs ++ ys))
theorem op_catS {X : Cx} : OpR X (binaryOp .Add) (rCatST X.K) := by
  intro pins s σ H x y v u Q I rx ry h
  obtain ⟨a, b, xs, ys, rfl, rfl, ha, hb, hz, q0, q1, q2⟩ := h
  cases rx
  cases ry
  obtain ⟨its, r1, p1, _⟩ := I.tuple ha
  obtain ⟨its2, r2, p2, _⟩ := I.tuple hb
  by_cases hx : xs = []
  · subst hx
    cases r1
    exact cat_tup0 p1 p2 ⟨.ref b, H, I, rfl, q0 rfl⟩
  · exact HT.cat_tup p1 p2 (fun z => hx (r1.nil_iff.mp z)) (fun z => ⟨.ref a, H, I, rfl, q1 hx (r2.nil_iff.mp z)⟩) (fun z => new_tup I (r1.append r2) (by rw [List.length_append]; exact hz) (q2 hx fun w => z (r2.nil_iff.mpr w)))
      (by rw [← r1.length, ← r2.length]; exact hz)
/-- t * k -/
def rRepST (K : PySem.W.Frag) : R2 := fun x y H Q => ∃ l k xs, x = .ref l ∧ y = .int k ∧ SqT K H l xs ∧ xs ≠ [] ∧ 2 ≤ k ∧ k ≤ 1000 ∧ xs.length ≤ 1000 ∧ QT Q H (List.replicate k.toNat xs).flatten
theorem op_repST {X : Cx} : OpR X (binaryOp .Mult) (rRepST X.K) := by
  intro pins s σ H x y v u Q I rx ry h
  obtain ⟨l, k, xs, rfl, rfl, hT, hne, h1, h2, hz, q⟩ := h
  cases rx
  obtain ⟨t, rfl⟩ := ry
  obtain ⟨its, r, ⟨⟨cls, dd, data, sl⟩, ho, hc, n, hd⟩, hs⟩ := I.tuple hT
  simp only at hc hd
  subst hc hd
  have hle : its.length = xs.length := r.length.symm
  have hi : its.toArray.isEmpty = false := by
    cases r with
    | nil => exact absurd rfl hne
    | cons _ _ => rfl
  have hsz : its.toArray.size = xs.length := by rw [List.size_toArray, hle]
  have big : ((its.toArray.size : Nat) : Int) * k ≤ 1000000 := by
    rw [hsz]
    have a1 : ((xs.length : Nat) : Int) * k ≤ 1000 * k := Int.mul_le_mul_of_nonneg_right (by omega) (by omega)
    omega
  have a1 : k.toNat * xs.length ≤ 1000 * 1000 := Nat.mul_le_mul (by omega) hz
  have fl : (List.replicate k.toNat its).flatten.length ≤ sizeLine := by
    rw [PyProof.Rows.lm_len_rep_flat, hle, sizeLine_eq]
    omega
  have c0 : (decide (k < -(2 ^ 63)) || decide (k ≥ 2 ^ 63)) = false := by
    rw [decide_eq_false (by omega), decide_eq_false (by omega)] <;> rfl
  have c1 : (its.toArray.isEmpty || k == 1) = false := by
    rw [hi, Bool.false_or]
    exact beq_eq_false_iff_ne.mpr (by omega)
  have c2 : (decide (k ≤ 0) || its.toArray.isEmpty) = false := by
    rw [hi, Bool.or_false]
    exact decide_eq_false (by omega)
  have c4 : Builtin.Tuple.tupleTooMany (((its.toArray.size : Nat) : Int) * k) = false := by
    unfold Builtin.Tuple.tupleTooMany
    rw [sizeLine_eq]
    exact decide_eq_false (by omega)
  refine wpAny_binaryOp_repeat_ref (T := "tuple") (U := "int") (by decide) ⟨_, ho, rfl⟩ (fun s' => typeIs_int s' k t) noFill_tuple_mul F.fills_int_mul F.slot_int_rmul repeat_tuple F.slot_int_index.lookup
    (call_meets F.slot_int_rmul (typeIs_int s k t) F.entry_int_rmul (F.args_int_rmul_2 _ _) (int_rmul_tuple k t l its.toArray n dd sl)
      ⟨ho, rfl, ⟨_, ho, rfl⟩, call_meets F.slot_tuple_mul ⟨_, ho, rfl⟩ F.entry_tuple_mul (F.args_tuple_mul_2 _ _) (tuple_mulW l its.toArray n dd sl k t c0 c1 c2 (by omega) c4 (by rw [size_rep, List.size_toArray]; exact fl)) ⟨ho, ?_⟩⟩)
  rw [size_rep]
  exact new_tup I (r.rep k.toNat) (by rw [PyProof.Rows.lm_len_rep_flat, sizeLine_eq]; omega) q
end L2
set_option Elab.async false
set_option linter.all false
set_option maxRecDepth 100000
set_option maxHeartbeats 4000000
/-! Wb, part 1: data, the tree of what a program does, what stands for what. -/
namespace Wb
open PySem PySem.Spec PyProof.Rows L2
abbrev D := PyData
/-! ### values that stand for data -/
def keyD : Key → D
  | .inl i => .int i
  | .inr x => .str x
mutual
inductive Has (H : Hp) : V → D → Prop
  | non : Has H .non .none
  | bl (b : Bool) : Has H (.bl b) (.bool b)
  | int (i : Int) : Has H (.int i) (.int i)
  | str (x : Str) : Has H (.str x) (.str x)
  | lst {a : Addr} {xs : List V} {ds : List D} : H a = some (.lst xs) → HasL H xs ds → Has H (.ref a) (.list ds)
  | tup {a : Addr} {o : Obj} {xs : List V} {ds : List D} : H a = some (.frz o (.tup xs)) → o.dict = none → HasL H xs ds → Has H (.ref a) (.tuple ds)
  | dct {a : Addr} {kvs : List (Key × V)} {ds : List (D × D)} : H a = some (.dK kvs) → HasK H kvs ds → Has H (.ref a) (.dict ds)
inductive HasL (H : Hp) : List V → List D → Prop
  | nil : HasL H [] []
  | cons {v : V} {vs : List V} {d : D} {ds : List D} : Has H v d → HasL H vs ds → HasL H (v :: vs) (d :: ds)
inductive HasK (H : Hp) : List (Key × V) → List (D × D) → Prop
  | nil : HasK H [] []
  | cons {k : Key} {v : V} {vs : List (Key × V)} {d : D} {ds : List (D × D)} : Has H v d → HasK H vs ds → HasK H ((k, v) :: vs) ((keyD k, d) :: ds)
end
mutual
theorem Has.mono {H H' : Hp} (e : Same H H') : ∀ {v : V} {d : D}, Has H v d → Has H' v d
  | _, _, .non => .non
  | _, _, .bl b => .bl b
  | _, _, .int i => .int i
  | _, _, .str x => .str x
  | _, _, .lst h r => .lst (e _ _ h) (HasL.mono e r)
  | _, _, .tup h hd r => .tup (e _ _ h) hd (HasL.mono e r)
  | _, _, .dct h r => .dct (e _ _ h) (HasK.mono e r)
theorem HasL.mono {H H' : Hp} (e : Same H H') : ∀ {v : List V} {d : List D}, HasL H v d → HasL H' v d
  | _, _, .nil => .nil
  | _, _, .cons h r => .cons (Has.mono e h) (HasL.mono e r)
theorem HasK.mono {H H' : Hp} (e : Same H H') : ∀ {v : List (Key × V)} {d : List (D × D)}, HasK H v d → HasK H' v d
  | _, _, .nil => .nil
  | _, _, .cons h r => .cons (Has.mono e h) (HasK.mono e r)
end
theorem HasL.length {H : Hp} : ∀ {vs : List V} {ds : List D}, HasL H vs ds → vs.length = ds.length
  | _, _, .nil => rfl
  | _, _, .cons _ r => by simp [HasL.length r]
theorem HasL.get {H : Hp} : ∀ {vs : List V} {ds : List D} {i : Nat} {v : V}, HasL H vs ds → vs[i]? = some v → ∃ d, ds[i]? = some d ∧ Has H v d
  | _, _, _, _, .nil, h => by simp at h
  | _, _, 0, _, .cons h _, e => by
    have e' := Option.some.inj e
    subst e'
    exact ⟨_, rfl, h⟩
  | _, _, i + 1, _, .cons _ r, e => by
    obtain ⟨d, h1, h2⟩ := HasL.get (i := i) r (by simpa using e)
    exact ⟨d, by simpa using h1, h2⟩
theorem HasL.getD {H : Hp} : ∀ {vs : List V} {ds : List D} {i : Nat} {d : D}, HasL H vs ds → ds[i]? = some d → ∃ v, vs[i]? = some v ∧ Has H v d
  | _, _, _, _, .nil, h => by simp at h
  | _, _, 0, _, .cons h _, e => by
    have e' := Option.some.inj e
    subst e'
    exact ⟨_, rfl, h⟩
  | _, _, i + 1, _, .cons _ r, e => by
    obtain ⟨d, h1, h2⟩ := HasL.getD (i := i) r (by simpa using e)
    exact ⟨d, by simpa using h1, h2⟩
theorem HasL.append {H : Hp} : ∀ {vs ws : List V} {ds es : List D}, HasL H vs ds → HasL H ws es → HasL H (vs ++ ws) (ds ++ es)
  | _, _, _, _, .nil, q => q
  | _, _, _, _, .cons h r, q => .cons h (HasL.append r q)
theorem HasL.take {H : Hp} : ∀ {vs : List V} {ds : List D} (n : Nat), HasL H vs ds → HasL H (vs.take n) (ds.take n)
  | _, _, 0, _ => .nil
  | _, _, _ + 1, .nil => .nil
  | _, _, n + 1, .cons h r => .cons h (HasL.take n r)
theorem HasL.drop {H : Hp} : ∀ {vs : List V} {ds : List D} (n : Nat), HasL H vs ds → HasL H (vs.drop n) (ds.drop n)
  | _, _, 0, r => r
  | _, _, _ + 1, .nil => .nil
  | _, _, n + 1, .cons _ r => HasL.drop n r
theorem HasL.set {H : Hp} {v : V} {d : D} (q : Has H v d) : ∀ {vs : List V} {ds : List D} (i : Nat), HasL H vs ds → HasL H (vs.set i v) (ds.set i d)
  | _, _, _, .nil => .nil
  | _, _, 0, .cons _ r => .cons q r
  | _, _, i + 1, .cons h r => .cons h (HasL.set q i r)
/-! ### what a program does: results, draws, errors -/
/-- an error: the name of its class, its fields -/
structure Exn where
  cls : Str
  fs : List (Str × D)
inductive T (α : Type) where
  | ret (a : α)
  | draw (m : Int) (k : Int → T α)
  | exc (x : Exn)
  | bad
def T.bind {α β : Type} : T α → (α → T β) → T β
  | .ret a, f => f a
  | .draw m k, f => .draw m fun i => (k i).bind f
  | .exc x, _ => .exc x
  | .bad, _ => .bad
def T.wp {α : Type} : T α → (α → Prop) → (Exn → Prop) → Prop
  | .ret a, P, _ => P a
  | .draw m k, P, E => 0 < m ∧ m < 10000000000000000000000000000000000000000 ∧ ∀ i, 0 ≤ i → i < m → (k i).wp P E
  | .exc x, _, E => E x
  | .bad, _, _ => False
theorem T.wp_bind {α β : Type} {P : β → Prop} {E : Exn → Prop} : ∀ (t : T α) (f : α → T β), (t.bind f).wp P E ↔ t.wp (fun a => (f a).wp P E) E
  | .ret _, _ => Iff.rfl
  | .draw _ k, f => ⟨fun h => ⟨h.1, h.2.1, fun i a b => (T.wp_bind (k i) f).mp (h.2.2 i a b)⟩, fun h => ⟨h.1, h.2.1, fun i a b => (T.wp_bind (k i) f).mpr (h.2.2 i a b)⟩⟩
  | .exc _, _ => Iff.rfl
  | .bad, _ => Iff.rfl
theorem T.wp_mono {α : Type} {P P' : α → Prop} {E E' : Exn → Prop} (hp : ∀ a, P a → P' a) (he : ∀ x, E x → E' x) : ∀ (t : T α), t.wp P E → t.wp P' E'
  | .ret _, h => hp _ h
  | .draw _ k, h => ⟨h.1, h.2.1, fun i a b => T.wp_mono hp he (k i) (h.2.2 i a b)⟩
  | .exc _, h => he _ h
  | .bad, h => h
@[simp] theorem T.ret_bind {α β : Type} (a : α) (f : α → T β) : (T.ret a).bind f = f a := rfl
@[simp] theorem T.exc_bind {α β : Type} (x : Exn) (f : α → T β) : (T.exc x : T α).bind f = .exc x := rfl
@[simp] theorem T.bad_bind {α β : Type} (f : α → T β) : (T.bad : T α).bind f = .bad := rfl
@[simp] theorem T.draw_bind {α β : Type} (m : Int) (k : Int → T α) (f : α → T β) : (T.draw m k).bind f = .draw m fun i => (k i).bind f := rfl
theorem T.bind_assoc {α β γ : Type} (f : α → T β) (g : β → T γ) : ∀ (t : T α), (t.bind f).bind g = t.bind fun a => (f a).bind g
  | .ret _ => rfl
  | .draw _ k => by
    show T.draw _ _ = T.draw _ _
    congr 1
    funext i
    exact T.bind_assoc f g (k i)
  | .exc _ => rfl
  | .bad => rfl
@[simp] theorem T.bind_ret {α : Type} : ∀ (t : T α), t.bind T.ret = t
  | .ret _ => rfl
  | .draw _ k => by
    show T.draw _ _ = T.draw _ _
    congr 1
    funext i
    exact T.bind_ret (k i)
  | .exc _ => rfl
  | .bad => rfl
/-- it is no code object -/
def NoC (u : HO) : Prop := ∀ c q, u ≠ LamX.CodeO c q
theorem ncLst {xs : List V} : NoC (.lst xs) := fun c q z => by
  unfold LamX.CodeO at z
  cases z
theorem ncDK {xs : List (Key × V)} : NoC (.dK xs) := fun c q z => by
  unfold LamX.CodeO at z
  cases z
theorem ncS {H : Hp} {p : Addr} {u : HO} (h : H p = some u) (n : NoC u) : ∀ c q, H p ≠ some (LamX.CodeO c q) := fun c q z => by
  rw [h] at z
  exact n c q (Option.some.inj z)
/-! ### the source of the draws -/
structure Box where
  v : V
  tabs : List (Addr × Str)
  S : Addr → Prop
  ok : Hp → Prop
  here : ∀ H a, ok H → S a → ∃ o, H a = some o
  stay : ∀ H H', ok H → (∀ a o, (S a ∨ ∃ c q, o = LamX.CodeO c q) → H a = some o → H' a = some o) → ok H'
/-- a list of three numbers -/
def springOk (p : Addr) (H : Hp) : Prop := ∃ x y z : Int, H p = some (.lst [.int x, .int y, .int z]) ∧ 0 ≤ x ∧ 0 ≤ y ∧ y < 2305843009213693951 ∧ 0 ≤ z
def springBox (p : Addr) : Box := ⟨.ref p, [], fun a => a = p, springOk p, fun H a ⟨_, _, _, h, _⟩ e => ⟨_, (congrArg H e).trans h⟩, fun H H' ⟨x, y, z, h, r⟩ k => ⟨x, y, z, k p _ (.inl rfl) h, r⟩⟩
/-- a dict of two lists and a number -/
def dictOk (b gr sm : Addr) (H : Hp) : Prop := ∃ (gs ss : List Int) (t : Int), H b = some (.dK [(.inr "great", .ref gr), (.inr "small", .ref sm), (.inr "turn", .int t)]) ∧ H gr = some (.lst (gs.map V.int)) ∧ H sm = some (.lst (ss.map V.int)) ∧
  (∀ x ∈ gs, 0 ≤ x) ∧ (∀ x ∈ ss, 0 ≤ x ∧ x < 1000000000000000000) ∧ ss ≠ [] ∧ 0 ≤ t ∧ gs.length ≤ 64 ∧ ss.length ≤ 64 ∧ gr ≠ sm
def dictBox (b gr sm : Addr) : Box := ⟨.ref b, [], fun a => a = b ∨ a = gr ∨ a = sm, dictOk b gr sm, fun H a ⟨_, _, _, h1, h2, h3, _⟩ e => by
    rcases e with e | e | e
    · exact ⟨_, (congrArg H e).trans h1⟩
    · exact ⟨_, (congrArg H e).trans h2⟩
    · exact ⟨_, (congrArg H e).trans h3⟩, fun H H' ⟨gs, ss, t, h1, h2, h3, r⟩ k => ⟨gs, ss, t, k b _ (.inl (.inl rfl)) h1, k gr _ (.inl (.inr (.inl rfl))) h2, k sm _ (.inl (.inr (.inr rfl))) h3, r⟩⟩
/-- a list of a list of numbers and of two numbers -/
def millOk (p g : Addr) (H : Hp) : Prop := ∃ (gs : List Int) (y z : Int), H p = some (.lst [.ref g, .int y, .int z]) ∧ H g = some (.lst (gs.map V.int)) ∧ (∀ x ∈ gs, 0 ≤ x) ∧ 0 ≤ y ∧ y < 2147483563 ∧ 0 ≤ z ∧ gs.length ≤ 64 ∧ p ≠ g
def millBox (p g : Addr) : Box := ⟨.ref p, [], fun a => a = p ∨ a = g, millOk p g, fun H a ⟨_, _, _, h1, h2, _⟩ e => by
    rcases e with e | e
    · exact ⟨_, (congrArg H e).trans h1⟩
    · exact ⟨_, (congrArg H e).trans h2⟩, fun H H' ⟨gs, y, z, h1, h2, r⟩ k => ⟨gs, y, z, k p _ (.inl (.inl rfl)) h1, k g _ (.inl (.inr rfl)) h2, r⟩⟩
/-- beside it the tables of code objects -/
def tabBox (β : Box) (T : List (Addr × Str)) : Box := ⟨β.v, T, fun a => β.S a ∨ ∃ p ∈ T, a = p.1, fun H => β.ok H ∧ LamX.Tabs T H, fun H a h e => by
    rcases e with e | ⟨p, hp, rfl⟩
    · exact β.here H a h.1 e
    · obtain ⟨ps, e, _⟩ := h.2 p hp
      exact ⟨_, e⟩, fun H H' h k => ⟨β.stay H H' h.1 fun a o e => k a o (e.imp .inl id), fun p hp => by
    obtain ⟨ps, e1, e2, e3⟩ := h.2 p hp
    refine ⟨ps, k _ _ (.inl (.inr ⟨p, hp, rfl⟩)) e1, e2, fun pos cv hc => ?_⟩
    obtain ⟨c, z1, z2⟩ := e3 pos cv hc
    exact ⟨c, z1, k _ _ (.inr ⟨_, _, rfl⟩) z2⟩⟩⟩
/-- the value that the box is handed on by -/
def boxIs : Bool → Box → V → Prop
  | false, β, v => ∃ p T, β = tabBox (springBox p) T ∧ v = .ref p
  | true, β, v => ∃ b gr sm T, β = tabBox (dictBox b gr sm) T ∧ v = .ref b
def milIs (β : Box) (v : V) : Prop := ∃ p g T, β = tabBox (millBox p g) T ∧ v = .ref p
/-- the known heap grows, what is private stays so, only the box's own may change -/
structure Stp (β : Box) (H0 H H0' H' : Hp) : Prop where
  grow : Same H0 H0'
  ext : Same H0' H'
  ok : β.ok H'
  boxf : ∀ a, β.S a → H0' a = none
  priv : ∀ p o, H p = some o → H0 p = none → H0' p = none ∧ (¬ β.S p → H' p = some o)
theorem Stp.refl {β : Box} {H0 H : Hp} (e : Same H0 H) (ok : β.ok H) (bf : ∀ a, β.S a → H0 a = none) : Stp β H0 H H0 H :=
  ⟨fun _ _ h => h, e, ok, bf, fun _ _ h n => ⟨n, fun _ => h⟩⟩
theorem Stp.trans {β : Box} {H0 H H0' H' H0'' H'' : Hp} (a : Stp β H0 H H0' H') (b : Stp β H0' H' H0'' H'') : Stp β H0 H H0'' H'' := by
  refine ⟨fun p o h => b.grow p o (a.grow p o h), b.ext, b.ok, b.boxf, fun p o h n => ?_⟩
  obtain ⟨n1, k1⟩ := a.priv p o h n
  by_cases hs : β.S p
  · exact ⟨b.boxf p hs, fun z => absurd hs z⟩
  · obtain ⟨n2, k2⟩ := b.priv p o (k1 hs) n1
    exact ⟨n2, fun _ => k2 hs⟩
/-- a new object, known from now on -/
theorem Stp.new {β : Box} {H0 H : Hp} {p : Addr} {o : HO} (e : Same H0 H) (ok : β.ok H) (bf : ∀ a, β.S a → H0 a = none) (hp : H p = none) : Stp β H0 H (upd H0 p o) (upd H p o) := by
  have hp0 : H0 p = none := e.free hp
  have nS : ¬ β.S p := fun z => by
    obtain ⟨u, q⟩ := β.here H p ok z
    rw [hp] at q
    cases q
  refine ⟨fun b u h => ?_, fun b u h => ?_, β.stay H _ ok (fun a u _ h => ?_), fun a h => ?_, fun b u h n => ?_⟩
  · rw [upd_ne (ne_of_none h hp0)]
    exact h
  · by_cases hb : b = p
    · subst hb
      rw [upd_same] at h ⊢
      exact h
    · rw [upd_ne hb] at h ⊢
      exact e b u h
  · rw [upd_ne (ne_of_none h hp)]
    exact h
  · have na : a ≠ p := by
      intro z
      subst z
      exact nS h
    rw [upd_ne na]
    exact bf a h
  · have hb : b ≠ p := ne_of_none h hp
    rw [upd_ne hb, upd_ne hb]
    exact ⟨n, fun _ => h⟩
/-- a new object, not known -/
theorem Stp.junk {β : Box} {H0 H : Hp} {p : Addr} {o : HO} (e : Same H0 H) (ok : β.ok H) (bf : ∀ a, β.S a → H0 a = none) (hp : H p = none) : Stp β H0 H H0 (upd H p o) :=
  ⟨fun _ _ h => h, fun b u h => by
    have h' := e b u h
    rw [upd_ne (ne_of_none h' hp)]
    exact h', β.stay H _ ok (fun a u _ h => by
    rw [upd_ne (ne_of_none h hp)]
    exact h), bf, fun b u h n => ⟨n, fun _ => by
    rw [upd_ne (ne_of_none h hp)]
    exact h⟩⟩
/-! ### lists of one's own, one for each row -/
inductive Rws (β : Box) (H0 H : Hp) : List Addr → List (List D) → Prop
  | nil : Rws β H0 H [] []
  | cons {q : Addr} {qs : List Addr} {vs : List V} {row : List D} {rows : List (List D)} : H q = some (.lst vs) → H0 q = none → ¬ β.S q → HasL H0 vs row → q ∉ qs → Rws β H0 H qs rows → Rws β H0 H (q :: qs) (row :: rows)
theorem rws_some {β : Box} {H0 H : Hp} : ∀ {qs : List Addr} {rows : List (List D)}, Rws β H0 H qs rows → ∀ q ∈ qs, (∃ vs, H q = some (.lst vs)) ∧ H0 q = none ∧ ¬ β.S q
  | _, _, .cons h n ns hl hq r, q, hm => by
    rcases List.mem_cons.mp hm with rfl | hm
    · exact ⟨⟨_, h⟩, n, ns⟩
    · exact rws_some r q hm
theorem rws_keep {β : Box} {H0 H H0' H' : Hp} (e : Same H0 H0') : ∀ {qs : List Addr} {rows : List (List D)}, Rws β H0 H qs rows → (∀ q ∈ qs, H0' q = none) → (∀ q ∈ qs, ∀ u, H q = some u → H' q = some u) → Rws β H0' H' qs rows
  | _, _, .nil, _, _ => .nil
  | _, _, .cons h n ns hl hq r, n', k => .cons (k _ (List.mem_cons_self ..) _ h) (n' _ (List.mem_cons_self ..)) ns (hl.mono e) hq (rws_keep e r (fun q m => n' q (List.mem_cons_of_mem _ m)) fun q m => k q (List.mem_cons_of_mem _ m))
/-! ### slots -/
/-- other things of one's own: a list of lists, a dict -/
inductive Oth where
  | rows (rows : List (List D))
  | dct (kvs : List (D × D))
  | dtp (kvs : List (D × D))
/-- what addresses it holds -/
def Oth.foot (H : Hp) : Oth → Option V → Addr → Prop
  | .rows _, o, a => ∃ p, o = some (.ref p) ∧ (a = p ∨ ∃ vs, H p = some (.lst vs) ∧ V.ref a ∈ vs)
  | .dct _, o, a => o = some (.ref a)
  | .dtp _, o, a => o = some (.ref a)
/-- a dict whose keys are tuples: the key, where it stands, what stands under it -/
def DctN (p : Addr) (xs : List (NestedKey × Addr × Value)) : HO := .ext fun h => ∃ (w : World) (o : Obj) (es : Array DictEntry) (ep : Nat), h.get? p = some o ∧ o.ExactDict ∧ o.data = .dict es ep ∧
  es.toList = xs.map (fun x => ⟨x.1.hash w, .ref x.2.1, x.2.2⟩) ∧ (xs.map (·.1)).Nodup
theorem ncDctN {p : Addr} {xs : List (NestedKey × Addr × Value)} : NoC (DctN p xs) := fun c q z => by
  unfold DctN LamX.CodeO at z
  injection z with z
  let o : Obj := { cls := .none, data := .fields #[.none, .str q 0] }
  let h : Heap := { objs := Array.replicate (c + p + 1) o }
  have at' : ∀ a, a < c + p + 1 → h.get? a = some o := fun a ha => by
    have e : h.objs[a]? = some o := by
      show (Array.replicate (c + p + 1) o)[a]? = some o
      rw [Array.getElem?_replicate, if_pos ha]
    unfold Heap.get?
    rw [e]
  have zc := congrFun z h
  have hc : ∃ (oc : Obj) (vs : Array Value) (t : Tok), h.get? c = some oc ∧ oc.data = .fields vs ∧ vs[1]? = some (.str q t) := ⟨o, _, 0, at' c (Nat.lt_succ_of_le (Nat.le_add_right c p)), rfl, rfl⟩
  rw [← zc] at hc
  obtain ⟨w, o', es, ep, h1, _, h2, _⟩ := hc
  rw [at' p (Nat.lt_succ_of_le (Nat.le_add_left p c))] at h1
  cases h1
  cases h2
/-- the key that data is: a number, or a tuple of such, to depth 3 -/
def nkL (f : D → Option NestedKey) : List D → Option (List NestedKey)
  | [] => some []
  | d :: r => match f d, nkL f r with
    | some k, some ks => some (k :: ks)
    | _, _ => none
def nkD : Nat → D → Option NestedKey
  | _, .int i => some (.num i)
  | n + 1, .tuple ks => (nkL (nkD n) ks).map .tup
  | _, _ => none
inductive HasN (H : Hp) : List (NestedKey × Addr × Value) → List (D × D) → Prop
  | nil : HasN H [] []
  | cons {k : NestedKey} {b : Addr} {u : Value} {v : V} {x d : D} {xs : List (NestedKey × Addr × Value)} {ds : List (D × D)} : nkD 3 x = some k → Has H (.ref b) x → RelV v u → Has H v d → HasN H xs ds → HasN H ((k, b, u) :: xs) ((x, d) :: ds)
theorem HasN.mono {H H' : Hp} (e : Same H H') : ∀ {xs : List (NestedKey × Addr × Value)} {ds : List (D × D)}, HasN H xs ds → HasN H' xs ds
  | _, _, .nil => .nil
  | _, _, .cons h1 h2 h3 h4 r => .cons h1 (h2.mono e) h3 (h4.mono e) (HasN.mono e r)
def OthOk (β : Box) (H0 H : Hp) : Oth → Option V → Prop
  | .rows rows, s => ∃ p qs, s = some (.ref p) ∧ H p = some (.lst (qs.map V.ref)) ∧ H0 p = none ∧ ¬ β.S p ∧ p ∉ qs ∧ Rws β H0 H qs rows
  | .dct ds, s => ∃ p kvs, s = some (.ref p) ∧ H p = some (.dK kvs) ∧ HasK H0 kvs ds ∧ H0 p = none ∧ ¬ β.S p
  | .dtp ds, s => ∃ p xs, s = some (.ref p) ∧ H p = some (DctN p xs) ∧ HasN H0 xs ds ∧ H0 p = none ∧ ¬ β.S p ∧ (p == sysModules) = false
theorem mem_refs {a : Addr} {qs : List Addr} : V.ref a ∈ qs.map V.ref ↔ a ∈ qs := by
  rw [List.mem_map]
  exact ⟨fun ⟨q, h, e⟩ => by cases e; exact h, fun h => ⟨a, h, rfl⟩⟩
theorem OthOk.has {β : Box} {H0 H : Hp} {x : Oth} {o : Option V} {a : Addr} (h : OthOk β H0 H x o) (f : x.foot H o a) : (∃ u, H a = some u ∧ NoC u) ∧ H0 a = none ∧ ¬ β.S a := by
  cases x with
  | rows rows =>
    obtain ⟨p, qs, rfl, h1, h2, h3, h4, h5⟩ := h
    obtain ⟨p', e, f⟩ := f
    cases e
    rcases f with rfl | ⟨vs, e1, hm⟩
    · exact ⟨⟨_, h1, ncLst⟩, h2, h3⟩
    · rw [h1] at e1
      cases e1
      obtain ⟨⟨ws, k1⟩, k2, k3⟩ := rws_some h5 a (mem_refs.mp hm)
      exact ⟨⟨_, k1, ncLst⟩, k2, k3⟩
  | dct ds =>
    obtain ⟨p, kvs, rfl, h1, h2, h3, h4⟩ := h
    cases f
    exact ⟨⟨_, h1, ncDK⟩, h3, h4⟩
  | dtp ds =>
    obtain ⟨p, kvs, rfl, h1, h2, h3, h4, h5⟩ := h
    cases f
    exact ⟨⟨_, h1, ncDctN⟩, h3, h4⟩
theorem OthOk.keep {β : Box} {H0 H H0' H' : Hp} {x : Oth} {o : Option V} (h : OthOk β H0 H x o) (e : Same H0 H0') (n : ∀ a, x.foot H o a → H0' a = none) (k : ∀ a u, x.foot H o a → H a = some u → H' a = some u) : OthOk β H0' H' x o := by
  cases x with
  | rows rows =>
    obtain ⟨p, qs, rfl, h1, h2, h3, h4, h5⟩ := h
    have fp : (Oth.rows rows).foot H (some (.ref p)) p := ⟨p, rfl, .inl rfl⟩
    have fq : ∀ q ∈ qs, (Oth.rows rows).foot H (some (.ref p)) q := fun q hq => ⟨p, rfl, .inr ⟨_, h1, mem_refs.mpr hq⟩⟩
    exact ⟨p, qs, rfl, k p _ fp h1, n p fp, h3, h4, rws_keep e h5 (fun q hq => n q (fq q hq)) fun q hq u hu => k q u (fq q hq) hu⟩
  | dct ds =>
    obtain ⟨p, kvs, rfl, h1, h2, h3, h4⟩ := h
    exact ⟨p, kvs, rfl, k p _ rfl h1, h2.mono e, n p rfl, h4⟩
  | dtp ds =>
    obtain ⟨p, kvs, rfl, h1, h2, h3, h4, h5⟩ := h
    exact ⟨p, kvs, rfl, k p _ rfl h1, h2.mono e, n p rfl, h4, h5⟩
theorem OthOk.foot {β : Box} {H0 H H' : Hp} {x : Oth} {o : Option V} {a : Addr} (h : OthOk β H0 H x o) (k : ∀ a u, x.foot H o a → H a = some u → H' a = some u) (f : x.foot H' o a) : x.foot H o a := by
  cases x with
  | rows rows =>
    obtain ⟨p, qs, rfl, h1, h2, h3, h4, h5⟩ := h
    obtain ⟨p', e, f⟩ := f
    cases e
    rcases f with rfl | ⟨vs, e1, hm⟩
    · exact ⟨_, rfl, .inl rfl⟩
    · rw [k p _ ⟨p, rfl, .inl rfl⟩ h1] at e1
      cases e1
      exact ⟨p, rfl, .inr ⟨_, h1, hm⟩⟩
  | dct ds => exact f
  | dtp ds => exact f
inductive Sl where
  | no
  | d (x : D)
  | own (xs : List D)
  | oth (x : Oth)
  | box (k : Bool)
  | ex (x : Exn)
  | fn
  | mil
abbrev Env' := List Sl
/-- the classes of errors by their names; which boxes there are -/
structure Cad where
  fn : Str → Option Addr
  bx : Box → Prop
instance : CoeFun Cad fun _ => Str → Option Addr := ⟨Cad.fn⟩
/-- how an error lies: the class's address by its name, its dict -/
structure ExcIs (cad : Cad) (x : Exn) (c : Value) (dx : Option Addr) (H0 : Hp) : Prop where
  cls : ∃ C, cad x.cls = some C ∧ c = .ref C
  dict : (x.fs = [] ∧ dx = none) ∨ ∃ d vs, dx = some d ∧ H0 d = some (.xd ((x.fs.map (·.1)).zip vs)) ∧ HasL H0 vs (x.fs.map (·.2))
theorem ExcIs.mono {cad : Cad} {x : Exn} {c : Value} {dx : Option Addr} {H0 H0' : Hp} (e : Same H0 H0') (h : ExcIs cad x c dx H0) : ExcIs cad x c dx H0' := by
  obtain ⟨h1, h2⟩ := h
  refine ⟨h1, ?_⟩
  rcases h2 with h2 | ⟨d, vs, a, b, c⟩
  · exact .inl h2
  · exact .inr ⟨d, vs, a, e _ _ b, c.mono e⟩
/-- the error that is handled: where it stands, its class, its dict -/
abbrev Xi := Option (Addr × Value × Option Addr)
def SlOk (cad : Cad) (β : Box) (ξ : Xi) (H0 H : Hp) : Sl → Option V → Prop
  | .no, _ => True
  | .d x, s => ∃ v, s = some v ∧ Has H0 v x
  | .own xs, s => ∃ p vs, s = some (.ref p) ∧ H p = some (.lst vs) ∧ HasL H0 vs xs ∧ H0 p = none ∧ ¬ β.S p
  | .oth x, s => OthOk β H0 H x s
  | .box k, s => ∃ v, s = some v ∧ boxIs k β v
  | .ex x, s => ∃ a c dx, ξ = some (a, c, dx) ∧ s = some (.ref a) ∧ ExcIs cad x c dx H0
  | .fn, s => s = some β.v
  | .mil, s => ∃ v, s = some v ∧ milIs β v
theorem SlOk.step {cad : Cad} {β : Box} {ξ : Xi} {H0 H H0' H' : Hp} (st : Stp β H0 H H0' H') : ∀ {sl : Sl} {s : Option V}, SlOk cad β ξ H0 H sl s → SlOk cad β ξ H0' H' sl s
  | .no, _, _ => trivial
  | .d _, _, ⟨v, e, h⟩ => ⟨v, e, h.mono st.grow⟩
  | .own _, _, ⟨p, vs, e, h, r, n, ns⟩ => ⟨p, vs, e, (st.priv p _ h n).2 ns, r.mono st.grow, (st.priv p _ h n).1, ns⟩
  | .oth x, _, h => OthOk.keep h st.grow (fun a f => by
      obtain ⟨⟨u, z, _⟩, n, ns⟩ := OthOk.has h f
      exact (st.priv a u z n).1) fun a u f z => by
      obtain ⟨_, n, ns⟩ := OthOk.has h f
      exact (st.priv a u z n).2 ns
  | .box _, _, h => h
  | .ex _, _, ⟨a, c, dx, e1, e2, h⟩ => ⟨a, c, dx, e1, e2, h.mono st.grow⟩
  | .fn, _, h => h
  | .mil, _, h => h
/-- what addresses a slot holds -/
def Sl.foot (H : Hp) : Sl → Option V → Addr → Prop
  | .own _, o, a => o = some (.ref a)
  | .oth x, o, a => x.foot H o a
  | _, _, _ => False
theorem SlOk.has {cad : Cad} {β : Box} {ξ : Xi} {H0 H : Hp} {s : Sl} {o : Option V} {a : Addr} (h : SlOk cad β ξ H0 H s o) (f : s.foot H o a) : (∃ u, H a = some u ∧ NoC u) ∧ H0 a = none ∧ ¬ β.S a := by
  cases s with
  | own xs =>
    obtain ⟨p, vs, rfl, h1, _, h2, h3⟩ := h
    cases f
    exact ⟨⟨_, h1, ncLst⟩, h2, h3⟩
  | oth x => exact OthOk.has h f
  | _ => exact f.elim
/-- what a slot holds stays where nothing of it changes -/
theorem SlOk.keep {cad : Cad} {β : Box} {ξ : Xi} {H0 H H0' H' : Hp} {s : Sl} {o : Option V} (h : SlOk cad β ξ H0 H s o) (e : Same H0 H0') (n : ∀ a, s.foot H o a → H0' a = none) (k : ∀ a u, s.foot H o a → H a = some u → H' a = some u) : SlOk cad β ξ H0' H' s o := by
  cases s with
  | no => trivial
  | d x =>
    obtain ⟨v, f1, f2⟩ := h
    exact ⟨v, f1, f2.mono e⟩
  | own xs =>
    obtain ⟨p, vs, rfl, h1, h4, h2, h3⟩ := h
    exact ⟨p, vs, rfl, k p _ rfl h1, h4.mono e, n p rfl, h3⟩
  | oth x => exact OthOk.keep h e n k
  | box k => exact h
  | fn => exact h
  | mil => exact h
  | ex x =>
    obtain ⟨a, c, dx, f1, f2, f3⟩ := h
    exact ⟨a, c, dx, f1, f2, f3.mono e⟩
theorem SlOk.foot {cad : Cad} {β : Box} {ξ : Xi} {H0 H H' : Hp} {s : Sl} {o : Option V} {a : Addr} (h : SlOk cad β ξ H0 H s o) (k : ∀ a u, s.foot H o a → H a = some u → H' a = some u) (f : s.foot H' o a) : s.foot H o a := by
  cases s with
  | oth x => exact OthOk.foot h k f
  | own xs => exact f
  | _ => exact f.elim
theorem SlOk.footS {cad : Cad} {β : Box} {ξ : Xi} {H0 H H0' H' : Hp} {s : Sl} {o : Option V} {a : Addr} (h : SlOk cad β ξ H0 H s o) (st : Stp β H0 H H0' H') (f : s.foot H' o a) : s.foot H o a :=
  h.foot (fun b u g z => by
    obtain ⟨_, n, ns⟩ := h.has g
    exact (st.priv b u z n).2 ns) f
/-- a slot that holds nothing of its own -/
def Sl.bare : Sl → Prop
  | .own _ => False
  | .oth _ => False
  | _ => True
theorem Sl.bare.no {H : Hp} {s : Sl} {o : Option V} {a : Addr} (h : s.bare) (f : s.foot H o a) : False := by
  cases s with
  | own xs => exact h
  | oth x => exact h
  | _ => exact f
def TabsIn (cad : Cad) (β : Box) : Prop := cad.bx β
/-- what stands for the slots -/
structure Rel (cad : Cad) (β : Box) (ξ : Xi) (H0 : Hp) (ρ : Env') (σ : L2.St) (H : Hp) : Prop where
  ext : Same H0 H
  len : ρ.length = σ.length
  sl : ∀ (i : Nat) (s : Sl) (o : Option V), ρ[i]? = some s → σ[i]? = some o → SlOk cad β ξ H0 H s o
  apt : ∀ (i j : Nat) (s t : Sl) (o u : Option V) (a : Addr), ρ[i]? = some s → ρ[j]? = some t → σ[i]? = some o → σ[j]? = some u → i ≠ j → s.foot H o a → t.foot H u a → False
  ok : β.ok H
  boxf : ∀ a, β.S a → H0 a = none
  tabs : TabsIn cad β
section
variable {cad : Cad} {β : Box} {ξ : Xi} {H0 H H0' H' : Hp} {ρ : Env'} {σ : L2.St}
theorem Rel.apart (r : Rel cad β ξ H0 ρ σ H) (i j : Nat) (xs ys : List D) (p q : Addr) (h1 : ρ[i]? = some (.own xs)) (h2 : ρ[j]? = some (.own ys)) (h3 : σ[i]? = some (some (.ref p))) (h4 : σ[j]? = some (some (.ref q))) (ne : i ≠ j) : p ≠ q := fun e =>
  r.apt i j _ _ _ _ p h1 h2 h3 h4 ne rfl (by rw [e]; rfl)
theorem Rel.step (r : Rel cad β ξ H0 ρ σ H) (st : Stp β H0 H H0' H') : Rel cad β ξ H0' ρ σ H' :=
  ⟨st.ext, r.len, fun i s o a b => (r.sl i s o a b).step st, fun i j s t o u a h1 h2 h3 h4 ne f1 f2 => r.apt i j s t o u a h1 h2 h3 h4 ne ((r.sl i s o h1 h3).footS st f1) ((r.sl j t u h2 h4).footS st f2), st.ok, st.boxf, r.tabs⟩
theorem Rel.refl (r : Rel cad β ξ H0 ρ σ H) : Stp β H0 H H0 H := Stp.refl r.ext r.ok r.boxf
theorem Rel.new (r : Rel cad β ξ H0 ρ σ H) {p : Addr} {o : HO} (hp : H p = none) : Stp β H0 H (upd H0 p o) (upd H p o) := Stp.new r.ext r.ok r.boxf hp
theorem Rel.junk (r : Rel cad β ξ H0 ρ σ H) {p : Addr} {o : HO} (hp : H p = none) : Stp β H0 H H0 (upd H p o) := Stp.junk r.ext r.ok r.boxf hp
/-- an address that is free belongs to no slot, now and later -/
theorem Rel.fresh (r : Rel cad β ξ H0 ρ σ H) {p : Addr} (hp : H p = none) {H1 H2 : Hp} (st : Stp β H0 H H1 H2) (j : Nat) (t : Sl) (u : Option V) (h1 : ρ[j]? = some t) (h2 : σ[j]? = some u) (f : t.foot H2 u p) : False := by
  obtain ⟨⟨w, z, _⟩, _⟩ := (r.sl j t u h1 h2).has ((r.sl j t u h1 h2).footS st f)
  rw [hp] at z
  cases z
theorem set_some {α : Type} {l : List α} {i j : Nat} {x y : α} (h : (l.set i x)[j]? = some y) : (j = i ∧ y = x) ∨ (j ≠ i ∧ l[j]? = some y) := by
  by_cases hj : j = i
  · subst hj
    by_cases hl : j < l.length
    · rw [List.getElem?_set_self hl] at h
      exact .inl ⟨rfl, (Option.some.inj h).symm⟩
    · rw [List.getElem?_eq_none (by simpa using hl)] at h
      cases h
  · rw [List.getElem?_set_ne (Ne.symm hj)] at h
    exact .inr ⟨hj, h⟩
/-- slots, one of which is set -/
theorem apt_set {ρ : Env'} {σ : L2.St} {H : Hp} (h : ∀ (i j : Nat) (s t : Sl) (o u : Option V) (a : Addr), ρ[i]? = some s → ρ[j]? = some t → σ[i]? = some o → σ[j]? = some u → i ≠ j → s.foot H o a → t.foot H u a → False) {k : Nat} {x : Sl} {v : Option V}
    (hx : ∀ (j : Nat) (t : Sl) (u : Option V) (a : Addr), j ≠ k → ρ[j]? = some t → σ[j]? = some u → x.foot H v a → t.foot H u a → False) :
    ∀ (i j : Nat) (s t : Sl) (o u : Option V) (a : Addr), (ρ.set k x)[i]? = some s → (ρ.set k x)[j]? = some t → (σ.set k v)[i]? = some o → (σ.set k v)[j]? = some u → i ≠ j → s.foot H o a → t.foot H u a → False := by
  intro i j s t o u a h1 h2 h3 h4 ne f1 f2
  rcases set_some h1 with ⟨rfl, rfl⟩ | ⟨n1, g1⟩ <;> rcases set_some h3 with ⟨e3, rfl⟩ | ⟨n3, g3⟩
  · rcases set_some h2 with ⟨rfl, rfl⟩ | ⟨n2, g2⟩
    · exact ne rfl
    · rcases set_some h4 with ⟨e4, rfl⟩ | ⟨n4, g4⟩
      · exact n2 e4
      · exact hx j t u a n2 g2 g4 f1 f2
  · exact n3 rfl
  · exact n1 e3
  · rcases set_some h2 with ⟨rfl, rfl⟩ | ⟨n2, g2⟩ <;> rcases set_some h4 with ⟨e4, rfl⟩ | ⟨n4, g4⟩
    · exact hx i s o a n1 g1 g3 f2 f1
    · exact n4 rfl
    · exact n2 e4
    · exact h i j s t o u a g1 g2 g3 g4 ne f1 f2
/-- a slot that holds no list of its own is set -/
theorem Rel.setB (r : Rel cad β ξ H0 ρ σ H) {i : Nat} {sl : Sl} {o : Option V} (hs : SlOk cad β ξ H0 H sl o) (hx : ∀ (j : Nat) (t : Sl) (u : Option V) (a : Addr), j ≠ i → ρ[j]? = some t → σ[j]? = some u → sl.foot H o a → t.foot H u a → False) : Rel cad β ξ H0 (ρ.set i sl) (σ.set i o) H := by
  refine ⟨r.ext, by simp [r.len], fun j s u a b => ?_, apt_set r.apt hx, r.ok, r.boxf, r.tabs⟩
  rcases set_some a with ⟨rfl, rfl⟩ | ⟨n1, g1⟩ <;> rcases set_some b with ⟨e2, rfl⟩ | ⟨n2, g2⟩
  · exact hs
  · exact (n2 rfl).elim
  · exact (n1 e2).elim
  · exact r.sl j s u g1 g2
theorem Rel.set (r : Rel cad β ξ H0 ρ σ H) {i : Nat} {sl : Sl} {o : Option V} (hs : SlOk cad β ξ H0 H sl o) (hn : sl.bare) : Rel cad β ξ H0 (ρ.set i sl) (σ.set i o) H :=
  r.setB hs fun _ _ _ _ _ _ _ f _ => hn.no f
theorem Rel.setD (r : Rel cad β ξ H0 ρ σ H) {i : Nat} {v : V} {d : D} (h : Has H0 v d) : Rel cad β ξ H0 (ρ.set i (.d d)) (σ.set i (some v)) H :=
  r.set ⟨v, rfl, h⟩ trivial
/-- a slot takes a list of its own -/
theorem Rel.setOwn (r : Rel cad β ξ H0 ρ σ H) {i : Nat} {p : Addr} {vs : List V} {xs : List D} (h : H p = some (.lst vs)) (hl : HasL H0 vs xs) (n : H0 p = none) (ns : ¬ β.S p)
    (fr : ∀ (j : Nat) (t : Sl) (u : Option V), j ≠ i → ρ[j]? = some t → σ[j]? = some u → ¬ t.foot H u p) : Rel cad β ξ H0 (ρ.set i (.own xs)) (σ.set i (some (.ref p))) H :=
  r.setB ⟨p, vs, rfl, h, hl, n, ns⟩ fun j t u a ne h1 h2 f1 f2 => by
    cases f1
    exact fr j t u ne h1 h2 f2
end
end Wb
set_option Elab.async false
set_option linter.all false
set_option maxRecDepth 100000
set_option maxHeartbeats 4000000
/-! Wb, part 2: expressions, by what they give of data. -/
namespace Wb
open PySem PySem.Spec PyProof.Rows L2
/-- what a body is read under: the classes of errors, the error that is handled, the wish about errors -/
structure Ct where
  cad : Cad
  ξ : Xi
  W : WX
  lk : Box → Hp → Hp → Prop
/-- the wish, from a state -/
def Ct.X (g : Ct) (β : Box) (H0 H : Hp) (σ : L2.St) (x : Exn) : Prop :=
  ∀ c dx H0' H', Stp β H0 H H0' H' → ExcIs g.cad x c dx H0' → g.W c dx σ H'
theorem Ct.X.step {g : Ct} {β : Box} {H0 H H0' H' : Hp} {σ : L2.St} {x : Exn} (st : Stp β H0 H H0' H') (h : g.X β H0 H σ x) : g.X β H0' H' σ x :=
  fun c dx H2 H3 s e => h c dx H2 H3 (st.trans s) e
/-- the way out with a value -/
def Out (β : Box) (H0 H : Hp) (Q : VK) (d : D) : Prop := ∀ v H0' H', Stp β H0 H H0' H' → Has H0' v d → Q v H'
theorem Out.step {β : Box} {H0 H H0' H' : Hp} {Q : VK} {d : D} (st : Stp β H0 H H0' H') (h : Out β H0 H Q d) : Out β H0' H' Q d :=
  fun v H2 H3 s e => h v H2 H3 (st.trans s) e
def tE (g : Ct) (f : Env' → T D) : TE := fun σ H Q => ∃ β H0 ρ, Rel g.cad β g.ξ H0 ρ σ H ∧ (f ρ).wp (Out β H0 H Q) (g.X β H0 H σ)
def tT (g : Ct) (f : Env' → T D) : TT := fun σ H Q => ∃ β H0 ρ, Rel g.cad β g.ξ H0 ρ σ H ∧
  (f ρ).wp (fun d => ∃ b, d = .bool b ∧ ∀ H0' H', Stp β H0 H H0' H' → Q b H') (g.X β H0 H σ)
/-- an argument: data, or the box -/
inductive Ar where
  | d (x : D)
  | box (k : Bool)
  | mil
def HasA (β : Box) (H0 : Hp) (v : V) : Ar → Prop
  | .d x => Has H0 v x
  | .box k => boxIs k β v
  | .mil => milIs β v
inductive HasAs (β : Box) (H0 : Hp) : List V → List Ar → Prop
  | nil : HasAs β H0 [] []
  | cons {v : V} {vs : List V} {a : Ar} {as : List Ar} : HasA β H0 v a → HasAs β H0 vs as → HasAs β H0 (v :: vs) (a :: as)
theorem HasA.mono {β : Box} {H0 H0' : Hp} (e : Same H0 H0') {v : V} : ∀ {a : Ar}, HasA β H0 v a → HasA β H0' v a
  | .d _, h => Has.mono e h
  | .box _, h => h
  | .mil, h => h
theorem HasAs.mono {β : Box} {H0 H0' : Hp} (e : Same H0 H0') : ∀ {vs : List V} {as : List Ar}, HasAs β H0 vs as → HasAs β H0' vs as
  | _, _, .nil => .nil
  | _, _, .cons h r => .cons (h.mono e) (HasAs.mono e r)
theorem HasAs.length {β : Box} {H0 : Hp} : ∀ {vs : List V} {as : List Ar}, HasAs β H0 vs as → vs.length = as.length
  | _, _, .nil => rfl
  | _, _, .cons _ r => by simp [HasAs.length r]
def tA (g : Ct) (f : Env' → T (List Ar)) : TA := fun σ H Q => ∃ β H0 ρ, Rel g.cad β g.ξ H0 ρ σ H ∧
  (f ρ).wp (fun as => ∀ vs H0' H', Stp β H0 H H0' H' → HasAs β H0' vs as → Q vs H') (g.X β H0 H σ)
theorem _root_.L2.PE.imp {X : Cx} {e : Expr} {t t' : TE} (h : PE X e t) (i : ∀ σ H Q, t' σ H Q → t σ H Q) : PE X e t' := ⟨fun pins s σ H Q I q => h.run pins s σ H Q I (i _ _ _ q)⟩
theorem _root_.L2.PT.imp {X : Cx} {e : Expr} {t t' : TT} (h : PT X e t) (i : ∀ σ H Q, t' σ H Q → t σ H Q) : PT X e t' := ⟨fun pins s σ H Q I q => h.run pins s σ H Q I (i _ _ _ q)⟩
theorem _root_.L2.PW.imp {X : Cx} {e : Expr} {t t' : TT} (h : PW X e t) (i : ∀ σ H Q, t' σ H Q → t σ H Q) : PW X e t' := ⟨fun w pins s σ H Q I q => h.run w pins s σ H Q I (i _ _ _ q)⟩
theorem _root_.L2.PA.imp {X : Cx} {e : List Expr} {t t' : TA} (h : PA X e t) (i : ∀ σ H Q, t' σ H Q → t σ H Q) : PA X e t' := ⟨fun p pins s σ H Q I q => h.run p pins s σ H Q I (i _ _ _ q)⟩
theorem _root_.L2.PO.imp {X : Cx} {e : Option Expr} {t t' : TO} (h : PO X e t) (i : ∀ σ H Q, t' σ H Q → t σ H Q) : PO X e t' := ⟨fun pins s σ H Q I q => h.run pins s σ H Q I (i _ _ _ q)⟩
/-! ### one after another -/
section
variable {g : Ct} {σ : L2.St} {H : Hp}
/-- a value is reckoned first -/
theorem tE_then {α : Type} {β : Box} {H0 : Hp} {ρ : Env'} {f : Env' → T D} {k : D → T α} {P : α → Prop} {Q : VK} (r : Rel g.cad β g.ξ H0 ρ σ H) (h : ((f ρ).bind k).wp P (g.X β H0 H σ))
    (hq : ∀ d v H0' H', Stp β H0 H H0' H' → Has H0' v d → (k d).wp P (g.X β H0 H σ) → Q v H') : tE g f σ H Q :=
  ⟨β, H0, ρ, r, T.wp_mono (fun d hd v H0' H' st hv => hq d v H0' H' st hv hd) (fun _ h => h) _ ((T.wp_bind _ _).mp h)⟩
theorem tA_then {α : Type} {β : Box} {H0 : Hp} {ρ : Env'} {f : Env' → T (List Ar)} {k : List Ar → T α} {P : α → Prop} {Q : List V → Hp → Prop} (r : Rel g.cad β g.ξ H0 ρ σ H) (h : ((f ρ).bind k).wp P (g.X β H0 H σ))
    (hq : ∀ as vs H0' H', Stp β H0 H H0' H' → HasAs β H0' vs as → (k as).wp P (g.X β H0 H σ) → Q vs H') : tA g f σ H Q :=
  ⟨β, H0, ρ, r, T.wp_mono (fun d hd v H0' H' st hv => hq d v H0' H' st hv hd) (fun _ h => h) _ ((T.wp_bind _ _).mp h)⟩
/-- what follows, from where one stands now -/
theorem wp_out {β : Box} {H0 H0' H' : Hp} {Q : VK} {t : T D} (st : Stp β H0 H H0' H') (h : t.wp (Out β H0 H Q) (g.X β H0 H σ)) : t.wp (Out β H0' H' Q) (g.X β H0' H' σ) :=
  T.wp_mono (fun _ q => q.step st) (fun _ q => q.step st) t h
end
/-! ### names, constants -/
def eC (d : D) : Env' → T D := fun _ => .ret d
def eV (i : Nat) : Env' → T D := fun ρ => match ρ[i]? with
  | some (.d x) => .ret x
  | _ => .bad
section
variable {X : Cx} {g : Ct} {a b c : Expr} {f h k : Env' → T D} {pos : Pos}
theorem tE_val {β : Box} {H0 H : Hp} {σ : L2.St} {ρ : Env'} {Q : VK} {v : V} {d : D} (r : Rel g.cad β g.ξ H0 ρ σ H) (hv : Has H0 v d) (q : (T.ret d).wp (Out β H0 H Q) (g.X β H0 H σ)) : Q v H :=
  q v H0 H r.refl hv
theorem r_int {i : Int} {j pos} : PE X (.Constant (.int i) j pos) (tE g (eC (.int i))) := pe_int.imp fun _ _ _ ⟨_, _, _, r, q⟩ => tE_val r (.int i) q
theorem r_bl {i : Bool} {j pos} : PE X (.Constant (.bool i) j pos) (tE g (eC (.bool i))) := pe_bl.imp fun _ _ _ ⟨_, _, _, r, q⟩ => tE_val r (.bl i) q
theorem r_non {j pos} : PE X (.Constant .none j pos) (tE g (eC .none)) := pe_non.imp fun _ _ _ ⟨_, _, _, r, q⟩ => tE_val r .non q
theorem r_str {x : Str} {j pos} : PE X (.Constant (.str x) j pos) (tE g (eC (.str x))) := pe_str.imp fun _ _ _ ⟨_, _, _, r, q⟩ => tE_val r (.str x) q
theorem r_glob {x : Str} {v : V} {u : Value} {d : D} (hg : Gl X x) (hm : X.mg x = some u) (rv : RelV v u) (hd : ∀ H, Has H v d) (hdb : (x == ("__debug__" : Str)) = false := by decide) : PE X (.Name x pos) (tE g (eC d)) :=
  (pe_glob hg hm rv hdb).imp fun _ _ _ ⟨_, _, _, r, q⟩ => tE_val r (hd _) q
theorem eV_slot {β : Box} {H0 H : Hp} {σ : L2.St} {ρ : Env'} {i : Nat} {P : D → Prop} {E : Exn → Prop} (r : Rel g.cad β g.ξ H0 ρ σ H) (q : (eV i ρ).wp P E) : ∃ v d, σ[i]? = some (some v) ∧ Has H0 v d ∧ P d := by
  unfold eV at q
  split at q
  · next x hx =>
    have hl : i < σ.length := by
      rw [← r.len]
      exact (List.getElem?_eq_some_iff.mp hx).1
    obtain ⟨v, e, hv⟩ := r.sl i _ _ hx (List.getElem?_eq_getElem hl)
    exact ⟨v, x, by rw [List.getElem?_eq_getElem hl, e], hv, q⟩
  · exact q.elim
theorem r_v (i : Nat) {x : Str} (hp : PE X (.Name x pos) (tVar i)) : PE X (.Name x pos) (tE g (eV i)) := hp.imp fun σ H Q ⟨β, H0, ρ, r, q⟩ => by
  obtain ⟨v, d, e, hv, hq⟩ := eV_slot r q
  exact ⟨v, e, hq v H0 H r.refl hv⟩
/-! ### operators -/
/-- an operation of the layer does o -/
def OpD (r : R2) (o : D → D → T D) : Prop := ∀ {β : Box} {H0 H : Hp} {v w : V} {x y : D} {Q : VK} {E : Exn → Prop}, Same H0 H → β.ok H → (∀ a, β.S a → H0 a = none) → Has H0 v x → Has H0 w y →
  (o x y).wp (Out β H0 H Q) E → r v w H Q
def UnD (r : V → Hp → VK → Prop) (o : D → T D) : Prop := ∀ {β : Box} {H0 H : Hp} {v : V} {x : D} {Q : VK} {E : Exn → Prop}, Same H0 H → β.ok H → (∀ a, β.S a → H0 a = none) → Has H0 v x →
  (o x).wp (Out β H0 H Q) E → r v H Q
def CaD (r : List V → Hp → VK → Prop) (o : List Ar → T D) : Prop := ∀ {β : Box} {H0 H : Hp} {vs : List V} {as : List Ar} {Q : VK} {E : Exn → Prop}, Same H0 H → β.ok H → (∀ a, β.S a → H0 a = none) → HasAs β H0 vs as →
  (o as).wp (Out β H0 H Q) E → r vs H Q
def eBin (o : D → D → T D) (f h : Env' → T D) : Env' → T D := fun ρ => (f ρ).bind fun x => (h ρ).bind fun y => o x y
def eUn (o : D → T D) (f : Env' → T D) : Env' → T D := fun ρ => (f ρ).bind o
theorem tOp_of {r : R2} {o : D → D → T D} (ho : OpD r o) {σ : L2.St} {H : Hp} {Q : VK} (q : tE g (eBin o f h) σ H Q) : tOp r (tE g f) (tE g h) σ H Q := by
  obtain ⟨β, H0, ρ, rr, q⟩ := q
  refine tE_then rr q fun d v H1 H2 st hv q1 => ?_
  have rr1 := rr.step st
  refine tE_then rr1 (wp_out st q1) fun d' v' H3 H4 st2 hv' q2 => ?_
  exact ho st2.ext st2.ok st2.boxf (hv.mono st2.grow) hv' (wp_out st2 q2)
theorem r_op {op : Operator} {r : R2} {o : D → D → T D} (ho : OpR X (binaryOp op) r) (hd : OpD r o) (ha : PE X a (tE g f)) (hb : PE X b (tE g h)) : PE X (.BinOp a op b pos) (tE g (eBin o f h)) :=
  (pe_op ho ha hb).imp fun _ _ _ q => tOp_of hd q
theorem r_cmp {op : CmpOp} {r : R2} {o : D → D → T D} (ho : OpR X (compareOp op) r) (hd : OpD r o) (ha : PE X a (tE g f)) (hb : PE X b (tE g h)) (hm : behindInMarks op b = false) : PE X (.Compare a [op] [b] pos) (tE g (eBin o f h)) :=
  (pe_cmpR ho ha hb hm).imp fun _ _ _ q => tOp_of hd q
theorem r_ix {r : R2} {o : D → D → T D} (hr : IxR X r) (hd : OpD r o) (ha : PE X a (tE g f)) (hb : PE X b (tE g h)) (hs : PlainIx b) : PE X (.Subscript a b pos) (tE g (eBin o f h)) :=
  (pe_ix hr ha hb hs).imp fun _ _ _ q => tOp_of hd q
theorem r_un {op : UnaryOp} {r : V → Hp → VK → Prop} {o : D → T D} (ho : UnR X (unaryOp op) r) (hd : UnD r o) (ha : PE X a (tE g f)) : PE X (.UnaryOp op a pos) (tE g (eUn o f)) :=
  (pe_un ho ha).imp fun σ H Q ⟨β, H0, ρ, rr, q⟩ => tE_then rr q fun d v H1 H2 st hv q1 => hd st.ext st.ok st.boxf hv (wp_out st q1)
/-- a op b op' c -/
def eCh (o o' : D → D → T D) (f h k : Env' → T D) : Env' → T D := fun ρ => (f ρ).bind fun x => (h ρ).bind fun y => (o x y).bind fun z => match z with
  | .bool true => (k ρ).bind fun w => o' y w
  | .bool false => .ret (.bool false)
  | _ => .bad
/-- an operation that makes nothing -/
def PuD (r : R2) (o : D → D → T D) : Prop := ∀ {H0 H : Hp} {v w : V} {x y : D} {α : Type} {Q : VK} {P : α → Prop} {E : Exn → Prop} {k : D → T α}, Same H0 H → Has H0 v x → Has H0 w y →
  ((o x y).bind k).wp P E → (∀ z b, z = .bool b → (k z).wp P E → Q (.bl b) H) → (∀ z, (∀ b, z ≠ .bool b) → (k z).wp P E → False) → r v w H Q
theorem tChain_of {r r' : R2} {o o' : D → D → T D} (ho : PuD r o) (ho' : OpD r' o') {σ : L2.St} {H : Hp} {Q : VK} (q : tE g (eCh o o' f h k) σ H Q) : tChain r r' (tE g f) (tE g h) (tE g k) σ H Q := by
  obtain ⟨β, H0, ρ, rr, q⟩ := q
  refine tE_then rr q fun d v H1 H2 st hv q1 => ?_
  have rr1 := rr.step st
  refine tE_then rr1 (wp_out st q1) fun d' v' H3 H4 st2 hv' q2 => ?_
  have rr2 := rr1.step st2
  refine ho st2.ext (hv.mono st2.grow) hv' (wp_out st2 q2) (fun z b ez qz => ?_) (fun z nz qz => ?_)
  · subst ez
    refine ⟨b, rfl, ?_⟩
    cases b with
    | true =>
      refine iteT ?_
      refine tE_then rr2 qz fun d3 v3 H5 H6 st3 hv3 q3 => ?_
      exact ho' st3.ext st3.ok st3.boxf (hv'.mono st3.grow) hv3 (wp_out st3 q3)
    | false =>
      refine iteF ?_
      exact qz (.bl false) H3 H4 rr2.refl (.bl false)
  · cases z with
    | bool b => exact nz b rfl
    | _ => exact qz
theorem r_chain {op op' : CmpOp} {r r' : R2} {o o' : D → D → T D} (ho : OpR X (compareOp op) r) (ho' : OpR X (compareOp op') r') (hd : PuD r o) (hd' : OpD r' o') (ha : PE X a (tE g f)) (hb : PE X b (tE g h)) (hc : PE X c (tE g k))
    (hm : lastMarks [op, op'] [b, c] = false := by with_unfolding_all rfl) : PE X (.Compare a [op, op'] [b, c] pos) (tE g (eCh o o' f h k)) :=
  (pe_chain ho ho' ha hb hc hm).imp fun _ _ _ q => tChain_of hd hd' q
/-! ### and, or, not, if as values -/
def eAnd (f h : Env' → T D) : Env' → T D := fun ρ => (f ρ).bind fun x => match x with
  | .bool true => h ρ
  | .bool false => .ret (.bool false)
  | _ => .bad
def eOr (f h : Env' → T D) : Env' → T D := fun ρ => (f ρ).bind fun x => match x with
  | .bool false => h ρ
  | .bool true => .ret (.bool true)
  | _ => .bad
def oNot : D → T D
  | .bool b => .ret (.bool (!b))
  | _ => .bad
def eIf (t f h : Env' → T D) : Env' → T D := fun ρ => (t ρ).bind fun x => match x with
  | .bool true => f ρ
  | .bool false => h ρ
  | _ => .bad
variable {rest : List Expr}
theorem r_and (ha : PE X a (tE g f)) (hb : PE X (.BoolOp .And (b :: rest) pos) (tE g h)) : PE X (.BoolOp .And (a :: b :: rest) pos) (tE g (eAnd f h)) :=
  (pe_and ha hb).imp fun σ H Q ⟨β, H0, ρ, rr, q⟩ => tE_then rr q fun d v H1 H2 st hv q1 => by
    cases hv with
    | bl z =>
      refine ⟨z, rfl, ?_⟩
      cases z with
      | true => exact iteT ⟨β, H1, ρ, rr.step st, wp_out st q1⟩
      | false => exact iteF (q1 (.bl false) H1 H2 st (.bl false))
    | _ => exact q1.elim
theorem r_one {op} (ha : PE X a (tE g f)) : PE X (.BoolOp op [a] pos) (tE g f) := pe_one ha
theorem r_not (ha : PE X a (tE g f)) : PE X (.UnaryOp .Not a pos) (tE g (eUn oNot f)) :=
  (pe_not ha).imp fun σ H Q ⟨β, H0, ρ, rr, q⟩ => tE_then rr q fun d v H1 H2 st hv q1 => by
    cases hv with
    | bl z => exact ⟨z, rfl, q1 (.bl (!z)) H1 H2 st (.bl _)⟩
    | _ => exact q1.elim
/-! ### tests -/
theorem q_val (ha : PE X a (tE g f)) (he : ∀ whole, isTrue a X.env whole = (do let v ← whole; standAt a.pos; holding [v] (truthy v)) := by intro _; rfl) : PT X a (tT g f) :=
  (pt_val ha he).imp fun σ H Q ⟨β, H0, ρ, rr, q⟩ => ⟨β, H0, ρ, rr, T.wp_mono (fun d hd v H1 H2 st hv => by
    obtain ⟨z, e, hq⟩ := hd
    subst e
    cases hv
    exact ⟨z, rfl, hq H1 H2 st⟩) (fun _ z => z) _ q⟩
theorem q_cmp {op : CmpOp} {r : R2} {o : D → D → T D} (ho : OpR X (compareOp op) r) (hd : OpD r o) (ha : PE X a (tE g f)) (hb : PE X b (tE g h)) (hm : behindInMarks op b = false) : PT X (.Compare a [op] [b] pos) (tT g (eBin o f h)) :=
  (pt_cmpR ho ha hb hm).imp fun σ H Q ⟨β, H0, ρ, rr, q⟩ => tOp_of (Q := fun x H' => ∃ k, x = .bl k ∧ Q k H') hd ⟨β, H0, ρ, rr, T.wp_mono (fun d hd v H1 H2 st hv => by
    obtain ⟨z, e, hq⟩ := hd
    subst e
    cases hv
    exact ⟨z, rfl, hq H1 H2 st⟩) (fun _ z => z) _ q⟩
theorem q_chain {op op' : CmpOp} {r r' : R2} {o o' : D → D → T D} (ho : OpR X (compareOp op) r) (ho' : OpR X (compareOp op') r') (hd : PuD r o) (hd' : OpD r' o') (ha : PE X a (tE g f)) (hb : PE X b (tE g h)) (hc : PE X c (tE g k))
    (hm : lastMarks [op, op'] [b, c] = false := by with_unfolding_all rfl) : PT X (.Compare a [op, op'] [b, c] pos) (tT g (eCh o o' f h k)) :=
  (pt_chain ho ho' ha hb hc hm).imp fun σ H Q ⟨β, H0, ρ, rr, q⟩ => tChain_of (Q := fun x H' => ∃ k, x = .bl k ∧ Q k H') hd hd' ⟨β, H0, ρ, rr, T.wp_mono (fun d hd v H1 H2 st hv => by
    obtain ⟨z, e, hq⟩ := hd
    subst e
    cases hv
    exact ⟨z, rfl, hq H1 H2 st⟩) (fun _ z => z) _ q⟩
theorem tT_then {α : Type} {β : Box} {H0 H : Hp} {σ : L2.St} {ρ : Env'} {kk : D → T α} {P : α → Prop} {Q : Bool → Hp → Prop} (r : Rel g.cad β g.ξ H0 ρ σ H) (hw : ((f ρ).bind kk).wp P (g.X β H0 H σ))
    (hq : ∀ z H0' H', Stp β H0 H H0' H' → (kk (.bool z)).wp P (g.X β H0 H σ) → Q z H') (hn : ∀ d, (∀ z, d ≠ .bool z) → (kk d).wp P (g.X β H0 H σ) → False) : tT g f σ H Q :=
  ⟨β, H0, ρ, r, T.wp_mono (fun d hd => by
    cases d with
    | bool z => exact ⟨z, rfl, fun H1 H2 st => hq z H1 H2 st hd⟩
    | _ => exact (hn _ (fun _ z => by cases z) hd).elim) (fun _ h => h) _ ((T.wp_bind _ _).mp hw)⟩
def outB (β : Box) (H0 H : Hp) (Q : Bool → Hp → Prop) (d : D) : Prop := ∃ b, d = .bool b ∧ ∀ H0' H', Stp β H0 H H0' H' → Q b H'
theorem wp_outB {β : Box} {H0 H H0' H' : Hp} {σ : L2.St} {Q : Bool → Hp → Prop} {t : T D} (st : Stp β H0 H H0' H') (hw : t.wp (outB β H0 H Q) (g.X β H0 H σ)) : t.wp (outB β H0' H' Q) (g.X β H0' H' σ) :=
  T.wp_mono (fun _ ⟨b, e, q⟩ => ⟨b, e, fun H2 H3 s => q H2 H3 (st.trans s)⟩) (fun _ q => q.step st) t hw
theorem q_or (ha : PT X a (tT g f)) (hb : PW X (.BoolOp .Or (b :: rest) pos) (tT g h)) : PW X (.BoolOp .Or (a :: b :: rest) pos) (tT g (eOr f h)) :=
  (pw_or ha hb).imp fun σ H Q ⟨β, H0, ρ, rr, q⟩ => tT_then (f := f) rr q (fun z H1 H2 st q1 => by
    cases z with
    | false => exact iteF ⟨β, H1, ρ, rr.step st, wp_outB st q1⟩
    | true =>
      obtain ⟨b, e, hq⟩ := q1
      cases e
      exact iteT (hq H1 H2 st)) (fun d hn q1 => by
    cases d with
    | bool z => exact hn z rfl
    | _ => exact q1)
theorem q_or1 (ha : PT X a (tT g f)) : PW X (.BoolOp .Or [a] pos) (tT g f) := pw_or1 ha
theorem q_not (ha : PT X a (tT g f)) : PT X (.UnaryOp .Not a pos) (tT g (eUn oNot f)) :=
  (pt_not ha).imp fun σ H Q ⟨β, H0, ρ, rr, q⟩ => tT_then (f := f) rr q (fun z H1 H2 st q1 => by
    obtain ⟨b, e, hq⟩ := q1
    cases e
    exact hq H1 H2 st) (fun d hn q1 => by
    cases d with
    | bool z => exact hn z rfl
    | _ => exact q1)
theorem r_if (ht : PT X c (tT g k)) (ha : PE X a (tE g f)) (hb : PE X b (tE g h)) : PE X (.IfExp c a b pos) (tE g (eIf k f h)) :=
  (pe_ifExp ht ha hb).imp fun σ H Q ⟨β, H0, ρ, rr, q⟩ => tT_then (f := k) rr q (fun z H1 H2 st q1 => by
    cases z with
    | true => exact iteT ⟨β, H1, ρ, rr.step st, wp_out st q1⟩
    | false => exact iteF ⟨β, H1, ρ, rr.step st, wp_out st q1⟩) (fun d hn q1 => by
    cases d with
    | bool z => exact hn z rfl
    | _ => exact q1)
/-- truth of any data -/
def oTruth : D → T D
  | .none => .ret (.bool false)
  | .bool b => .ret (.bool b)
  | .int i => .ret (.bool (i != 0))
  | .str x => if x.length ≤ 1000000 then .ret (.bool ((x.length : Int) != 0)) else .bad
  | .list xs => .ret (.bool (!xs.isEmpty))
  | .tuple xs => .ret (.bool (!xs.isEmpty))
  | .dict kvs => .ret (.bool (!kvs.isEmpty))
theorem lim_line {n : Nat} (h : n ≤ 1000000) : n ≤ sizeLine := by
  rw [sizeLine_eq]
  omega
theorem HasL.isEmpty {H : Hp} {vs : List V} {ds : List D} (h : HasL H vs ds) : vs.isEmpty = ds.isEmpty := by
  cases h <;> rfl
theorem HasK.isEmpty {H : Hp} {vs : List (Key × V)} {ds : List (D × D)} (h : HasK H vs ds) : vs.isEmpty = ds.isEmpty := by
  cases h <;> rfl
theorem q_truth (ha : PE X a (tE g f)) (he : ∀ whole, isTrue a X.env whole = (do let v ← whole; standAt a.pos; holding [v] (truthy v)) := by intro _; rfl) : PT X a (tT g (eUn oTruth f)) :=
  (pt_truth ha he).imp fun σ H Q ⟨β, H0, ρ, rr, q⟩ => tE_then rr q fun d v H1 H2 st hv q1 => by
    have fin : ∀ {z : Bool}, (T.ret (PyData.bool z)).wp (outB β H0 H Q) (g.X β H0 H σ) → Q z H2 := fun ⟨b, e, hq⟩ => by
      cases e
      exact hq H1 H2 st
    cases hv with
    | non => exact ⟨false, rfl, fin q1⟩
    | bl z => exact ⟨z, rfl, fin q1⟩
    | int i => exact ⟨i != 0, rfl, fin q1⟩
    | str x =>
      have q1 : (if x.length ≤ 1000000 then T.ret (PyData.bool ((x.length : Int) != 0)) else .bad).wp (outB β H0 H Q) (g.X β H0 H σ) := q1
      by_cases hx : x.length ≤ 1000000
      · rw [if_pos hx] at q1
        exact ⟨_, ⟨lim_line hx, rfl⟩, fin q1⟩
      · rw [if_neg hx] at q1
        exact q1.elim
    | lst h1 h2 => exact ⟨_, .inl ⟨_, SqL.of (st.ext _ _ h1), by rw [h2.isEmpty]⟩, fin q1⟩
    | tup h1 hdn h2 => exact ⟨_, .inr (.inl ⟨_, sqF (st.ext _ _ h1), by rw [h2.isEmpty]⟩), fin q1⟩
    | dct h1 h2 => exact ⟨_, .inr (.inr ⟨_, st.ext _ _ h1, by rw [h2.isEmpty]⟩), fin q1⟩
/-! ### arguments, displays, calls -/
variable {es : List Expr} {fs : Env' → T (List Ar)}
def aNil : Env' → T (List Ar) := fun _ => .ret []
def aCons (f : Env' → T D) (fs : Env' → T (List Ar)) : Env' → T (List Ar) := fun ρ => (f ρ).bind fun d => (fs ρ).bind fun r => .ret (.d d :: r)
def aBox (i : Nat) (fs : Env' → T (List Ar)) : Env' → T (List Ar) := fun ρ => match ρ[i]? with
  | some (.box k) => (fs ρ).bind fun r => .ret (.box k :: r)
  | some .mil => (fs ρ).bind fun r => .ret (.mil :: r)
  | _ => .bad
theorem a_nil : PA X [] (tA g aNil) := pa_nil.imp fun _ _ _ ⟨_, H0, _, r, q⟩ => q [] H0 _ r.refl .nil
theorem a_cons (ha : PE X a (tE g f)) (hr : PA X es (tA g fs)) (hs : starEach (a :: es) X.env = (false, eval a X.env) :: starEach es X.env := by rfl) : PA X (a :: es) (tA g (aCons f fs)) :=
  (pa_cons ha hr hs).imp fun σ H Q ⟨β, H0, ρ, rr, q⟩ => tE_then rr q fun d v H1 H2 st hv q1 => by
    have q2 := T.wp_mono (fun (as : List Ar) (h : ∀ vs H0' H', Stp β H0 H H0' H' → HasAs β H0' vs as → Q vs H') vs H0' H' s e => h vs H0' H' (st.trans s) e) (fun x (h : g.X β H0 H σ x) => h.step st) _ q1
    refine tA_then (rr.step st) q2 fun as vs H3 H4 st2 hvs q3 => ?_
    exact q3 (v :: vs) H3 H4 st2 (.cons (hv.mono st2.grow) hvs)
theorem a_box {i : Nat} {x : Str} {p : Pos} (hp : PE X (.Name x p) (tVar i)) (hr : PA X es (tA g fs)) (hs : starEach (.Name x p :: es) X.env = (false, eval (.Name x p) X.env) :: starEach es X.env := by rfl) : PA X (.Name x p :: es) (tA g (aBox i fs)) :=
  (pa_cons hp hr hs).imp fun σ H Q ⟨β, H0, ρ, rr, q⟩ => by
    unfold aBox at q
    split at q
    · next k hx =>
      have hl : i < σ.length := by
        rw [← rr.len]
        exact (List.getElem?_eq_some_iff.mp hx).1
      obtain ⟨v, e', hb⟩ := rr.sl i _ _ hx (List.getElem?_eq_getElem hl)
      refine ⟨v, by rw [List.getElem?_eq_getElem hl, e'], ?_⟩
      refine tA_then rr q fun as vs H3 H4 st2 hvs q3 => ?_
      exact q3 (v :: vs) H3 H4 st2 (.cons hb hvs)
    · next hx =>
      have hl : i < σ.length := by
        rw [← rr.len]
        exact (List.getElem?_eq_some_iff.mp hx).1
      obtain ⟨v, e', hb⟩ := rr.sl i _ _ hx (List.getElem?_eq_getElem hl)
      refine ⟨v, by rw [List.getElem?_eq_getElem hl, e'], ?_⟩
      refine tA_then rr q fun as vs H3 H4 st2 hvs q3 => ?_
      exact q3 (v :: vs) H3 H4 st2 (.cons hb hvs)
    · exact q.elim
theorem HasAs.ds {β : Box} {H0 : Hp} : ∀ {vs : List V} {as : List Ar} {ds : List D}, HasAs β H0 vs as → as = ds.map Ar.d → HasL H0 vs ds
  | _, _, [], .nil, _ => .nil
  | _, _, d :: ds, .cons h r, e => by
    rw [List.map_cons] at e
    injection e with e1 e2
    subst e1
    exact .cons h (HasAs.ds r e2)
def dsOf : List Ar → Option (List D)
  | [] => some []
  | .d x :: r => (dsOf r).map (x :: ·)
  | .box _ :: _ => none
  | .mil :: _ => none
theorem dsOf_some : ∀ {as : List Ar} {ds : List D}, dsOf as = some ds → as = ds.map Ar.d
  | [], ds, h => by
    cases h
    rfl
  | .d x :: r, ds, h => by
    unfold dsOf at h
    cases q : dsOf r with
    | none =>
      rw [q] at h
      cases h
    | some es =>
      rw [q] at h
      cases h
      rw [dsOf_some q]
      rfl
  | .box _ :: _, _, h => by cases h
  | .mil :: _, _, h => by cases h
def eTup (fs : Env' → T (List Ar)) : Env' → T D := fun ρ => (fs ρ).bind fun as => match dsOf as with
  | some ds => if ds.length ≤ 1000000 then .ret (.tuple ds) else .bad
  | none => .bad
def eLst (fs : Env' → T (List Ar)) : Env' → T D := fun ρ => (fs ρ).bind fun as => match dsOf as with
  | some ds => if ds.length ≤ 1000000 then .ret (.list ds) else .bad
  | none => .bad
theorem upd_has {H : Hp} {p : Addr} {o : HO} {vs : List V} {ds : List D} (hp : H p = none) (h : HasL H vs ds) : HasL (upd H p o) vs ds :=
  h.mono fun b u e => by
    rw [upd_ne (ne_of_none e hp)]
    exact e
theorem r_tup {x1} (hs : PA X es (tA g fs)) : PE X (.Tuple es x1 pos) (tE g (eTup fs)) :=
  (pe_tupS hs).imp fun σ H Q ⟨β, H0, ρ, rr, q⟩ => tA_then rr q fun as vs H1 H2 st hv q1 => by
    split at q1
    · next ds e =>
      split at q1
      · next hz =>
        have hl := hv.ds (dsOf_some e)
        have hlen := hl.length
        refine ⟨lim_line (by omega), fun p o hp hz => ?_⟩
        have hp1 : H1 p = none := st.ext.free hp
        exact q1 (.ref p) _ _ (st.trans (Stp.new st.ext st.ok st.boxf hp)) (.tup upd_same hz (upd_has hp1 hl))
      · exact q1.elim
    · exact q1.elim
theorem r_lst (hs : PA X es (tA g fs)) : PE X (.List es pos) (tE g (eLst fs)) :=
  (pe_lst hs).imp fun σ H Q ⟨β, H0, ρ, rr, q⟩ => tA_then rr q fun as vs H1 H2 st hv q1 => by
    split at q1
    · next ds e =>
      split at q1
      · next hz =>
        have hl := hv.ds (dsOf_some e)
        have hlen := hl.length
        refine ⟨lim_line (by omega), fun p hp => ?_⟩
        have hp1 : H1 p = none := st.ext.free hp
        exact q1 (.ref p) _ _ (st.trans (Stp.new st.ext st.ok st.boxf hp)) (.lst upd_same (upd_has hp1 hl))
      · exact q1.elim
    · exact q1.elim
/-- a built-in function, a built-in class, a module's function: by its name -/
def eCb (o : List Ar → T D) (fs : Env' → T (List Ar)) : Env' → T D := fun ρ => (fs ρ).bind o
theorem tCB_of {r : List V → Hp → VK → Prop} {o : List Ar → T D} (hd : CaD r o) {σ : L2.St} {H : Hp} {Q : VK} (q : tE g (eCb o fs) σ H Q) : tCB r (tA g fs) σ H Q := by
  obtain ⟨β, H0, ρ, rr, q⟩ := q
  exact tA_then rr q fun as vs H1 H2 st hv q1 => hd st.ext st.ok st.boxf hv (wp_out st q1)
theorem r_b {x : Str} {id : String} {p : Pos} {r : List V → Hp → VK → Prop} {o : List Ar → T D} (hc : CallR X (.builtin id) r) (hd : CaD r o) (hg : Gl X x) (hm : X.mg x = none) (hv : bootBuiltins x = some (.builtin id)) (ha : PA X (a :: es) (tA g fs))
    (hn : x ≠ "__name__" := by decide) (hdb : (x == ("__debug__" : Str)) = false := by decide)
    (he : starEach (a :: es) X.env = (false, eval a X.env) :: starEach es X.env := by rfl) (hpl : (backTo pos (starEach es X.env)).any (·.1) = false := by rfl) : PE X (.Call (.Name x p) (a :: es) [] pos) (tE g (eCb o fs)) :=
  (pe_callB hc hg hm hv ha hn hdb he hpl).imp fun _ _ _ q => tCB_of hd q
theorem r_bt {x : Str} {id : String} {p : Pos} {r : List V → Hp → VK → Prop} {o : List Ar → T D} (hc : CallR X (.type id) r) (hd : CaD r o) (hg : Gl X x) (hm : X.mg x = none) (hv : bootBuiltins x = some (.type id)) (ha : PA X (a :: es) (tA g fs))
    (hn : x ≠ "__name__" := by decide) (hdb : (x == ("__debug__" : Str)) = false := by decide)
    (he : starEach (a :: es) X.env = (false, eval a X.env) :: starEach es X.env := by rfl) (hpl : (backTo pos (starEach es X.env)).any (·.1) = false := by rfl) : PE X (.Call (.Name x p) (a :: es) [] pos) (tE g (eCb o fs)) :=
  (pe_callTy hc hg hm hv ha hn hdb he hpl).imp fun _ _ _ q => tCB_of hd q
/-! ### a def's promise in data, its call -/
/-- the def does m with its n arguments -/
def spD (cad : Cad) (n : Nat) (m : List Ar → T D) : Sp := fun vs H Q E => vs.length = n ∧ ∃ β H0 as, Same H0 H ∧ β.ok H ∧ (∀ a, β.S a → H0 a = none) ∧ TabsIn cad β ∧ HasAs β H0 vs as ∧
  (m as).wp (Out β H0 H Q) (fun x => ∀ c dx H0' H', Stp β H0 H H0' H' → ExcIs cad x c dx H0' → E c dx H')
def eCall (n : Nat) (m : List Ar → T D) (fs : Env' → T (List Ar)) : Env' → T D := fun ρ => (fs ρ).bind fun as => if as.length = n then m as else .bad
theorem tCallW_of {n : Nat} {m : List Ar → T D} {σ : L2.St} {H : Hp} {Q : VK} (q : tE g (eCall n m fs) σ H Q) : tCallW (spD g.cad n m) [] g.W (tA g fs) σ H Q := by
  obtain ⟨β, H0, ρ, rr, q⟩ := q
  refine tA_then rr q fun as vs H1 H2 st hv q1 => ?_
  by_cases hl : as.length = n
  · rw [if_pos hl] at q1
    have lv := hv.length
    rw [List.append_nil]
    exact ⟨lv.trans hl, β, H1, as, st.ext, st.ok, st.boxf, rr.tabs, hv, wp_out st q1⟩
  · rw [if_neg hl] at q1
    exact q1.elim
theorem r_call {x : Str} {p : Pos} {j n : Nat} {fa : Addr} {fd : FuncData} {ps : List Str} {m : List Ar → T D} (F : FnG X.prog X.w X.K X.mg X.base j fa fd ps (spD g.cad n m)) (hr : Room j X.A) (hgu : X.A.guards = some []) (hg : Gl X x) (hm : X.mg x = some (.ref fa))
    (hk : PySem.W.keepIn X.K (.ref fa) = true) (hb : Binds X.K fd ps []) (tk : Takes X g.W) (ha : PA X (a :: es) (tA g fs)) (hdb : (x == ("__debug__" : Str)) = false := by decide)
    (he : starEach (a :: es) X.env = (false, eval a X.env) :: starEach es X.env := by rfl) (hpl : (backTo pos (starEach es X.env)).any (·.1) = false := by rfl) : PE X (.Call (.Name x p) (a :: es) [] pos) (tE g (eCall n m fs)) :=
  (pe_callG F hr hgu hg hm hk hb .nil tk ha hdb he hpl).imp fun _ _ _ q => tCallW_of q
theorem r_call0 {x : Str} {p : Pos} {j n : Nat} {fa : Addr} {fd : FuncData} {ps : List Str} {m : List Ar → T D} (F : FnG X.prog X.w X.K X.mg X.base j fa fd ps (spD g.cad n m)) (hr : Room j X.A) (hgu : X.A.guards = some []) (hg : Gl X x) (hm : X.mg x = some (.ref fa))
    (hk : PySem.W.keepIn X.K (.ref fa) = true) (hb : Binds X.K fd ps []) (tk : Takes X g.W) (hdb : (x == ("__debug__" : Str)) = false := by decide) : PE X (.Call (.Name x p) [] [] pos) (tE g (eCall n m aNil)) :=
  (pe_callG0 F hr hgu hg hm hk hb .nil tk hdb).imp fun σ H Q ⟨β, H0, ρ, rr, q⟩ => by
    refine tCallW_of (fs := aNil) ⟨β, H0, ρ, rr, q⟩ |> fun z => ?_
    obtain ⟨β', H0', ρ', rr', z⟩ := z
    exact z [] H0' H rr'.refl .nil
/-! ### slices -/
def tO (g : Ct) (f : Env' → T (Option Int)) : TO := fun σ H Q => ∃ β H0 ρ, Rel g.cad β g.ξ H0 ρ σ H ∧ (f ρ).wp (fun o => ∀ H0' H', Stp β H0 H H0' H' → Q o H') (g.X β H0 H σ)
def pNone : Env' → T (Option Int) := fun _ => .ret none
def pSome (f : Env' → T D) : Env' → T (Option Int) := fun ρ => (f ρ).bind fun d => match d with
  | .int i => .ret (some i)
  | _ => .bad
theorem p_none : PO X none (tO g pNone) := po_none.imp fun _ _ _ ⟨_, H0, _, r, q⟩ => q H0 _ r.refl
theorem p_some (ha : PE X a (tE g f)) : PO X (some a) (tO g (pSome f)) := (po_some ha).imp fun σ H Q ⟨β, H0, ρ, rr, q⟩ => tE_then rr q fun d v H1 H2 st hv q1 => by
  cases hv with
  | int i => exact ⟨i, rfl, q1 H1 H2 st⟩
  | _ => exact q1.elim
def cutD (xs : List D) (lo hi : Option Int) : List D := (xs.drop (HT.sIx xs.length 0 lo)).take (HT.sIx xs.length xs.length hi - HT.sIx xs.length 0 lo)
theorem HasL.cut {H : Hp} {vs : List V} {ds : List D} (h : HasL H vs ds) (lo hi : Option Int) : HasL H (cutV vs lo hi) (cutD ds lo hi) := by
  unfold cutV cutD
  rw [h.length]
  exact (h.drop _).take _
def oSl (x : D) (lo hi : Option Int) : T D := match x with
  | .list xs => .ret (.list (cutD xs lo hi))
  | .tuple xs => .ret (.tuple (cutD xs lo hi))
  | _ => .bad
def eSl (f : Env' → T D) (l u : Env' → T (Option Int)) : Env' → T D := fun ρ => (f ρ).bind fun x => (l ρ).bind fun lo => (u ρ).bind fun hi => oSl x lo hi
variable {lo hi : Option Expr} {l u : Env' → T (Option Int)} {p2 : Pos}
theorem tO_then {α : Type} {β : Box} {H0 H : Hp} {σ : L2.St} {ρ : Env'} {ff : Env' → T (Option Int)} {kk : Option Int → T α} {P : α → Prop} {Q : Option Int → Hp → Prop} (r : Rel g.cad β g.ξ H0 ρ σ H) (h : ((ff ρ).bind kk).wp P (g.X β H0 H σ))
    (hq : ∀ o H0' H', Stp β H0 H H0' H' → (kk o).wp P (g.X β H0 H σ) → Q o H') : tO g ff σ H Q :=
  ⟨β, H0, ρ, r, T.wp_mono (fun d hd H0' H' st => hq d H0' H' st hd) (fun _ h => h) _ ((T.wp_bind _ _).mp h)⟩
theorem r_sl (ha : PE X a (tE g f)) (hl : PO X lo (tO g l)) (hu : PO X hi (tO g u)) : PE X (.Subscript a (.Slice lo hi none p2) pos) (tE g (eSl f l u)) :=
  (pe_slice (SlR.or sl_list sl_tupS) ha hl hu).imp fun σ H Q ⟨β, H0, ρ, rr, q⟩ => tE_then rr q fun d v H1 H2 st hv q1 => by
    have rr1 := rr.step st
    refine tO_then rr1 (wp_out st q1) fun o1 H3 H4 st2 q2 => ?_
    have rr2 := rr1.step st2
    refine tO_then rr2 (wp_out st2 q2) fun o2 H5 H6 st3 q3 => ?_
    have q4 := wp_out st3 q3
    have hv' := (hv.mono st2.grow).mono st3.grow
    cases hv' with
    | lst h1 h2 =>
      refine .inl ⟨_, _, rfl, SqL.of (st3.ext _ _ h1), fun p hp => ?_⟩
      have hp1 : H5 p = none := st3.ext.free hp
      exact q4 (.ref p) _ _ (Stp.new st3.ext st3.ok st3.boxf hp) (.lst upd_same (upd_has hp1 (h2.cut _ _)))
    | @tup a ob xs ds h1 hdn h2 =>
      refine .inr ⟨_, _, rfl, sqF (st3.ext _ _ h1), fun hw => ?_, fun hw p o hp hz => ?_⟩
      · have ec : cutD ds o1 o2 = ds := by
          unfold cutD
          rw [← h2.length, hw.1, hw.2]
          simp [h2.length]
        have q5 : (T.ret (PyData.tuple ds)).wp (Out β H5 H6 Q) (g.X β H5 H6 σ) := by
          have z : (T.ret (PyData.tuple (cutD ds o1 o2))).wp (Out β H5 H6 Q) (g.X β H5 H6 σ) := q4
          rw [ec] at z
          exact z
        exact q5 (.ref a) H5 H6 (Stp.refl st3.ext st3.ok st3.boxf) (.tup h1 hdn h2)
      · have hp1 : H5 p = none := st3.ext.free hp
        exact q4 (.ref p) _ _ (Stp.new st3.ext st3.ok st3.boxf hp) (.tup upd_same hz (upd_has hp1 (h2.cut _ _)))
    | _ => exact q4.elim
end
end Wb
set_option Elab.async false
set_option linter.all false
set_option maxRecDepth 100000
set_option maxHeartbeats 4000000
/-! Wb, part 3: the operations on data. -/
namespace Wb
open PySem PySem.Spec PyProof.Rows L2
theorem opOr {X : Cx} {f : Value → Value → Sem Value} {r r' : R2} (h : OpR X f r) (h' : OpR X f r') : OpR X f (fun x y H Q => r x y H Q ∨ r' x y H Q) := by
  intro pins s σ H x y v u Q I rx ry q
  cases q with
  | inl q => exact h pins s σ H x y v u Q I rx ry q
  | inr q => exact h' pins s σ H x y v u Q I rx ry q
section
variable {β : Box} {H0 H : Hp} {Q : VK} {E : Exn → Prop}
theorem out_ret {v : V} {d : D} (e : Same H0 H) (ok : β.ok H) (bf : ∀ a, β.S a → H0 a = none) (hv : Has H0 v d) (q : (T.ret d).wp (Out β H0 H Q) E) : Q v H := q v H0 H (Stp.refl e ok bf) hv
theorem out_lst {p : Addr} {vs : List V} {ds : List D} (e : Same H0 H) (ok : β.ok H) (bf : ∀ a, β.S a → H0 a = none) (hp : H p = none) (hv : HasL H0 vs ds) (q : (T.ret (PyData.list ds)).wp (Out β H0 H Q) E) : Q (.ref p) (upd H p (.lst vs)) :=
  q (.ref p) _ _ (Stp.new e ok bf hp) (.lst upd_same (upd_has (e.free hp) hv))
theorem out_tup {p : Addr} {o : Obj} {vs : List V} {ds : List D} (e : Same H0 H) (ok : β.ok H) (bf : ∀ a, β.S a → H0 a = none) (hp : H p = none) (hz : o.dict = none) (hv : HasL H0 vs ds) (q : (T.ret (PyData.tuple ds)).wp (Out β H0 H Q) E) : Q (.ref p) (upd H p (.frz o (.tup vs))) :=
  q (.ref p) _ _ (Stp.new e ok bf hp) (.tup upd_same hz (upd_has (e.free hp) hv))
end
/-! ### + - * // % ** -/
def oAdd : D → D → T D
  | .int i, .int j => .ret (.int (i + j))
  | .str x, .str y => if x.length + y.length ≤ 1000000 then .ret (.str (x ++ y)) else .bad
  | .tuple xs, .tuple ys => if xs.length + ys.length ≤ 1000000 then .ret (.tuple (xs ++ ys)) else .bad
  | .list xs, .list ys => if xs.length + ys.length ≤ 1000000 then .ret (.list (xs ++ ys)) else .bad
  | _, _ => .bad
def rAddD (K : PySem.W.Frag) : R2 := fun x y H Q => rI0 (fun i j => .int (i + j)) x y H Q ∨ (∃ i j, x = .str i ∧ y = .str j ∧ i.length + j.length ≤ sizeLine ∧ Q (.str (i ++ j)) H) ∨ rCatST K x y H Q ∨ rCat x y H Q
theorem op_addD {X : Cx} : OpR X (binaryOp .Add) (rAddD X.K) := opOr op_add (opOr op_add_str (opOr op_catS op_cat))
theorem d_add {K : PySem.W.Frag} : OpD (rAddD K) oAdd := by
  intro β H0 H v w x y Q E e ok bf hv hw q
  cases hv with
  | int i =>
    cases hw with
    | int j => exact .inl ⟨i, j, rfl, rfl, out_ret e ok bf (.int _) q⟩
    | _ => exact q.elim
  | str a =>
    cases hw with
    | str b =>
      have q : (if a.length + b.length ≤ 1000000 then T.ret (PyData.str (a ++ b)) else .bad).wp (Out β H0 H Q) E := q
      by_cases z : a.length + b.length ≤ 1000000
      · rw [if_pos z] at q
        exact .inr (.inl ⟨a, b, rfl, rfl, lim_line z, out_ret e ok bf (.str _) q⟩)
      · rw [if_neg z] at q
        exact q.elim
    | _ => exact q.elim
  | @tup a ob xs ds h1 hdn h2 =>
    cases hw with
    | @tup b ob' ys es h3 hdm h4 =>
      have q : (if ds.length + es.length ≤ 1000000 then T.ret (PyData.tuple (ds ++ es)) else .bad).wp (Out β H0 H Q) E := q
      by_cases z : ds.length + es.length ≤ 1000000
      · rw [if_pos z] at q
        have l1 := h2.length
        have l2 := h4.length
        refine .inr (.inr (.inl ⟨a, b, xs, ys, rfl, rfl, sqF (e _ _ h1), sqF (e _ _ h3), lim_line (by omega), fun ex => ?_, fun _ ey => ?_, fun _ _ p o hp hz => ?_⟩))
        · subst ex
          cases h2
          exact out_ret e ok bf (.tup h3 hdm h4) q
        · subst ey
          cases h4
          rw [List.append_nil] at q
          exact out_ret e ok bf (.tup h1 hdn h2) q
        · exact out_tup e ok bf hp hz (h2.append h4) q
      · rw [if_neg z] at q
        exact q.elim
    | _ => exact q.elim
  | @lst a xs ds h1 h2 =>
    cases hw with
    | @lst b ys es h3 h4 =>
      have q : (if ds.length + es.length ≤ 1000000 then T.ret (PyData.list (ds ++ es)) else .bad).wp (Out β H0 H Q) E := q
      by_cases z : ds.length + es.length ≤ 1000000
      · rw [if_pos z] at q
        have l1 := h2.length
        have l2 := h4.length
        exact .inr (.inr (.inr ⟨a, b, xs, ys, rfl, rfl, e _ _ h1, e _ _ h3, lim_line (by omega), fun p hp => out_lst e ok bf hp (h2.append h4) q⟩))
      · rw [if_neg z] at q
        exact q.elim
    | _ => exact q.elim
  | _ => exact q.elim
def oInt2 (C : Int → Int → Bool) (h : Int → Int → D) : D → D → T D
  | .int i, .int j => if C i j = true then .ret (h i j) else .bad
  | _, _ => .bad
theorem d_int2 {r : R2} {C : Int → Int → Bool} {h : Int → Int → D} (hr : ∀ (i j : Int) (H : Hp) (Q : VK) (v : V), C i j = true → (∀ H0, Has H0 v (h i j)) → Q v H → r (.int i) (.int j) H Q) (hv' : ∀ i j, ∃ v, ∀ H0, Has H0 v (h i j)) : OpD r (oInt2 C h) := by
  intro β H0 H v w x y Q E e ok bf hv hw q
  cases hv with
  | int i =>
    cases hw with
    | int j =>
      have q : (if C i j = true then T.ret (h i j) else .bad).wp (Out β H0 H Q) E := q
      by_cases z : C i j = true
      · rw [if_pos z] at q
        obtain ⟨u, hu⟩ := hv' i j
        exact hr i j H Q u z hu (out_ret e ok bf (hu H0) q)
      · rw [if_neg z] at q
        exact q.elim
    | _ => exact q.elim
  | _ => exact q.elim
abbrev oSub := oInt2 (fun _ _ => true) (fun i j => .int (i - j))
theorem has_int_eq {v : V} {i : Int} (h : ∀ H0, Has H0 v (.int i)) : v = .int i := by
  cases h (fun _ => none)
  rfl
theorem has_bl_eq {v : V} {b : Bool} (h : ∀ H0, Has H0 v (.bool b)) : v = .bl b := by
  cases h (fun _ => none)
  rfl
theorem d_sub : OpD (rI0 fun i j => .int (i - j)) oSub := d_int2 (fun i j H Q v _ hv q => by
  rw [has_int_eq hv] at q
  exact ⟨i, j, rfl, rfl, q⟩) fun i j => ⟨.int _, fun _ => .int _⟩
/-- a factor below 2 ^ 64, or both together below a million bits; also a tuple, a list so many times -/
def cMul (i j : Int) : Bool := decide (i.natAbs < 18446744073709551616) || decide (j.natAbs < 18446744073709551616) || decide (i.natAbs.log2 + j.natAbs.log2 < 1000000)
def oMul : D → D → T D
  | .int i, .int j => if cMul i j = true then .ret (.int (i * j)) else .bad
  | .tuple xs, .int k => if xs ≠ [] ∧ 2 ≤ k ∧ k ≤ 1000 ∧ xs.length ≤ 1000 then .ret (.tuple (List.replicate k.toNat xs).flatten) else .bad
  | .list xs, .int k => if 0 ≤ k ∧ k ≤ 1000 ∧ xs.length ≤ 1000 then .ret (.list (List.replicate k.toNat xs).flatten) else .bad
  | _, _ => .bad
def rMulD (K : PySem.W.Frag) : R2 := fun x y H Q => rI CMul (fun i j => .int (i * j)) x y H Q ∨ rI CMulW (fun i j => .int (i * j)) x y H Q ∨ rRepST K x y H Q ∨ rRep x y H Q
theorem op_mulD {X : Cx} : OpR X (binaryOp .Mult) (rMulD X.K) := opOr op_mul (opOr op_mulW (opOr op_repST op_rep))
theorem HasL.rep {H : Hp} {vs : List V} {ds : List D} (h : HasL H vs ds) : ∀ n : Nat, HasL H (List.replicate n vs).flatten (List.replicate n ds).flatten
  | 0 => .nil
  | n + 1 => by
    rw [List.replicate_succ, List.replicate_succ, List.flatten_cons, List.flatten_cons]
    exact h.append (HasL.rep h n)
theorem natAbs_small {i : Int} (h : i.natAbs < 18446744073709551616) : -(2 ^ 64) < i ∧ i < 2 ^ 64 := by
  constructor <;> omega
theorem cMul_int {i j : Int} (h : cMul i j = true) : CMul i j ∨ CMulW i j := by
  unfold cMul at h
  simp only [Bool.or_eq_true, decide_eq_true_eq] at h
  rcases h with (h | h) | h
  · exact .inl (.inl (natAbs_small h))
  · exact .inl (.inr (natAbs_small h))
  · exact .inr h
theorem d_mul {K : PySem.W.Frag} : OpD (rMulD K) oMul := by
  intro β H0 H v w x y Q E e ok bf hv hw q
  cases hv with
  | int i =>
    cases hw with
    | int j =>
      have q : (if cMul i j = true then T.ret (PyData.int (i * j)) else .bad).wp (Out β H0 H Q) E := q
      by_cases z : cMul i j = true
      · rw [if_pos z] at q
        rcases cMul_int z with c | c
        · exact .inl ⟨i, j, rfl, rfl, c, out_ret e ok bf (.int _) q⟩
        · exact .inr (.inl ⟨i, j, rfl, rfl, c, out_ret e ok bf (.int _) q⟩)
      · rw [if_neg z] at q
        exact q.elim
    | _ => exact q.elim
  | @tup a ob xs ds h1 hdn h2 =>
    cases hw with
    | int k =>
      have q : (if ds ≠ [] ∧ 2 ≤ k ∧ k ≤ 1000 ∧ ds.length ≤ 1000 then T.ret (PyData.tuple (List.replicate k.toNat ds).flatten) else .bad).wp (Out β H0 H Q) E := q
      by_cases z : ds ≠ [] ∧ 2 ≤ k ∧ k ≤ 1000 ∧ ds.length ≤ 1000
      · rw [if_pos z] at q
        have l1 := h2.length
        have ne : xs ≠ [] := fun c => by
          subst c
          cases h2
          exact z.1 rfl
        exact .inr (.inr (.inl ⟨a, k, xs, rfl, rfl, sqF (e _ _ h1), ne, z.2.1, z.2.2.1, by omega, fun p o hp hz => out_tup e ok bf hp hz (h2.rep _) q⟩))
      · rw [if_neg z] at q
        exact q.elim
    | _ => exact q.elim
  | @lst a xs ds h1 h2 =>
    cases hw with
    | int k =>
      have q : (if 0 ≤ k ∧ k ≤ 1000 ∧ ds.length ≤ 1000 then T.ret (PyData.list (List.replicate k.toNat ds).flatten) else .bad).wp (Out β H0 H Q) E := q
      by_cases z : 0 ≤ k ∧ k ≤ 1000 ∧ ds.length ≤ 1000
      · rw [if_pos z] at q
        have l1 := h2.length
        have hk : xs.length * k.toNat ≤ 1000 * 1000 := Nat.mul_le_mul (by omega) (by omega)
        refine .inr (.inr (.inr ⟨a, k, xs, rfl, rfl, e _ _ h1, by omega, by omega, lim_line (by omega), fun p hp => ?_⟩))
        exact out_lst e ok bf hp (h2.rep _) q
      · rw [if_neg z] at q
        exact q.elim
    | _ => exact q.elim
  | _ => exact q.elim
def rFdivD : R2 := fun x y H Q => rI CDivN (fun i j => .int (i.fdiv j)) x y H Q ∨ rI CDivW (fun i j => .int (i / j)) x y H Q
theorem op_fdivD {X : Cx} : OpR X (binaryOp .FloorDiv) rFdivD := opOr op_fdivN op_fdivW
abbrev oPow := oInt2 (fun i j => decide (0 ≤ j) && decide (j ≤ 1000) && decide (i.natAbs < 1000)) (fun i j => .int (i ^ j.toNat))
theorem d_pow : OpD (rI CPow fun i j => .int (i ^ j.toNat)) oPow := d_int2 (fun i j H Q v c hv q => by
  rw [has_int_eq hv] at q
  simp only [Bool.and_eq_true, decide_eq_true_eq] at c
  exact ⟨i, j, rfl, rfl, ⟨c.1.1, by omega, by omega⟩, q⟩) fun i j => ⟨.int _, fun _ => .int _⟩
def oNeg : D → T D
  | .int i => .ret (.int (-i))
  | _ => .bad
theorem d_neg : UnD (rU fun i => .int (-i)) oNeg := by
  intro β H0 H v x Q E e ok bf hv q
  cases hv with
  | int i => exact ⟨i, rfl, out_ret e ok bf (.int _) q⟩
  | _ => exact q.elim
/-! ### comparisons -/
abbrev oCmp (c : Int → Int → Bool) := oInt2 (fun _ _ => true) (fun i j => .bool (c i j))
theorem d_cmp {c : Int → Int → Bool} : OpD (rI0 fun i j => .bl (c i j)) (oCmp c) := d_int2 (fun i j H Q v _ hv q => by
  rw [has_bl_eq hv] at q
  exact ⟨i, j, rfl, rfl, q⟩) fun i j => ⟨.bl _, fun _ => .bl _⟩
theorem u_cmp {c : Int → Int → Bool} : PuD (rI0 fun i j => .bl (c i j)) (oCmp c) := by
  intro H0 H v w x y α Q P E k e hv hw q h1 h2
  cases hv with
  | int i =>
    cases hw with
    | int j => exact ⟨i, j, rfl, rfl, h1 _ _ rfl q⟩
    | _ => exact q.elim
  | _ => exact q.elim
abbrev oLt := oCmp fun i j => decide (i < j)
abbrev oLe := oCmp fun i j => decide (i ≤ j)
mutual
theorem Has.dp {K : PySem.W.Frag} {H0 H : Hp} (e : Same H0 H) : ∀ {v : V} {d : D}, Has H0 v d → d.hasDict = false → Dp K H v d
  | _, _, .non, _ => .non
  | _, _, .bl b, _ => .bl b
  | _, _, .int i, _ => .int i
  | _, _, .str x, _ => .str x
  | _, _, .lst h r, n => .lst (SqL.of (e _ _ h)) (HasL.dp e r n)
  | _, _, .tup h _ r, n => .tup (sqF (e _ _ h)) (HasL.dp e r n)
  | _, _, .dct h r, n => by cases n
theorem HasL.dp {K : PySem.W.Frag} {H0 H : Hp} (e : Same H0 H) : ∀ {v : List V} {d : List D}, HasL H0 v d → PyData.hasDictAll d = false → DpAll K H v d
  | _, _, .nil, _ => .nil
  | _, _, .cons h r, n => by
    unfold PyData.hasDictAll at n
    rw [Bool.or_eq_false_iff] at n
    exact .cons (Has.dp e h n.1) (HasL.dp e r n.2)
end
def cEq (x : D) : Bool := !x.hasDict && SeqAt.shaped x
def twoStr : D → D → Bool
  | .str _, .str _ => true
  | _, _ => false
def oEq (x y : D) : T D := if (twoStr x y || (cEq x && cEq y)) = true then .ret (.bool (PyData.eqv x y)) else .bad
def oNe (x y : D) : T D := if (twoStr x y || (cEq x && cEq y)) = true then .ret (.bool (!PyData.eqv x y)) else .bad
theorem op_eqW {X : Cx} (hu : X.A.units + 64 < cLine) : OpR X (compareOp .Eq) (fun x y H Q => rEq x y H Q ∨ rEqD X.K x y H Q) := opOr op_eq (op_eqD hu)
theorem op_neW {X : Cx} (hu : X.A.units + 64 < cLine) : OpR X (compareOp .NotEq) (fun x y H Q => rNe x y H Q ∨ rNeD X.K x y H Q) := opOr op_ne (op_neD hu)
theorem cEq_of {x : D} (h : cEq x = true) : x.hasDict = false ∧ SeqAt.shaped x = true := by
  unfold cEq at h
  rw [Bool.and_eq_true] at h
  exact ⟨by simpa using h.1, h.2⟩
theorem d_eq {K : PySem.W.Frag} : OpD (fun x y H Q => rEq x y H Q ∨ rEqD K x y H Q) oEq := by
  intro β H0 H v w x y Q E e ok bf hv hw q
  unfold oEq at q
  split at q
  · next c =>
    rw [Bool.or_eq_true] at c
    rcases c with c | c
    · cases hv with
      | str a =>
        cases hw with
        | str b =>
          refine .inl ⟨rfl, ?_⟩
          rw [dec_str]
          exact out_ret e ok bf (.bl _) q
        | _ => cases c
      | _ => cases c
    · rw [Bool.and_eq_true] at c
      obtain ⟨a1, a2⟩ := cEq_of c.1
      obtain ⟨b1, b2⟩ := cEq_of c.2
      exact .inr ⟨x, y, hv.dp e a1, hw.dp e b1, a2, b2, out_ret e ok bf (.bl _) q⟩
  · exact q.elim
theorem d_ne {K : PySem.W.Frag} : OpD (fun x y H Q => rNe x y H Q ∨ rNeD K x y H Q) oNe := by
  intro β H0 H v w x y Q E e ok bf hv hw q
  unfold oNe at q
  split at q
  · next c =>
    rw [Bool.or_eq_true] at c
    rcases c with c | c
    · cases hv with
      | str a =>
        cases hw with
        | str b =>
          refine .inl ⟨rfl, ?_⟩
          rw [dec_str]
          exact out_ret e ok bf (.bl _) q
        | _ => cases c
      | _ => cases c
    · rw [Bool.and_eq_true] at c
      obtain ⟨a1, a2⟩ := cEq_of c.1
      obtain ⟨b1, b2⟩ := cEq_of c.2
      exact .inr ⟨x, y, hv.dp e a1, hw.dp e b1, a2, b2, out_ret e ok bf (.bl _) q⟩
  · exact q.elim
/-- is None -/
def oIsN (x y : D) : T D := match y with
  | .none => .ret (.bool (match x with | .none => true | _ => false))
  | _ => .bad
def oNotN (x y : D) : T D := match y with
  | .none => .ret (.bool (match x with | .none => false | _ => true))
  | _ => .bad
theorem d_isN : OpD (fun x y H Q => y = .non ∧ Q (.bl (decide (x = .non))) H) oIsN := by
  intro β H0 H v w x y Q E e ok bf hv hw q
  cases hw with
  | non =>
    refine ⟨rfl, ?_⟩
    cases hv <;> exact out_ret e ok bf (.bl _) q
  | _ => exact q.elim
theorem d_notN : OpD (fun x y H Q => y = .non ∧ Q (.bl (!decide (x = .non))) H) oNotN := by
  intro β H0 H v w x y Q E e ok bf hv hw q
  cases hw with
  | non =>
    refine ⟨rfl, ?_⟩
    cases hv <;> exact out_ret e ok bf (.bl _) q
  | _ => exact q.elim
/-! ### items -/
def oIx : D → D → T D
  | .list xs, .int i => match atI xs i with
    | some d => .ret d
    | none => .bad
  | .tuple xs, .int i => match atI xs i with
    | some d => .ret d
    | none => .bad
  | _, _ => .bad
theorem atI_has {H : Hp} {vs : List V} {ds : List D} {i : Int} {d : D} (h : HasL H vs ds) (e : atI ds i = some d) : ∃ v, atI vs i = some v ∧ Has H v d := by
  unfold atI at e ⊢
  rw [h.length]
  cases q : ixN ds.length i with
  | none =>
    rw [q] at e
    cases e
  | some j =>
    rw [q] at e
    exact h.getD e
theorem d_ix {K : PySem.W.Frag} : OpD (rIx K) oIx := by
  intro β H0 H v w x y Q E e ok bf hv hw q
  cases hv with
  | lst h1 h2 =>
    cases hw with
    | int i =>
      unfold oIx at q
      simp only at q
      split at q
      · next d hd =>
        obtain ⟨u, hu, hh⟩ := atI_has h2 hd
        exact .inl ⟨_, _, i, u, rfl, rfl, SqL.of (e _ _ h1), hu, out_ret e ok bf hh q⟩
      · exact q.elim
    | _ => exact q.elim
  | tup h1 hdn h2 =>
    cases hw with
    | int i =>
      unfold oIx at q
      simp only at q
      split at q
      · next d hd =>
        obtain ⟨u, hu, hh⟩ := atI_has h2 hd
        exact .inr (.inl ⟨_, _, i, u, rfl, rfl, sqF (e _ _ h1), hu, out_ret e ok bf hh q⟩)
      · exact q.elim
    | _ => exact q.elim
  | _ => exact q.elim
/-! ### built-in calls -/
def oLen : List Ar → T D
  | [.d (.list xs)] => .ret (.int xs.length)
  | [.d (.tuple xs)] => .ret (.int xs.length)
  | _ => .bad
theorem d_len {K : PySem.W.Frag} : CaD (fun xs H Q => ∃ p ys, xs = [.ref p] ∧ (SqL K H p ys ∨ SqT K H p ys) ∧ Q (.int ys.length) H) oLen := by
  intro β H0 H vs as Q E e ok bf hv q
  cases hv with
  | nil => exact q.elim
  | @cons v vs a as h1 h2 =>
    cases a with
    | box _ => exact q.elim
    | mil => exact q.elim
    | d x =>
      cases h2 with
      | cons _ _ =>
        cases x <;> exact q.elim
      | nil =>
        cases (show Has H0 v x from h1) with
        | lst a1 a2 =>
          refine ⟨_, _, rfl, .inl (SqL.of (e _ _ a1)), ?_⟩
          rw [a2.length]
          exact out_ret e ok bf (.int _) q
        | tup a1 hdn a2 =>
          refine ⟨_, _, rfl, .inr (sqF (e _ _ a1)), ?_⟩
          rw [a2.length]
          exact out_ret e ok bf (.int _) q
        | _ => exact q.elim
/-- one argument of data -/
def o1 (o : D → T D) : List Ar → T D
  | [.d x] => o x
  | _ => .bad
def o2 (o : D → D → T D) : List Ar → T D
  | [.d x, .d y] => o x y
  | _ => .bad
theorem d_1 {r : List V → Hp → VK → Prop} {o : D → T D} (h : UnD (fun v H Q => r [v] H Q) o) : CaD r (o1 o) := by
  intro β H0 H vs as Q E e ok bf hv q
  cases hv with
  | nil => exact q.elim
  | @cons v vs a as h1 h2 =>
    cases a with
    | box _ =>
      cases h2 <;> exact q.elim
    | mil =>
      cases h2 <;> exact q.elim
    | d x =>
      cases h2 with
      | cons _ _ => exact q.elim
      | nil => exact h e ok bf h1 q
def oAbs : D → T D
  | .int i => .ret (.int (if i < 0 then -i else i))
  | _ => .bad
def oInt : D → T D
  | .int i => .ret (.int i)
  | .bool b => .ret (.int (if b then 1 else 0))
  | _ => .bad
/-- a list of ints -/
def intsOf : List D → Option (List Int)
  | [] => some []
  | .int i :: r => (intsOf r).map (i :: ·)
  | _ :: _ => none
@[simp] theorem intsOf_map : ∀ ns : List Int, intsOf (ns.map PyData.int) = some ns
  | [] => rfl
  | n :: ns => by
    rw [List.map_cons]
    show (intsOf (ns.map PyData.int)).map (n :: ·) = _
    rw [intsOf_map ns]
    rfl
def oSum : D → T D
  | .list ds => match intsOf ds with
    | some ns => .ret (.int ns.sum)
    | none => .bad
  | _ => .bad
def oTupleOf : D → T D
  | .list ds => .ret (.tuple ds)
  | .tuple ds => .ret (.tuple ds)
  | _ => .bad
theorem d_tuple {K : PySem.W.Frag} : CaD (fun xs H Q => ∃ p ys, xs = [.ref p] ∧ ((SqL K H p ys ∧ QT Q H ys) ∨ (SqT K H p ys ∧ Q (.ref p) H))) (o1 oTupleOf) := by
  apply d_1
  intro β H0 H v x Q E e ok bf hv q
  cases hv with
  | lst h1 h2 => exact ⟨_, _, rfl, .inl ⟨SqL.of (e _ _ h1), fun p o hp hz => out_tup e ok bf hp hz h2 q⟩⟩
  | tup h1 hdn h2 => exact ⟨_, _, rfl, .inr ⟨sqF (e _ _ h1), out_ret e ok bf (.tup h1 hdn h2) q⟩⟩
  | _ => exact q.elim
def oListOf : D → T D
  | .list ds => .ret (.list ds)
  | .tuple ds => .ret (.list ds)
  | _ => .bad
def boolsOf : List D → Option (List Bool)
  | [] => some []
  | .bool i :: r => (boolsOf r).map (i :: ·)
  | _ :: _ => none
theorem boolsOf_some : ∀ {ds : List D} {ns : List Bool}, boolsOf ds = some ns → ds = ns.map PyData.bool
  | [], ns, h => by
    cases h
    rfl
  | .bool i :: r, ns, h => by
    unfold boolsOf at h
    cases q : boolsOf r with
    | none =>
      rw [q] at h
      cases h
    | some es =>
      rw [q] at h
      cases h
      rw [boolsOf_some q]
      rfl
  | .none :: _, _, h => by cases h
  | .int _ :: _, _, h => by cases h
  | .str _ :: _, _, h => by cases h
  | .list _ :: _, _, h => by cases h
  | .tuple _ :: _, _, h => by cases h
  | .dict _ :: _, _, h => by cases h
@[simp] theorem boolsOf_map : ∀ ns : List Bool, boolsOf (ns.map PyData.bool) = some ns
  | [] => rfl
  | n :: ns => by
    rw [List.map_cons]
    show (boolsOf (ns.map PyData.bool)).map (n :: ·) = _
    rw [boolsOf_map ns]
    rfl
theorem HasL.bools_eq {H : Hp} : ∀ {vs : List V} {ns : List Bool}, HasL H vs (ns.map PyData.bool) → vs = ns.map V.bl
  | _, [], .nil => rfl
  | _, n :: ns, h => by
    rw [List.map_cons] at h
    cases h with
    | cons h1 h2 =>
      cases h1
      rw [HasL.bools_eq h2]
      rfl
def oAll : D → T D
  | .list ds => match boolsOf ds with
    | some bs => .ret (.bool (bs.all id))
    | none => .bad
  | _ => .bad
theorem d_all {K : PySem.W.Frag} : CaD (rAll K) (o1 oAll) := by
  apply d_1
  intro β H0 H v x Q E e ok bf hv q
  cases hv with
  | lst h1 h2 =>
    unfold oAll at q
    simp only at q
    split at q
    · next ns hn =>
      rw [boolsOf_some hn] at h2
      rw [h2.bools_eq] at h1
      exact ⟨_, ns, rfl, SqL.of (e _ _ h1), out_ret e ok bf (.bl _) q⟩
    · exact q.elim
  | _ => exact q.elim
/-! ### isinstance(x, T) -/
def tyD : D → String
  | .none => "NoneType"
  | .bool _ => "bool"
  | .int _ => "int"
  | .str _ => "str"
  | .list _ => "list"
  | .tuple _ => "tuple"
  | .dict _ => "dict"
/-- isinstance of data: bool is int too -/
def isaD (n : String) (d : D) : Bool := tyD d == n || (n == "int" && tyD d == "bool")
theorem Has.ty {K : PySem.W.Frag} {H0 H : Hp} {v : V} {d : D} (e : Same H0 H) (h : Has H0 v d) : TyX K H v (.type (tyD d)) := by
  cases h with
  | non => exact .base .non
  | bl b => exact .base (.bl b)
  | int i => exact .base (.int i)
  | str x => exact .base (.str x)
  | lst a b => exact .base (.lst (e _ _ a))
  | tup a hdn b => exact .fTuple (e _ _ a)
  | dct a b => exact .base (.dK (e _ _ a))
end Wb
set_option Elab.async false
set_option linter.all false
set_option maxRecDepth 100000
set_option maxHeartbeats 4000000
/-! Wb, part 4: what is walked, targets, comprehensions. -/
namespace Wb
open PySem PySem.Spec PyProof.Rows L2 RZ
/-- an iterator that gives these data -/
def Gives (J : It) (ds : List D) (H0 : Hp) : Prop := ∃ (G : Hp → Prop) (Y : Nat → Hp → V → Hp → Prop), Walk J ds.length G Y ∧ (∀ H1, Same H0 H1 → G H1) ∧
  ∀ (i : Nat) (H1 : Hp) (x : V) (H2 : Hp) (d : D) (H0' : Hp), ds[i]? = some d → Same H0 H0' → Same H0' H1 → Y i H1 x H2 →
    (H2 = H1 ∧ Has H0' x d) ∨ ∃ tp o vs es, x = .ref tp ∧ H1 tp = none ∧ o.dict = none ∧ H2 = upd H1 tp (.frz o (.tup vs)) ∧ d = .tuple es ∧ HasL H0' vs es
def tI (g : Ct) (f : Env' → T (List D)) : TI := fun σ H R => ∃ β H0 ρ, Rel g.cad β g.ξ H0 ρ σ H ∧
  (f ρ).wp (fun ds => ∀ J H0' H', Stp β H0 H H0' H' → Gives J ds H0' → R J H') (g.X β H0 H σ)
theorem _root_.L2.PI.imp {X : Cx} {tg e : Expr} {t t' : TI} (h : PI X tg e t) (i : ∀ σ H Q, t' σ H Q → t σ H Q) : PI X tg e t' := ⟨fun pins s σ H Q I q => h.run pins s σ H Q I (i _ _ _ q)⟩
theorem _root_.L2.PG.imp {X : Cx} {e : Expr} {t t' : TG} (h : PG X e t) (i : ∀ v σ H Q, t' v σ H Q → t v σ H Q) : PG X e t' := ⟨fun pins s σ H v u Q I r q => h.run pins s σ H v u Q I r (i _ _ _ _ q)⟩
theorem _root_.L2.PS.imp {X : Cx} {e : Stmt} {t t' : TS} (h : PS X e t) (i : ∀ D σ H, t' D σ H → t D σ H) : PS X e t' := ⟨fun pins s σ H D I q => h.run pins s σ H D I (i _ _ _ q)⟩
theorem _root_.L2.PSs.imp {X : Cx} {e : List Stmt} {t t' : TS} (h : PSs X e t) (i : ∀ D σ H, t' D σ H → t D σ H) : PSs X e t' := ⟨fun pins s σ H D I q => h.run pins s σ H D I (i _ _ _ q)⟩
theorem gives_list {K : PySem.W.Frag} {H0 : Hp} {a : Addr} {vs : List V} {ds : List D} (h : H0 a = some (.lst vs)) (hl : HasL H0 vs ds) : Gives (Itl K a) ds H0 := by
  refine ⟨fun H => SqL K H a vs, YAt vs, by rw [← hl.length]; exact walk_list, fun H1 e => SqL.of (e _ _ h), fun i H1 x H2 d H0' hd e0 e1 y => .inl ⟨y.1, ?_⟩⟩
  obtain ⟨d', h1, h2⟩ := hl.get y.2
  rw [hd] at h1
  cases h1
  exact h2.mono e0
theorem gives_tup {K : PySem.W.Frag} {H0 : Hp} {a : Addr} {o : Obj} {vs : List V} {ds : List D} (h : H0 a = some (.frz o (.tup vs))) (hl : HasL H0 vs ds) : Gives (Itt K a) ds H0 := by
  refine ⟨fun H => SqT K H a vs, YAt vs, by rw [← hl.length]; exact walk_tup, fun H1 e => sqF (e _ _ h), fun i H1 x H2 d H0' hd e0 e1 y => .inl ⟨y.1, ?_⟩⟩
  obtain ⟨d', h1, h2⟩ := hl.get y.2
  rw [hd] at h1
  cases h1
  exact h2.mono e0
/-- lo, lo + 1, .. -/
def rangeD (lo : Int) (n : Nat) : List D := (List.range n).map fun i => .int (lo + (i : Nat))
theorem gives_range {H0 : Hp} {lo : Int} {n : Nat} : Gives (Itr lo n) (rangeD lo n) H0 := by
  have hl : (rangeD lo n).length = n := by simp [rangeD]
  refine ⟨fun _ => True, YFn fun i => .int (lo + i), by rw [hl]; exact walk_range, fun _ _ => trivial, fun i H1 x H2 d H0' hd _ _ y => .inl ⟨y.1, ?_⟩⟩
  have e : x = .int (lo + (i : Nat)) := y.2
  have hi : i < n := by
    have := (List.getElem?_eq_some_iff.mp hd).1
    omega
  have e2 : (rangeD lo n)[i]? = some (.int (lo + (i : Nat))) := by simp [rangeD, hi]
  rw [hd] at e2
  cases e2
  rw [e]
  exact .int _
section
variable {X : Cx} {g : Ct} {a b c : Expr} {f h k : Env' → T D} {pos : Pos} {tg : Expr} {es : List Expr} {fs : Env' → T (List Ar)}
/-- the items of a list or a tuple -/
def iSeq (f : Env' → T D) : Env' → T (List D) := fun ρ => (f ρ).bind fun d => match d with
  | .list ds => .ret ds
  | .tuple ds => .ret ds
  | _ => .bad
def iSeqV (K : PySem.W.Frag) (tl : TE) : TI := fun σ H R => tl σ H fun x H1 => ∃ a, x = .ref a ∧ (((∃ xs, SqL K H1 a xs) ∧ R (Itl K a) H1) ∨ ((∃ xs, SqT K H1 a xs) ∧ R (Itt K a) H1))
theorem pi_seqV {l : Expr} {tl : TE} (hl : PE X l tl) : PI X tg l (iSeqV X.K tl) := by
  constructor
  intro pins s σ H R I h
  refine thn (hl.run pins s σ H _ I h) ?_
  rintro v s1 ⟨x, H1, I1, r1, a, rfl, q1⟩
  cases r1
  have fresh : ∀ b ∈ [s1.heap.objs.size], FpOk X pins H1 b := by
    intro b hb
    rw [List.mem_singleton] at hb
    subst hb
    exact I1.fpOk (Nat.le_refl _) (I1.hok.fresh (Nat.le_refl _))
  rcases q1 with ⟨⟨xs, hq⟩, q⟩ | ⟨⟨xs, hq⟩, q⟩
  · obtain ⟨its, rv, p, hz⟩ := I1.list hq
    apply wpAny_pyIter_list p.isList
    have kept := I1.kept (t' := s1.toks) (h' := s1.heap.push { cls := .type "list_iterator", data := .fields #[.ref a, .int 0 0] })
    exact ⟨_, [s1.heap.objs.size], _, _, H1, rfl, I1.kept (t' := s1.toks) (fun b o z => Heap.get?_push_of_some _ z), turn_list a _,
      ⟨_, Heap.get?_push_size _ rfl, rfl, rfl⟩, fresh, q⟩
  · obtain ⟨its, rv, p, hz⟩ := I1.tuple hq
    apply wpAny_pyIter_tuple (show s1.heap.IsTuple a its.toArray from p)
    exact ⟨_, [s1.heap.objs.size], _, _, H1, rfl, I1.kept (t' := s1.toks) (fun b o z => Heap.get?_push_of_some _ z), turn_tuple a _,
      ⟨_, Heap.get?_push_size _ rfl, rfl, rfl⟩, fresh, q⟩
theorem i_seq (ha : PE X a (tE g f)) : PI X tg a (tI g (iSeq f)) := (pi_seqV ha).imp fun σ H R ⟨β, H0, ρ, rr, q⟩ => tE_then rr q fun d v H1 H2 st hv q1 => by
  cases hv with
  | lst h1 h2 => exact ⟨_, rfl, .inl ⟨⟨_, SqL.of (st.ext _ _ h1)⟩, q1 _ _ _ st (gives_list h1 h2)⟩⟩
  | tup h1 hdn h2 => exact ⟨_, rfl, .inr ⟨⟨_, sqF (st.ext _ _ h1)⟩, q1 _ _ _ st (gives_tup h1 h2)⟩⟩
  | _ => exact q1.elim
theorem HasAs.one {β : Box} {H0 : Hp} {vs : List V} {x : D} (h : HasAs β H0 vs [.d x]) : ∃ v, vs = [v] ∧ Has H0 v x := by
  cases h with
  | cons h1 h2 =>
    cases h2
    exact ⟨_, rfl, h1⟩
theorem HasAs.two {β : Box} {H0 : Hp} {vs : List V} {x y : D} (h : HasAs β H0 vs [.d x, .d y]) : ∃ v w, vs = [v, w] ∧ Has H0 v x ∧ Has H0 w y := by
  cases h with
  | cons h1 h2 =>
    cases h2 with
    | cons h3 h4 =>
      cases h4
      exact ⟨_, _, rfl, h1, h3⟩
theorem Has.int_eq {H0 : Hp} {v : V} {i : Int} (h : Has H0 v (.int i)) : v = .int i := by
  cases h
  rfl
def oRng1 : List Ar → T (List D)
  | [.d (.int n)] => if n.natAbs < 1000000000000 then .ret (rangeD 0 n.toNat) else .bad
  | _ => .bad
def oRng2 : List Ar → T (List D)
  | [.d (.int l), .d (.int n)] => if l.natAbs < 1000000000000 ∧ n.natAbs < 1000000000000 then .ret (rangeD l (n - l).toNat) else .bad
  | _ => .bad
def iArg (o : List Ar → T (List D)) (fs : Env' → T (List Ar)) : Env' → T (List D) := fun ρ => (fs ρ).bind o
theorem oRng1_cases {as : List Ar} {P : List D → Prop} {E : Exn → Prop} (h : (oRng1 as).wp P E) : ∃ n : Int, as = [.d (.int n)] ∧ n.natAbs < 1000000000000 ∧ P (rangeD 0 n.toNat) := by
  unfold oRng1 at h
  split at h
  · next n =>
    split at h
    · next c => exact ⟨n, rfl, c, h⟩
    · exact h.elim
  · exact h.elim
theorem oRng2_cases {as : List Ar} {P : List D → Prop} {E : Exn → Prop} (h : (oRng2 as).wp P E) :
    ∃ l n : Int, as = [.d (.int l), .d (.int n)] ∧ l.natAbs < 1000000000000 ∧ n.natAbs < 1000000000000 ∧ P (rangeD l (n - l).toNat) := by
  unfold oRng2 at h
  split at h
  · next l n =>
    split at h
    · next c => exact ⟨l, n, rfl, c.1, c.2, h⟩
    · exact h.elim
  · exact h.elim
theorem i_rng1 {p : Pos} (hg : Gl X "range") (hm : X.mg "range" = none) (ha : PA X [a] (tA g fs)) (hs : starEach [a] X.env = [(false, eval a X.env)] := by rfl) : PI X tg (.Call (.Name "range" p) [a] [] pos) (tI g (iArg oRng1 fs)) :=
  (pi_range1 hg hm ha hs).imp fun σ H R ⟨β, H0, ρ, rr, q⟩ => tA_then (k := oRng1) rr q fun as vs H1 H2 st hv q1 => by
    obtain ⟨n, e, c, hq⟩ := oRng1_cases q1
    subst e
    obtain ⟨v, rfl, hh⟩ := hv.one
    have ev := hh.int_eq
    subst ev
    exact ⟨n, rfl, by omega, by omega, hq _ H1 H2 st gives_range⟩
theorem i_rng2 {p : Pos} (hg : Gl X "range") (hm : X.mg "range" = none) (ha : PA X [a, b] (tA g fs)) (hs : starEach [a, b] X.env = [(false, eval a X.env), (false, eval b X.env)] := by rfl) (hs2 : starEach [b] X.env = [(false, eval b X.env)] := by rfl) :
    PI X tg (.Call (.Name "range" p) [a, b] [] pos) (tI g (iArg oRng2 fs)) :=
  (pi_range2 hg hm ha hs hs2).imp fun σ H R ⟨β, H0, ρ, rr, q⟩ => tA_then (k := oRng2) rr q fun as vs H1 H2 st hv q1 => by
    obtain ⟨l, n, e, c1, c2, hq⟩ := oRng2_cases q1
    subst e
    obtain ⟨v, w, rfl, h1, h2⟩ := hv.two
    have e1 := h1.int_eq
    have e2 := h2.int_eq
    subst e1 e2
    exact ⟨l, n, rfl, ⟨by omega, by omega, by omega, by omega⟩, hq _ H1 H2 st gives_range⟩
def oZip : List Ar → T (List D)
  | [.d (.list xs), .d (.list ys)] => .ret ((xs.zip ys).map fun p => .tuple [p.1, p.2])
  | [.d (.tuple xs), .d (.tuple ys)] => .ret ((xs.zip ys).map fun p => .tuple [p.1, p.2])
  | _ => .bad
/-! ### targets: names, tuples of such -/
/-- a target takes data -/
def setT : Nat → D → Env' → Env' := fun i d ρ => ρ.set i (.d d)
/-- lists of one's own: none but those that were there -/
def OwnSub (ρ : Env') (σ : L2.St) (ρ' : Env') (σ' : L2.St) : Prop := ∀ (i : Nat) (s : Sl) (o : Option V), ¬ s.bare → ρ'[i]? = some s → σ'[i]? = some o → ρ[i]? = some s ∧ σ[i]? = some o
theorem OwnSub.set {ρ : Env'} {σ : L2.St} {i : Nat} {d : D} {v : V} : OwnSub ρ σ (ρ.set i (.d d)) (σ.set i (some v)) := fun j s o nb a b => by
  rcases set_some a with ⟨_, rfl⟩ | ⟨n1, g1⟩
  · exact (nb trivial).elim
  · rcases set_some b with ⟨e, _⟩ | ⟨_, g2⟩
    · exact (n1 e).elim
    · exact ⟨g1, g2⟩
theorem OwnSub.trans {ρ ρ' ρ'' : Env'} {σ σ' σ'' : L2.St} (a : OwnSub ρ σ ρ' σ') (b : OwnSub ρ' σ' ρ'' σ'') : OwnSub ρ σ ρ'' σ'' := fun i s o nb h1 h2 =>
  let ⟨h3, h4⟩ := b i s o nb h1 h2
  a i s o nb h3 h4
/-- a reading of a target: the data go into slots of js -/
def tG (g : Ct) (js : List Nat) (bd : D → Env' → Option Env') : TG := fun v σ H Q => ∃ β H0 ρ d ρ', Rel g.cad β g.ξ H0 ρ σ H ∧ Has H0 v d ∧ bd d ρ = some ρ' ∧
  ∀ σ', Rel g.cad β g.ξ H0 ρ' σ' H → (∀ vs : List Nat, (∀ j ∈ js, j ∈ vs) → wipe σ' vs = wipe σ vs) → OwnSub ρ σ ρ' σ' → Q σ' H
def bName (i : Nat) : D → Env' → Option Env' := fun d ρ => some (ρ.set i (.d d))
theorem wipe_set {σ : L2.St} {j : Nat} {x : Option V} : ∀ {vs : List Nat}, j ∈ vs → wipe (σ.set j x) vs = wipe σ vs
  | v :: vs, h => by
    show (wipe (σ.set j x) vs).set v none = (wipe σ vs).set v none
    by_cases hm : j ∈ vs
    · rw [wipe_set hm]
    · have e : j = v := by
        rcases List.mem_cons.mp h with e | e
        · exact e
        · exact absurd e hm
      subst e
      have key : ∀ (vs : List Nat) (σ : L2.St), j ∉ vs → wipe (σ.set j x) vs = (wipe σ vs).set j x := by
        intro vs
        induction vs with
        | nil => intro σ _; rfl
        | cons w ws ih =>
          intro σ hn
          show (wipe (σ.set j x) ws).set w none = ((wipe σ ws).set w none).set j x
          rw [ih σ (fun z => hn (List.mem_cons_of_mem _ z))]
          exact List.set_comm _ _ (fun z => hn (z ▸ List.mem_cons_self))
      rw [key vs σ hm, List.set_set]
theorem g_name {i : Nat} {x : Str} {p : Pos} (h : PG X (.Name x p) (gName i)) : PG X (.Name x p) (tG g [i] (bName i)) := h.imp fun v σ H Q ⟨β, H0, ρ, d, ρ', rr, hv, e, q⟩ => by
  cases e
  exact q _ (rr.setD hv) (fun vs hj => wipe_set (hj i List.mem_cons_self)) OwnSub.set
def bNames : List Nat → List D → Env' → Option Env'
  | [], [], ρ => some ρ
  | i :: is, d :: ds, ρ => bNames is ds (ρ.set i (.d d))
  | _, _, _ => none
def bTup (is : List Nat) : D → Env' → Option Env' := fun d ρ => match d with
  | .tuple ds => bNames is ds ρ
  | _ => none
def gNames : List Nat → TGs
  | [] => gNil
  | i :: is => gCons (gName i) (gNames is)
theorem bNames_len : ∀ {is : List Nat} {ds : List D} {ρ ρ' : Env'}, bNames is ds ρ = some ρ' → ds.length = is.length
  | [], [], _, _, _ => rfl
  | _ :: is, _ :: ds, _, _, e => by simp [bNames_len (is := is) e]
  | [], _ :: _, _, _, e => by cases e
  | _ :: _, [], _, _, e => by cases e
end
/-! ### comprehensions -/
def T.quiet {α : Type} : T α → T α
  | .ret a => .ret a
  | .draw m k => .draw m fun i => (k i).quiet
  | .exc _ => .bad
  | .bad => .bad
theorem T.wp_quiet {α : Type} {P : α → Prop} {E E' : Exn → Prop} : ∀ {t : T α}, t.quiet.wp P E → t.wp P E'
  | .ret _, h => h
  | .draw _ _, h => ⟨h.1, h.2.1, fun i a b => T.wp_quiet (h.2.2 i a b)⟩
  | .exc _, h => h.elim
  | .bad, h => h
@[simp] theorem T.quiet_ret {α : Type} (a : α) : (T.ret a).quiet = .ret a := rfl
def wipeE (ρ : Env') : List Nat → Env'
  | [] => ρ
  | v :: vs => (wipeE ρ vs).set v .no
theorem Rel.wipe {cad : Cad} {β : Box} {ξ : Xi} {H0 H : Hp} {ρ : Env'} {σ : L2.St} (r : Rel cad β ξ H0 ρ σ H) : ∀ vs : List Nat, Rel cad β ξ H0 (wipeE ρ vs) (wipe σ vs) H
  | [] => r
  | v :: vs => (Rel.wipe r vs).set (sl := .no) trivial trivial
def lcGo (bd : D → Env' → Option Env') (t : Env' → T D) (e : Env' → T D) (ρ : Env') : List D → T (List D)
  | [] => .ret []
  | d :: r => match bd d ρ with
    | none => .bad
    | some ρ1 => (t ρ1).quiet.bind fun b => match b with
      | .bool true => (e ρ1).quiet.bind fun y => (lcGo bd t e ρ r).bind fun out => .ret (y :: out)
      | .bool false => lcGo bd t e ρ r
      | _ => .bad
def eLc (vs : List Nat) (it : Env' → T (List D)) (bd : D → Env' → Option Env') (t : Env' → T D) (e : Env' → T D) : Env' → T D := fun ρ =>
  (it ρ).bind fun ds => if ds.length ≤ 1000000 then (lcGo bd t e (wipeE ρ vs) ds).bind fun out => .ret (.list out) else .bad
def tTrue : Env' → T D := fun _ => .ret (.bool true)
/-- nothing is let out -/
def Ct.q (g : Ct) : Ct := { g with W := fun _ _ _ _ => False }
theorem pts_yes {X : Cx} {g : Ct} : PTs X [] (tT g tTrue) := ⟨fun pins s σ H Q I h => pts_nil.run pins s σ H Q I (by
  obtain ⟨β, H0, ρ, rr, b, e, q⟩ := h
  cases e
  exact q H0 H rr.refl)⟩
theorem Stp.mine {β : Box} {A B C H : Hp} {p : Addr} {o : HO} (st : Stp β A B C H) (h1 : B p = none) (h2 : C p = none) (hS : ¬ β.S p) (he : ∀ c q, H p ≠ some (LamX.CodeO c q)) : Stp β A B C (upd H p o) := by
  refine ⟨st.grow, fun b u h => ?_, β.stay H _ st.ok (fun a u hs h => ?_), st.boxf, fun q u h n => ?_⟩
  · rw [upd_ne (ne_of_none h h2)]
    exact st.ext b u h
  · have na : a ≠ p := fun z => by
      subst z
      rcases hs with hs | ⟨c, q, rfl⟩
      · exact hS hs
      · exact he c q h
    rw [upd_ne na]
    exact h
  · obtain ⟨n1, k⟩ := st.priv q u h n
    refine ⟨n1, fun hs => ?_⟩
    rw [upd_ne (ne_of_none h h1)]
    exact k hs
theorem Stp.known {β : Box} {A B C H : Hp} {p : Addr} {o : HO} (st : Stp β A B C H) (h1 : B p = none) (h2 : C p = none) (hS : ¬ β.S p) (h : H p = some o) : Stp β A B (upd C p o) H := by
  refine ⟨fun b u z => ?_, fun b u z => ?_, st.ok, fun a z => ?_, fun q u z n => ?_⟩
  · have z' := st.grow b u z
    rw [upd_ne (ne_of_none z' h2)]
    exact z'
  · by_cases e : b = p
    · subst e
      rw [upd_same] at z
      rw [h]
      exact z
    · rw [upd_ne e] at z
      exact st.ext b u z
  · have na : a ≠ p := fun e => hS (e ▸ z)
    rw [upd_ne na]
    exact st.boxf a z
  · obtain ⟨n1, k⟩ := st.priv q u z n
    rw [upd_ne (ne_of_none z h1)]
    exact ⟨n1, k⟩
theorem upd_has' {H : Hp} {p : Addr} {o : HO} {v : V} {d : D} (hp : H p = none) (h : Has H v d) : Has (upd H p o) v d :=
  h.mono fun b u e => by
    rw [upd_ne (ne_of_none e hp)]
    exact e
section
variable {g : Ct} {vs js : List Nat} {it : Env' → T (List D)} {bd : D → Env' → Option Env'} {t e : Env' → T D}
theorem wipe_wipe {σ : L2.St} {ws : List Nat} : ∀ {us : List Nat}, (∀ j ∈ us, j ∈ ws) → wipe (wipe σ us) ws = wipe σ ws
  | [], _ => rfl
  | u :: us, h => by
    show wipe ((wipe σ us).set u none) ws = wipe σ ws
    rw [wipe_set (h u List.mem_cons_self)]
    exact wipe_wipe fun j hj => h j (List.mem_cons_of_mem _ hj)
/-- a new list, private so far -/
def OutL (β : Box) (H0 H : Hp) (Q : VK) (ds : List D) : Prop := ∀ p H0' H' vs, Stp β H0 H H0' H' → H p = none → H' p = some (.lst vs) → H0' p = none → ¬ β.S p → HasL H0' vs ds → Q (.ref p) H'
theorem OutL.step {β : Box} {H0 H H0' H' : Hp} {Q : VK} {ds : List D} (st : Stp β H0 H H0' H') (h : OutL β H0 H Q ds) : OutL β H0' H' Q ds := fun p H2 H3 vs s hn h1 h2 h3 h4 => by
  refine h p H2 H3 vs (st.trans s) ?_ h1 h2 h3 h4
  cases e : H p with
  | none => rfl
  | some o =>
    exfalso
    cases e0 : H0 p with
    | none =>
      by_cases hS : β.S p
      · exact h3 hS
      · have := (st.priv p o e e0).2 hS
        rw [hn] at this
        cases this
    | some u =>
      have := st.ext p u (st.grow p u e0)
      rw [hn] at this
      cases this
/-- a list that is made, from the tree of its items -/
def tEL (g : Ct) (f : Env' → T (List D)) : TE := fun σ H Q => ∃ β H0 ρ, Rel g.cad β g.ξ H0 ρ σ H ∧ (f ρ).wp (OutL β H0 H Q) (g.X β H0 H σ)
def lLc (vs : List Nat) (it : Env' → T (List D)) (bd : D → Env' → Option Env') (t : Env' → T D) (e : Env' → T D) : Env' → T (List D) := fun ρ =>
  (it ρ).bind fun ds => if ds.length ≤ 1000000 then lcGo bd t e (wipeE ρ vs) ds else .bad
/-- the list becomes known -/
theorem tEL_of {f : Env' → T (List D)} {σ : L2.St} {H : Hp} {Q : VK} (h : tE g (fun ρ => (f ρ).bind fun out => .ret (.list out)) σ H Q) : tEL g f σ H Q := by
  obtain ⟨β, H0, ρ, rr, q⟩ := h
  refine ⟨β, H0, ρ, rr, T.wp_mono (fun out z p H0' H' vs st hn h1 h2 h3 h4 => ?_) (fun _ z => z) _ ((T.wp_bind _ _).mp q)⟩
  exact z (.ref p) _ H' (st.known hn h2 h3 h1) (.lst upd_same (upd_has h2 h4))
theorem tLc_core (hj : ∀ j ∈ js, j ∈ vs) {σ : L2.St} {H : Hp} {Q : VK} (h : tEL g (lLc vs it bd t e) σ H Q) : tLc (tI g it) (tG g.q js bd) (tT g.q t) (tE g.q e) vs σ H Q := by
  obtain ⟨β, H0, ρ, rr, q⟩ := h
  refine ⟨β, H0, ρ, rr, T.wp_mono (fun ds q1 J H1 Hb st gv Dl hD => ?_) (fun _ z => z) _ ((T.wp_bind _ _).mp q)⟩
  split at q1
  · next hz =>
    have rr1 := rr.step st
    have nS : ¬ β.S Dl := fun z => by
      obtain ⟨u, w⟩ := β.here Hb Dl st.ok z
      rw [hD] at w
      cases w
    have hD1 : H1 Dl = none := st.ext.free hD
    obtain ⟨G, Y, walk, hG, hY⟩ := gv
    have q2 := q1
    refine lc_it walk (D := Dl) (fun i Hc => ∃ H0' acc outs, Stp β H1 Hb H0' Hc ∧ Hc Dl = some (.lst acc) ∧ H0' Dl = none ∧ HasL H0' acc outs ∧ outs.length ≤ i ∧
      (lcGo bd t e (wipeE ρ vs) (ds.drop i)).wp (fun rest => OutL β H1 Hb Q (outs ++ rest)) (g.X β H1 Hb σ)) ?_ ?_ ?_ ?_
    · refine ⟨H1, [], [], Stp.junk rr1.ext rr1.ok rr1.boxf hD, upd_same, hD1, .nil, Nat.le_refl _, ?_⟩
      exact T.wp_mono (fun rest z => z.step st) (fun x z => z.step st) _ q2
    · rintro i Hc _ ⟨H0', acc, outs, s, _⟩
      exact hG _ (fun b o z => s.ext b o (s.grow b o z))
    · rintro i x Hc H2 hi ⟨H0', acc, outs, s, hc, hn, hl, ho, hw⟩ hy
      have hd : ds[i]? = some ds[i] := List.getElem?_eq_getElem hi
      have ed : ds.drop i = ds[i] :: ds.drop (i + 1) := List.drop_eq_getElem_cons hi
      rw [ed] at hw
      -- the item, from a state that is known
      have turn : ∀ H0n H2n, Stp β H1 Hb H0n H2n → H2n Dl = some (.lst acc) → H0n Dl = none → HasL H0n acc outs → Has H0n x ds[i] →
          tG g.q js bd x (wipe σ vs) H2n fun σ2 H2 => wipe σ2 vs = wipe σ vs ∧ tT g.q t σ2 H2 fun b H3 => if b = true then tE g.q e σ2 H3 fun y H4 => ∃ acc, H4 Dl = some (.lst acc) ∧ acc.length < sizeLine ∧
            (∃ H0' acc' outs, Stp β H1 Hb H0' (upd H4 Dl (.lst (acc ++ [y]))) ∧ (upd H4 Dl (.lst (acc ++ [y]))) Dl = some (.lst acc') ∧ H0' Dl = none ∧ HasL H0' acc' outs ∧ outs.length ≤ i + 1 ∧
              (lcGo bd t e (wipeE ρ vs) (ds.drop (i + 1))).wp (fun rest => OutL β H1 Hb Q (outs ++ rest)) (g.X β H1 Hb σ)) else
            ∃ H0' acc' outs, Stp β H1 Hb H0' H3 ∧ H3 Dl = some (.lst acc') ∧ H0' Dl = none ∧ HasL H0' acc' outs ∧ outs.length ≤ i + 1 ∧
              (lcGo bd t e (wipeE ρ vs) (ds.drop (i + 1))).wp (fun rest => OutL β H1 Hb Q (outs ++ rest)) (g.X β H1 Hb σ) := by
        intro H0n H2n sn hcn hnn hln hx
        have rw1 := (rr1.step sn).wipe vs
        unfold lcGo at hw
        split at hw
        · exact hw.elim
        · next ρ1 hb =>
          refine ⟨β, H0n, wipeE ρ vs, ds[i], ρ1, rw1, hx, hb, fun σ2 r2 w2 _ => ⟨(w2 vs hj).trans (wipe_wipe fun _ z => z), ?_⟩⟩
          have hw2 := (T.wp_bind _ _).mp hw
          refine ⟨β, H0n, ρ1, r2, T.wp_mono (fun b hb2 => ?_) (fun _ z => z) _ (T.wp_quiet hw2)⟩
          cases b with
          | bool z =>
            refine ⟨z, rfl, fun H0m H3 st3 => ?_⟩
            have s3 := sn.trans st3
            obtain ⟨n3, k3⟩ := st3.priv Dl _ hcn hnn
            have hc3 := k3 nS
            cases z with
            | false => exact iteF ⟨H0m, acc, outs, s3, hc3, n3, hln.mono st3.grow, by omega, hb2⟩
            | true =>
              refine iteT ⟨β, H0m, ρ1, r2.step st3, T.wp_mono (fun y hy2 v H0k H4 st4 hv => ?_) (fun _ z => z) _ (T.wp_quiet ((T.wp_bind _ _).mp hb2))⟩
              obtain ⟨n4, k4⟩ := st4.priv Dl _ hc3 n3
              have hc4 := k4 nS
              have s4 := s3.trans st4
              have la := (hln.mono st3.grow).mono st4.grow
              refine ⟨acc, hc4, ?_, H0k, acc ++ [v], outs ++ [y], s4.mine hD n4 nS (ncS hc4 ncLst), upd_same, n4, la.append (.cons hv .nil), by simp; omega, ?_⟩
              · have := la.length
                rw [sizeLine_eq]
                omega
              · refine T.wp_mono (fun rest z => ?_) (fun _ z => z) _ ((T.wp_bind _ _).mp hy2)
                rw [List.append_assoc]
                exact z
          | _ => exact hb2.elim
      rcases hY i Hc x H2 ds[i] H0' hd s.grow s.ext hy with ⟨e2, hx⟩ | ⟨tp, ob, us, es, e1, hn2, hz, e2, e3, hu⟩
      · subst e2
        exact turn H0' H2 s hc hn hl hx
      · subst e1
        subst e2
        have nD : Dl ≠ tp := ne_of_none hc hn2
        have htp : H0' tp = none := s.ext.free hn2
        refine turn (upd H0' tp (.frz ob (.tup us))) _ (s.trans (Stp.new s.ext s.ok s.boxf hn2)) ?_ ?_ (upd_has htp hl) ?_
        · rw [upd_ne nD]
          exact hc
        · rw [upd_ne nD]
          exact hn
        · rw [e3]
          exact .tup upd_same hz (upd_has htp hu)
    · rintro Hc ⟨H0', acc, outs, s, hc, hn, hl, ho, hw⟩
      rw [List.drop_length] at hw
      have q3 : OutL β H1 Hb Q (outs ++ []) := hw
      rw [List.append_nil] at q3
      exact q3 Dl H0' Hc acc s hD hc hn nS hl
  · exact q1.elim
theorem eLc_l {ρ : Env'} : eLc vs it bd t e ρ = (lLc vs it bd t e ρ).bind fun out => .ret (.list out) := by
  unfold eLc lLc
  rw [T.bind_assoc]
  congr 1
  funext ds
  split <;> rfl
theorem tLc_of (hj : ∀ j ∈ js, j ∈ vs) {σ : L2.St} {H : Hp} {Q : VK} (h : tE g (eLc vs it bd t e) σ H Q) : tLc (tI g it) (tG g.q js bd) (tT g.q t) (tE g.q e) vs σ H Q := by
  refine tLc_core hj (tEL_of ?_)
  have ee : (fun ρ => (lLc vs it bd t e ρ).bind fun out => T.ret (PyData.list out)) = eLc vs it bd t e := by
    funext ρ
    exact eLc_l.symm
  rw [ee]
  exact h
end
section
variable {X : Cx} {g : Ct} {tg iter elt : Expr} {ifs : List Expr} {scope : Scope} {own : List (Str × Nat)} {pos : Pos} {js : List Nat} {it : Env' → T (List D)} {bd : D → Env' → Option Env'} {t e : Env' → T D}
theorem r_lc (hc : X.calm = true) (hN : X.N.Nodup) (hi : PI X tg iter (tI g it)) (ok : BlkOk X.N X.env.scope scope own)
    (hg : ∀ (s : Shared) (H : Hp) (C : Addr) (cl : List (Str × Addr)) (fp : List Addr), PG (X.blk s H scope (compEnvC scope cl C X.env) fp) tg (tG g.q js bd))
    (ht : ∀ (s : Shared) (H : Hp) (C : Addr) (cl : List (Str × Addr)) (fp : List Addr), PTs (X.blk s H scope (compEnvC scope cl C X.env) fp) ifs (tT g.q t))
    (he : ∀ (s : Shared) (H : Hp) (C : Addr) (cl : List (Str × Addr)) (fp : List Addr), PE (X.blk s H scope (compEnvC scope cl C X.env) fp) elt (tE g.q e))
    (hj : ∀ j ∈ js, j ∈ own.map (·.2)) (hs : ∀ x, foldedSetIterable iter X.env x = pure x := by intro _; rfl) :
    PE X (.ListComp elt [⟨tg, iter, ifs, 0⟩] scope pos) (tE g (eLc (own.map (·.2)) it bd t e)) :=
  (pe_lc hc hN hi ok hg ht he hs).imp fun _ _ _ q => tLc_of hj q
end
end Wb
set_option Elab.async false
set_option linter.all false
set_option maxRecDepth 100000
set_option maxHeartbeats 4000000
/-! Wb, part 5: statements, loops, defs. -/
namespace Wb
open PySem PySem.Spec PyProof.Rows L2
/-- what a statement comes to -/
inductive Fl where
  | nx (ρ : Env')
  | ret (d : D)
  | brk (ρ : Env')
  | cnt (ρ : Env')
  | exc (x : Exn) (ρ : Env')
/-- what stands: from the def's entry (A known, B in all), what is known since (C), known now (H0) -/
structure SR (g : Ct) (β : Box) (A B C : Hp) (H0 : Hp) (ρ : Env') (σ : L2.St) (H : Hp) : Prop where
  rel : Rel g.cad β g.ξ H0 ρ σ H
  st : Stp β A B H0 H
  base : Same C H0
  lk : g.lk β A B
  ow : ∀ (i : Nat) (s : Sl) (o : Option V) (a : Addr), ρ[i]? = some s → σ[i]? = some o → s.foot H o a → B a = none
section
variable {g : Ct} {β : Box} {A B C H0 H H0' H' : Hp} {ρ : Env'} {σ : L2.St}
theorem SR.own (r : SR g β A B C H0 ρ σ H) (i : Nat) (xs : List D) (p : Addr) (h1 : ρ[i]? = some (.own xs)) (h2 : σ[i]? = some (some (.ref p))) : B p = none := r.ow i _ _ p h1 h2 rfl
theorem SR.step (r : SR g β A B C H0 ρ σ H) (s : Stp β H0 H H0' H') : SR g β A B C H0' ρ σ H' := ⟨r.rel.step s, r.st.trans s, r.base.trans s.grow, r.lk, fun i t o a h1 h2 f => r.ow i t o a h1 h2 ((r.rel.sl i t o h1 h2).footS s f)⟩
theorem SR.rebase {C' : Hp} (r : SR g β A B C H0 ρ σ H) (e : Same C' H0) : SR g β A B C' H0 ρ σ H := ⟨r.rel, r.st, e, r.lk, r.ow⟩
theorem ow_set {ρ : Env'} {σ : L2.St} {H B : Hp} (h : ∀ (i : Nat) (s : Sl) (o : Option V) (a : Addr), ρ[i]? = some s → σ[i]? = some o → s.foot H o a → B a = none) {k : Nat} {x : Sl} {v : Option V} (hx : ∀ a, x.foot H v a → B a = none) :
    ∀ (i : Nat) (s : Sl) (o : Option V) (a : Addr), (ρ.set k x)[i]? = some s → (σ.set k v)[i]? = some o → s.foot H o a → B a = none := by
  intro i s o a h1 h2 f
  rcases set_some h1 with ⟨rfl, rfl⟩ | ⟨n1, g1⟩ <;> rcases set_some h2 with ⟨e2, rfl⟩ | ⟨n2, g2⟩
  · exact hx a f
  · exact (n2 rfl).elim
  · exact (n1 e2).elim
  · exact h i s o a g1 g2 f
theorem SR.setB (r : SR g β A B C H0 ρ σ H) {i : Nat} {sl : Sl} {o : Option V} (hs : SlOk g.cad β g.ξ H0 H sl o) (hx : ∀ (j : Nat) (t : Sl) (u : Option V) (a : Addr), j ≠ i → ρ[j]? = some t → σ[j]? = some u → sl.foot H o a → t.foot H u a → False) (hB : ∀ a, sl.foot H o a → B a = none) :
    SR g β A B C H0 (ρ.set i sl) (σ.set i o) H := ⟨r.rel.setB hs hx, r.st, r.base, r.lk, ow_set r.ow hB⟩
theorem SR.set {sl : Sl} {o : Option V} {i : Nat} (r : SR g β A B C H0 ρ σ H) (hs : SlOk g.cad β g.ξ H0 H sl o) (hn : sl.bare) : SR g β A B C H0 (ρ.set i sl) (σ.set i o) H :=
  r.setB hs (fun _ _ _ _ _ _ _ f _ => hn.no f) fun _ f => (hn.no f).elim
theorem SR.setD (r : SR g β A B C H0 ρ σ H) {i : Nat} {v : V} {d : D} (h : Has H0 v d) : SR g β A B C H0 (ρ.set i (.d d)) (σ.set i (some v)) H := r.set ⟨v, rfl, h⟩ trivial
end
def FlOut (g : Ct) (β : Box) (A B C : Hp) (E : Ends) : Fl → Prop
  | .nx ρ' => ∀ σ' H0' H', SR g β A B C H0' ρ' σ' H' → E.nx σ' H'
  | .ret d => ∀ v H0' H', Stp β A B H0' H' → Has H0' v d → E.rt v H'
  | .brk ρ' => ∀ σ' H0' H', SR g β A B C H0' ρ' σ' H' → E.bk σ' H'
  | .cnt ρ' => ∀ σ' H0' H', SR g β A B C H0' ρ' σ' H' → E.ct σ' H'
  | .exc x ρ' => ∀ c dx σ' H0' H', SR g β A B C H0' ρ' σ' H' → ExcIs g.cad x c dx H0' → g.W c dx σ' H'
def noE : Exn → Prop := fun _ => False
def tS (g : Ct) (F : Env' → T Fl) : TS := fun E σ H => ∃ β A B C H0 ρ, SR g β A B C H0 ρ σ H ∧ (F ρ).wp (FlOut g β A B C E) noE
/-- an expression within a statement: its error becomes the statement's -/
def T.lift {α : Type} : T α → Env' → (α → T Fl) → T Fl
  | .ret a, _, k => k a
  | .draw m f, ρ, k => .draw m fun i => (f i).lift ρ k
  | .exc x, ρ, _ => .ret (.exc x ρ)
  | .bad, _, _ => .bad
@[simp] theorem T.lift_ret {α : Type} (a : α) (ρ : Env') (k : α → T Fl) : (T.ret a).lift ρ k = k a := rfl
@[simp] theorem T.lift_exc {α : Type} (x : Exn) (ρ : Env') (k : α → T Fl) : (T.exc x : T α).lift ρ k = .ret (.exc x ρ) := rfl
@[simp] theorem T.lift_bad {α : Type} (ρ : Env') (k : α → T Fl) : (T.bad : T α).lift ρ k = .bad := rfl
@[simp] theorem T.lift_draw {α : Type} (m : Int) (f : Int → T α) (ρ : Env') (k : α → T Fl) : (T.draw m f).lift ρ k = .draw m fun i => (f i).lift ρ k := rfl
theorem T.wp_lift {α : Type} {P : Fl → Prop} {E : Exn → Prop} {ρ : Env'} {k : α → T Fl} : ∀ (t : T α), (t.lift ρ k).wp P E ↔ t.wp (fun a => (k a).wp P E) (fun x => P (.exc x ρ))
  | .ret _ => Iff.rfl
  | .draw _ f => ⟨fun h => ⟨h.1, h.2.1, fun i a b => (T.wp_lift (f i)).mp (h.2.2 i a b)⟩, fun h => ⟨h.1, h.2.1, fun i a b => (T.wp_lift (f i)).mpr (h.2.2 i a b)⟩⟩
  | .exc _ => Iff.rfl
  | .bad => Iff.rfl
theorem T.lift_bind {α γ : Type} {ρ : Env'} {k : γ → T Fl} (f : α → T γ) : ∀ (t : T α), (t.bind f).lift ρ k = t.lift ρ fun a => (f a).lift ρ k
  | .ret _ => rfl
  | .draw _ h => by
    show T.draw _ _ = T.draw _ _
    congr 1
    funext i
    exact T.lift_bind f (h i)
  | .exc _ => rfl
  | .bad => rfl
section
variable {g : Ct} {β : Box} {A B C H0 H : Hp} {ρ : Env'} {σ : L2.St} {E : Ends}
theorem excX {x : Exn} (r : SR g β A B C H0 ρ σ H) (h : FlOut g β A B C E (.exc x ρ)) : g.X β H0 H σ x := fun c dx H1 H2 st e => h c dx σ H1 H2 (r.step st) e
theorem tE_lift {f : Env' → T D} {k : D → T Fl} {Q : VK} (r : SR g β A B C H0 ρ σ H) (h : ((f ρ).lift ρ k).wp (FlOut g β A B C E) noE)
    (hq : ∀ d v H0' H', Stp β H0 H H0' H' → Has H0' v d → (k d).wp (FlOut g β A B C E) noE → Q v H') : tE g f σ H Q :=
  ⟨β, H0, ρ, r.rel, T.wp_mono (fun d hd v H1 H2 st hv => hq d v H1 H2 st hv hd) (fun _ z => excX r z) _ ((T.wp_lift _).mp h)⟩
theorem tA_lift {f : Env' → T (List Ar)} {k : List Ar → T Fl} {Q : List V → Hp → Prop} (r : SR g β A B C H0 ρ σ H) (h : ((f ρ).lift ρ k).wp (FlOut g β A B C E) noE)
    (hq : ∀ d v H0' H', Stp β H0 H H0' H' → HasAs β H0' v d → (k d).wp (FlOut g β A B C E) noE → Q v H') : tA g f σ H Q :=
  ⟨β, H0, ρ, r.rel, T.wp_mono (fun d hd v H1 H2 st hv => hq d v H1 H2 st hv hd) (fun _ z => excX r z) _ ((T.wp_lift _).mp h)⟩
theorem tT_lift {f : Env' → T D} {k : D → T Fl} {Q : Bool → Hp → Prop} (r : SR g β A B C H0 ρ σ H) (h : ((f ρ).lift ρ k).wp (FlOut g β A B C E) noE)
    (hq : ∀ z H0' H', Stp β H0 H H0' H' → (k (.bool z)).wp (FlOut g β A B C E) noE → Q z H') (hn : ∀ d, (∀ z, d ≠ .bool z) → (k d).wp (FlOut g β A B C E) noE → False) : tT g f σ H Q :=
  ⟨β, H0, ρ, r.rel, T.wp_mono (fun d hd => by
    cases d with
    | bool z => exact ⟨z, rfl, fun H1 H2 st => hq z H1 H2 st hd⟩
    | _ => exact (hn _ (fun _ z => by cases z) hd).elim) (fun _ z => excX r z) _ ((T.wp_lift _).mp h)⟩
theorem tI_lift {f : Env' → T (List D)} {k : List D → T Fl} {R : It → Hp → Prop} (r : SR g β A B C H0 ρ σ H) (h : ((f ρ).lift ρ k).wp (FlOut g β A B C E) noE)
    (hq : ∀ ds J H0' H', Stp β H0 H H0' H' → Gives J ds H0' → (k ds).wp (FlOut g β A B C E) noE → R J H') : tI g f σ H R :=
  ⟨β, H0, ρ, r.rel, T.wp_mono (fun d hd J H1 H2 st gv => hq d J H1 H2 st gv hd) (fun _ z => excX r z) _ ((T.wp_lift _).mp h)⟩
end
/-! ### small statements -/
def sSet (i : Nat) (f : Env' → T D) : Env' → T Fl := fun ρ => (f ρ).lift ρ fun d => .ret (.nx (ρ.set i (.d d)))
def sRet (f : Env' → T D) : Env' → T Fl := fun ρ => (f ρ).lift ρ fun d => .ret (.ret d)
def sDrop (f : Env' → T D) : Env' → T Fl := fun ρ => (f ρ).lift ρ fun _ => .ret (.nx ρ)
def sNil : Env' → T Fl := fun ρ => .ret (.nx ρ)
def thenS (G : Env' → T Fl) : Fl → T Fl
  | .nx ρ => G ρ
  | .ret d => .ret (.ret d)
  | .brk ρ => .ret (.brk ρ)
  | .cnt ρ => .ret (.cnt ρ)
  | .exc x ρ => .ret (.exc x ρ)
def sSeq (F G : Env' → T Fl) : Env' → T Fl := fun ρ => (F ρ).bind (thenS G)
def onB (F G : T Fl) : D → T Fl
  | .bool true => F
  | .bool false => G
  | _ => .bad
def sIf (t : Env' → T D) (F G : Env' → T Fl) : Env' → T Fl := fun ρ => (t ρ).lift ρ (onB (F ρ) (G ρ))
section
variable {X : Cx} {g : Ct} {a b c : Expr} {f h t : Env' → T D} {pos : Pos} {st : Stmt} {rest : List Stmt} {F G : Env' → T Fl}
theorem tAsg_of {i : Nat} {E : Ends} {σ : L2.St} {H : Hp} (q : tS g (sSet i f) E σ H) : tAsg (tE g f) (gName i) E σ H := by
  obtain ⟨β, A, B, C, H0, ρ, r, q⟩ := q
  exact tE_lift r q fun d v H1 H2 s hv q1 => q1 _ H1 H2 ((r.step s).setD hv)
theorem s_set {i : Nat} (hs : PS X st (tAsg (tE g f) (gName i))) : PS X st (tS g (sSet i f)) := hs.imp fun _ _ _ q => tAsg_of q
theorem s_setLc {i : Nat} {vs js : List Nat} {it : Env' → T (List D)} {bd : D → Env' → Option Env'} {t e : Env' → T D} (hs : PS X st (tAsg (tLc (tI g it) (tG g.q js bd) (tT g.q t) (tE g.q e) vs) (gName i))) (hj : ∀ j ∈ js, j ∈ vs) : PS X st (tS g (sSet i (eLc vs it bd t e))) :=
  hs.imp fun E σ H q => tLc_of hj (Q := fun x H1 => gName i x σ H1 E.nx) (tAsg_of q)
theorem s_ret (ha : PE X a (tE g f)) : PS X (.Return (some a) pos) (tS g (sRet f)) := (ps_ret ha).imp fun E σ H ⟨β, A, B, C, H0, ρ, r, q⟩ =>
  tE_lift r q fun d v H1 H2 s hv q1 => q1 v H1 H2 (r.st.trans s) hv
theorem ss_nil : PSs X [] (tS g sNil) := pss_nil.imp fun E σ H ⟨β, A, B, C, H0, ρ, r, q⟩ => q σ H0 H r
theorem FlOut.seq {β : Box} {A B C : Hp} {E : Ends} : ∀ {fl : Fl}, (thenS G fl).wp (FlOut g β A B C E) noE → FlOut g β A B C { E with nx := tS g G E } fl
  | .nx ρ, h => fun σ' H0' H' r => ⟨β, A, B, C, H0', ρ, r, h⟩
  | .ret _, h => h
  | .brk _, h => h
  | .cnt _, h => h
  | .exc _ _, h => h
theorem ss_cons (h1 : PS X st (tS g F)) (h2 : PSs X rest (tS g G)) : PSs X (st :: rest) (tS g (sSeq F G)) := (pss_cons h1 h2).imp fun E σ H ⟨β, A, B, C, H0, ρ, r, q⟩ =>
  ⟨β, A, B, C, H0, ρ, r, T.wp_mono (fun _ z => FlOut.seq z) (fun _ z => z) _ ((T.wp_bind _ _).mp q)⟩
theorem ss_one (h1 : PS X st (tS g F)) : PSs X [st] (tS g F) := pss_one h1
theorem s_if {as bs : List Stmt} (hc : PT X c (tT g t)) (ha : PSs X as (tS g F)) (hb : PSs X bs (tS g G)) : PS X (.If c as bs pos) (tS g (sIf t F G)) := (ps_if hc ha hb).imp fun E σ H ⟨β, A, B, C, H0, ρ, r, q⟩ =>
  tT_lift r q (fun z H1 H2 s q1 => by
    cases z with
    | true => exact iteT ⟨β, A, B, C, H1, ρ, r.step s, q1⟩
    | false => exact iteF ⟨β, A, B, C, H1, ρ, r.step s, q1⟩) (fun d hn q1 => by
    cases d with
    | bool z => exact hn z rfl
    | _ => exact q1)
/-- a, b = x, y -/
def sPar (i j : Nat) (fs : Env' → T (List Ar)) : Env' → T Fl := fun ρ => (fs ρ).lift ρ fun as => match as with
  | [.d x, .d y] => .ret (.nx ((ρ.set i (.d x)).set j (.d y)))
  | _ => .bad
theorem s_par {i j : Nat} {fs : Env' → T (List Ar)} (hs : PS X st (tPar i j (tA g fs))) : PS X st (tS g (sPar i j fs)) := hs.imp fun E σ H ⟨β, A, B, C, H0, ρ, r, q⟩ => tA_lift r q fun as vs H1 H2 s hv q1 => by
  split at q1
  · next x y =>
    obtain ⟨v, w, rfl, h1, h2⟩ := hv.two
    exact ⟨v, w, rfl, q1 _ H1 H2 (((r.step s).setD h1).setD h2)⟩
  · exact q1.elim
/-- a, b, .. = e -/
def sUnp (bd : D → Env' → Option Env') (f : Env' → T D) : Env' → T Fl := fun ρ => (f ρ).lift ρ fun d => match bd d ρ with
  | some ρ' => .ret (.nx ρ')
  | none => .bad
theorem SR.names {β : Box} {A B C H0 H : Hp} : ∀ {is : List Nat} {ds : List D} {vs : List V} {ρ ρ' : Env'} {σ : L2.St} {Q : L2.St → Hp → Prop}, SR g β A B C H0 ρ σ H → HasL H0 vs ds → bNames is ds ρ = some ρ' →
    (∀ σ', SR g β A B C H0 ρ' σ' H → Q σ' H) → gNames is vs σ H Q
  | [], [], vs, ρ, ρ', σ, Q, rr, hl, e, q => by
    cases hl
    cases e
    exact ⟨rfl, q σ rr⟩
  | i :: is, d :: ds, vs, ρ, ρ', σ, Q, rr, hl, e, q => by
    cases hl with
    | @cons v vs _ _ h1 h2 => exact ⟨v, vs, rfl, SR.names (rr.setD h1) h2 e q⟩
  | [], _ :: _, _, _, _, _, _, _, _, e, _ => by cases e
  | _ :: _, [], _, _, _, _, _, _, _, e, _ => by cases e
theorem s_unp {is : List Nat} {n : Nat} (hn : n = is.length) (hs : PS X st (tAsg (tE g f) (gTup X.K n (gNames is)))) : PS X st (tS g (sUnp (bTup is) f)) := hs.imp fun E σ H ⟨β, A, B, C, H0, ρ, r, q⟩ => tE_lift r q fun d v H1 H2 s hv q1 => by
  split at q1
  · next ρ' hb =>
    have rr := r.step s
    cases hv with
    | tup h1 hdn h2 =>
      have e' : bNames is _ ρ = some ρ' := hb
      refine ⟨_, _, rfl, sqF (s.ext _ _ h1), ?_, SR.names rr h2 e' fun σ' r' => q1 σ' H1 H2 r'⟩
      rw [h2.length, bNames_len e', hn]
    | _ => cases hb
  · exact q1.elim
/-! ### loops -/
def forGo (bd : D → Env' → Option Env') (F : Env' → T Fl) : List D → Env' → T Fl
  | [], ρ => .ret (.nx ρ)
  | d :: r, ρ => match bd d ρ with
    | none => .bad
    | some ρ1 => (F ρ1).bind fun fl => match fl with
      | .nx ρ' => forGo bd F r ρ'
      | .cnt ρ' => forGo bd F r ρ'
      | .brk ρ' => .ret (.nx ρ')
      | .ret d => .ret (.ret d)
      | .exc x ρ' => .ret (.exc x ρ')
def sFor (it : Env' → T (List D)) (bd : D → Env' → Option Env') (F : Env' → T Fl) : Env' → T Fl := fun ρ => (it ρ).lift ρ fun ds => forGo bd F ds ρ
/-- a target within a statement -/
def PB (K : PySem.W.Frag) (g : Ct) (tg : TG) (bd : D → Env' → Option Env') : Prop := ∀ {β : Box} {A B C H0 H : Hp} {ρ ρ' : Env'} {σ : L2.St} {v : V} {d : D} {Q : L2.St → Hp → Prop},
  SR g β A B C H0 ρ σ H → Has H0 v d → bd d ρ = some ρ' → (∀ σ', SR g β A B C H0 ρ' σ' H → Q σ' H) → tg v σ H Q
theorem b_name {K : PySem.W.Frag} {i : Nat} : PB K g (gName i) (bName i) := fun r hv e q => by
  cases e
  exact q _ (r.setD hv)
theorem b_tup {K : PySem.W.Frag} {is : List Nat} {n : Nat} (hn : n = is.length) : PB K g (gTup K n (gNames is)) (bTup is) := by
  intro β A B C H0 H ρ ρ' σ v d Q r hv e q
  cases hv with
  | tup h1 hdn h2 =>
    have e' : bNames is _ ρ = some ρ' := e
    refine ⟨_, _, rfl, sqF (r.rel.ext _ _ h1), ?_, SR.names r h2 e' q⟩
    rw [h2.length, bNames_len e', hn]
  | _ => cases e
theorem s_for {it : Env' → T (List D)} {tg : TG} {bd : D → Env' → Option Env'} (hb : PB X.K g tg bd) (hs : PS X st (tFor (tI g it) tg (tS g F))) : PS X st (tS g (sFor it bd F)) := hs.imp fun E σ H ⟨β, A, B, C, H0, ρ, r, q⟩ =>
  tI_lift r q fun ds J H1 H2 s gv q1 => by
    obtain ⟨Gd, Y, walk, hG, hY⟩ := gv
    have r1 := r.step s
    refine for_it walk (D := E) (fun i σ' H' => ∃ H0' ρ', SR g β A B H1 H0' ρ' σ' H' ∧ (forGo bd F (ds.drop i) ρ').wp (FlOut g β A B C E) noE) ⟨H1, ρ, r1.rebase fun _ _ z => z, q1⟩ ?_ ?_ ?_
    · rintro i σ' H' _ ⟨H0', ρ', r', _⟩
      exact hG _ (fun b o z => r'.rel.ext b o (r'.base b o z))
    · rintro i x σ' Hc H3 hi ⟨H0', ρ', r', hw⟩ hy
      have hd : ds[i]? = some ds[i] := List.getElem?_eq_getElem hi
      have ed : ds.drop i = ds[i] :: ds.drop (i + 1) := List.drop_eq_getElem_cons hi
      rw [ed] at hw
      have turn : ∀ H0n H2n, SR g β A B H1 H0n ρ' σ' H2n → Has H0n x ds[i] → tg x σ' H2n fun σ2 H2 => tS g F { E with
            nx := fun σ' H' => ∃ H0' ρ', SR g β A B H1 H0' ρ' σ' H' ∧ (forGo bd F (ds.drop (i + 1)) ρ').wp (FlOut g β A B C E) noE
            ct := fun σ' H' => ∃ H0' ρ', SR g β A B H1 H0' ρ' σ' H' ∧ (forGo bd F (ds.drop (i + 1)) ρ').wp (FlOut g β A B C E) noE
            bk := E.nx } σ2 H2 := by
        intro H0n H2n rn hx
        unfold forGo at hw
        split at hw
        · exact hw.elim
        · next ρ1 hb1 =>
          refine hb rn hx hb1 fun σ2 r2 => ⟨β, A, B, H1, H0n, ρ1, r2, T.wp_mono (fun fl z => ?_) (fun _ z => z) _ ((T.wp_bind _ _).mp hw)⟩
          cases fl with
          | nx ρ2 => exact fun σ' H0' H' r' => ⟨H0', ρ2, r', z⟩
          | cnt ρ2 => exact fun σ' H0' H' r' => ⟨H0', ρ2, r', z⟩
          | brk ρ2 => exact fun σ' H0' H' r' => z σ' H0' H' (r'.rebase (r1.base.trans r'.base))
          | ret d => exact z
          | exc e ρ2 => exact fun c dx σ' H0' H' r' he => z c dx σ' H0' H' (r'.rebase (r1.base.trans r'.base)) he
      rcases hY i Hc x H3 ds[i] H0' hd r'.base r'.rel.ext hy with ⟨e2, hx⟩ | ⟨tp, ob, us, es, e1, hn2, hz, e2, e3, hu⟩
      · subst e2
        exact turn H0' H3 r' hx
      · subst e1
        subst e2
        have htp : H0' tp = none := r'.rel.ext.free hn2
        refine turn (upd H0' tp (.frz ob (.tup us))) _ (r'.step (r'.rel.new hn2)) ?_
        rw [e3]
        exact .tup upd_same hz (upd_has htp hu)
    · rintro σ' H' ⟨H0', ρ', r', hw⟩
      rw [List.drop_length] at hw
      exact hw σ' H0' H' (r'.rebase (r1.base.trans r'.base))
def whGo (t : Env' → T D) (F : Env' → T Fl) : Nat → Env' → T Fl
  | 0, _ => .bad
  | n + 1, ρ => (t ρ).lift ρ (onB ((F ρ).bind fun fl => match fl with
      | .nx ρ' => whGo t F n ρ'
      | .cnt ρ' => whGo t F n ρ'
      | .brk ρ' => .ret (.nx ρ')
      | .ret d => .ret (.ret d)
      | .exc x ρ' => .ret (.exc x ρ')) (.ret (.nx ρ)))
def sWhile (n : Nat) (t : Env' → T D) (F : Env' → T Fl) : Env' → T Fl := fun ρ => whGo t F n ρ
theorem s_while {n : Nat} (hs : PS X st (tWhile (tT g t) (tS g F))) : PS X st (tS g (sWhile n t F)) := hs.imp fun E σ H ⟨β, A, B, C, H0, ρ, r, q⟩ => by
  refine ⟨fun m σ' H' => ∃ H0' ρ', SR g β A B C H0' ρ' σ' H' ∧ (whGo t F m ρ').wp (FlOut g β A B C E) noE, ⟨n, H0, ρ, r, q⟩, ?_⟩
  rintro m σ' H' ⟨H0', ρ', r', hw⟩
  cases m with
  | zero => exact hw.elim
  | succ m =>
    refine tT_lift r' hw (fun z H1 H2 s q1 => ?_) (fun d hn q1 => ?_)
    · cases z with
      | true =>
        refine iteT ⟨fun σ' H' => ∃ H0' ρ', SR g β A B C H0' ρ' σ' H' ∧ (whGo t F m ρ').wp (FlOut g β A B C E) noE, fun σ3 H3 w => ⟨m, Nat.lt_succ_self m, w⟩, ?_⟩
        refine ⟨β, A, B, C, H1, ρ', r'.step s, T.wp_mono (fun fl z => ?_) (fun _ z => z) _ ((T.wp_bind _ _).mp q1)⟩
        cases fl with
        | nx ρ2 => exact fun σ' H0' H' r' => ⟨H0', ρ2, r', z⟩
        | cnt ρ2 => exact fun σ' H0' H' r' => ⟨H0', ρ2, r', z⟩
        | brk ρ2 => exact z
        | ret d => exact z
        | exc e ρ2 => exact z
      | false => exact iteF (q1 σ' H1 H2 (r'.step s))
    · cases d with
      | bool z => exact hn z rfl
      | _ => exact q1
end
/-! ### defs -/
def arSl : Ar → Sl
  | .d x => .d x
  | .box k => .box k
  | .mil => .mil
def startE (N : Nat) (as : List Ar) : Env' := as.map arSl ++ List.replicate (N - as.length) .no
def endF : Fl → T D
  | .nx _ => .ret .none
  | .ret d => .ret d
  | .exc x _ => .exc x
  | _ => .bad
def T.run : T Fl → T D
  | .ret fl => endF fl
  | .draw m k => .draw m fun i => (k i).run
  | .exc _ => .bad
  | .bad => .bad
@[simp] theorem T.run_ret (fl : Fl) : (T.ret fl).run = endF fl := rfl
@[simp] theorem T.run_draw (m : Int) (k : Int → T Fl) : (T.draw m k).run = .draw m fun i => (k i).run := rfl
theorem T.wp_run {P : D → Prop} {E : Exn → Prop} : ∀ (t : T Fl), t.run.wp P E ↔ t.wp (fun fl => (endF fl).wp P E) noE
  | .ret _ => Iff.rfl
  | .draw _ k => ⟨fun h => ⟨h.1, h.2.1, fun i a b => (T.wp_run (k i)).mp (h.2.2 i a b)⟩, fun h => ⟨h.1, h.2.1, fun i a b => (T.wp_run (k i)).mpr (h.2.2 i a b)⟩⟩
  | .exc _ => Iff.rfl
  | .bad => Iff.rfl
def mkDef (N : Nat) (F : Env' → T Fl) : List Ar → T D := fun as => (F (startE N as)).run
theorem HasAs.get {β : Box} {H0 : Hp} : ∀ {vs : List V} {as : List Ar} {i : Nat} {a : Ar}, HasAs β H0 vs as → as[i]? = some a → ∃ v, vs[i]? = some v ∧ HasA β H0 v a
  | _, _, _, _, .nil, h => by simp at h
  | _, _, 0, _, .cons h _, e => by
    have e' := Option.some.inj e
    subst e'
    exact ⟨_, rfl, h⟩
  | _, _, i + 1, _, .cons _ r, e => by
    obtain ⟨d, h1, h2⟩ := HasAs.get (i := i) r (by simpa using e)
    exact ⟨d, by simpa using h1, h2⟩
theorem startE_bare {n : Nat} {as : List Ar} (i : Nat) (s : Sl) (z : (startE n as)[i]? = some s) : s.bare := by
  unfold startE at z
  rw [List.getElem?_append] at z
  split at z
  · rw [List.getElem?_map] at z
    cases q : as[i]? with
    | none =>
      rw [q] at z
      cases z
    | some a =>
      rw [q] at z
      cases a <;> cases z <;> trivial
  · rw [List.getElem?_replicate] at z
    split at z
    · cases z
      trivial
    · cases z
theorem rel_start {cad : Cad} {β : Box} {ξ : Xi} {H0 H : Hp} {N : List Str} {vs : List V} {as : List Ar} (e : Same H0 H) (ok : β.ok H) (bf : ∀ a, β.S a → H0 a = none) (tb : TabsIn cad β) (h : HasAs β H0 vs as) :
    Rel cad β ξ H0 (startE N.length as) (L2.start N vs) H := by
  have hl := h.length
  refine ⟨e, ?_, fun i s o a b => ?_, fun i j s t o u a h1 _ _ _ _ f _ => (startE_bare i s h1).no f, ok, bf, tb⟩
  · unfold startE L2.start
    simp [hl]
  · unfold startE at a
    unfold L2.start at b
    by_cases hi : i < as.length
    · rw [List.getElem?_append_left (by simpa using hi), List.getElem?_map] at a
      rw [List.getElem?_append_left (by simp; omega), List.getElem?_map] at b
      rw [List.getElem?_eq_getElem hi] at a
      obtain ⟨v, hv, hh⟩ := h.get (List.getElem?_eq_getElem hi)
      rw [hv] at b
      cases a
      cases b
      generalize as[i] = z at hh
      cases z with
      | d x => exact ⟨v, rfl, hh⟩
      | box k => exact ⟨v, rfl, hh⟩
      | mil => exact ⟨v, rfl, hh⟩
    · rw [List.getElem?_append_right (by simpa using hi), List.getElem?_replicate] at a
      split at a
      · cases a
        trivial
      · cases a
theorem FnG.ofDE {P : Program} {w : World} {K : PySem.W.Frag} {mg : Str → Option Value} {base : Heap} {cad : Cad} {x qual : Str} {st : Stmt} {fa : Addr} {fd : FuncData} {N ps : List Str} {k : Nat} {F : Env' → T Fl} (Fu : Fun K x qual st fa fd) (S : FnScope N ps (defScope st))
    (hbody : ∀ (cdv : Value) (A : Around) (outer : List Env) (s : Shared) (H : Hp) (E : XK), fd.code = cdv → Room k (A.deeper (envOfC qual (defScope st) s.heap.objs.size fa cdv)) → (A.deeper (envOfC qual (defScope st) s.heap.objs.size fa cdv)).guards = some [] →
      PSs (bodyX P w K mg base N qual st fa cdv A outer s H E) (defBody st) (tS ⟨cad, none, fun c d _ H' => E c d H', fun _ _ _ => True⟩ F)) :
    FnG P w K mg base (k + 1) fa fd ps (spD cad ps.length (mkDef N.length F)) := by
  refine FnG.ofE Fu S (fun vs H Q E h => h.1) fun cdv A outer s H vs Q E hc hr hg h => ⟨_, hbody cdv A outer s H E hc hr hg, ?_⟩
  obtain ⟨_, β, H0, as, e, ok, bf, tb, ha, q⟩ := h
  refine ⟨β, H0, H, H0, H0, startE N.length as, ⟨rel_start e ok bf tb ha, Stp.refl e ok bf, fun _ _ z => z, trivial, fun i s o a h1 _ f => ((startE_bare i s h1).no f).elim⟩, T.wp_mono (fun fl z => ?_) (fun x z => z) _ ((T.wp_run _).mp q)⟩
  cases fl with
  | nx ρ' => exact fun σ' H0' H' r => z .non H0' H' r.st .non
  | ret d => exact z
  | exc y ρ' => exact fun c dx σ' H0' H' r he => z c dx H0' H' r.st he
  | brk _ => exact z.elim
  | cnt _ => exact z.elim
theorem FnG.ofD {P : Program} {w : World} {K : PySem.W.Frag} {mg : Str → Option Value} {base : Heap} {cad : Cad} {x qual : Str} {st : Stmt} {fa : Addr} {fd : FuncData} {N ps : List Str} {k : Nat} {F : Env' → T Fl} (Fu : Fun K x qual st fa fd) (S : FnScope N ps (defScope st))
    (hbody : ∀ (cdv : Value) (A : Around) (outer : List Env) (s : Shared) (H : Hp) (E : XK), Room k (A.deeper (envOfC qual (defScope st) s.heap.objs.size fa cdv)) → (A.deeper (envOfC qual (defScope st) s.heap.objs.size fa cdv)).guards = some [] →
      PSs (bodyX P w K mg base N qual st fa cdv A outer s H E) (defBody st) (tS ⟨cad, none, fun c d _ H' => E c d H', fun _ _ _ => True⟩ F)) :
    FnG P w K mg base (k + 1) fa fd ps (spD cad ps.length (mkDef N.length F)) :=
  FnG.ofDE Fu S fun cdv A outer s H E _ hr hg => hbody cdv A outer s H E hr hg
end Wb
set_option Elab.async false
set_option linter.all false
set_option maxRecDepth 100000
set_option maxHeartbeats 4000000
/-! Wb, part 6: errors, isinstance, repr. -/
namespace Wb
open PySem PySem.Spec PyProof.Rows L2
/-! ### an error class with one field, two fields -/
def spI1 (C : Addr) (f : Str) : Sp := fun vs H Q _ => ∃ a v, vs = [.ref a, v] ∧ H a = some (exo a C none) ∧
  ∀ dx, H dx = none → dx ≠ a → Q .non (upd (upd H dx (exd dx [(f, v)])) a (exo a C (some dx)))
/-- what the written part says of the class at C and of its __init__ -/
structure ErrC (K : PySem.W.Frag) (mg : Str → Option Value) (x : Str) (C fI : Addr) : Prop where
  oex : OexC K C
  xf : XfC K C
  gC : mg x = some (.ref C)
  iC : PySem.W.findIn K (.ref C) "__init__" = some (some (.ref fI))
  tI : PySem.W.typeIn K (.ref fI) = some (.type "function")
theorem del_back {H : Hp} {a d : Addr} {o1 o2 o3 o4 : HO} (ha : H a = none) (hne : d ≠ a) : upd (del (upd (upd (upd H a o1) d o2) a o3) a) d o4 = upd H d o4 := by
  funext b
  by_cases h1 : b = d
  · subst h1
    rw [upd_same, upd_same]
  · rw [upd_ne h1, upd_ne h1]
    by_cases h2 : b = a
    · subst h2
      rw [del_same, ha]
    · rw [del_ne h2, upd_ne h2, upd_ne h1, upd_ne h2]
def sRaise1 (c fl : Str) (f : Env' → T D) : Env' → T Fl := fun ρ => (f ρ).lift ρ fun d => .ret (.exc ⟨c, [(fl, d)]⟩ ρ)
section
variable {X : Cx} {g : Ct} {a : Expr} {f : Env' → T D} {x fl : Str} {p pos pos2 : Pos} {C fI : Addr} {j : Nat} {fd : FuncData} {ps : List Str}
theorem s_raise1 (hc : X.calm = true) (tk : Takes X g.W) (T : ErrC X.K X.mg x C fI) (hcad : g.cad x = some C) (F1 : FnOk X.prog X.w X.K X.mg X.base CX0 j fI fd ps (spI1 C fl)) (hr : Room (j + 1) X.A) (hb : Binds X.K fd ps []) (hg : Gl X x)
    (ha : PE X a (tE g f)) (hdb : (x == ("__debug__" : Str)) = false := by decide) (hs : starEach [a] X.env = (false, eval a X.env) :: starEach [] X.env := by rfl) (hpl : (backTo pos (starEach [] X.env)).any (·.1) = false := by rfl) :
    PS X (.Raise (some (.Call (.Name x p) [a] [] pos)) none pos2) (tS g (sRaise1 x fl f)) :=
  (ps_raise hc tk (pmk_oex T.oex T.iC T.tI F1 hr hb .nil pass0 hg T.gC (pa_cons ha pa_nil hs) hdb hs hpl)).imp fun E σ H ⟨β, A, B, C', H0, ρ, r, q⟩ => by
    refine tE_lift r q fun d v H1 H2 s hv q1 => ⟨by show 1 ≤ 1000; omega, fun e he => ?_⟩
    refine ⟨e, v, rfl, upd_same, fun dx hdx hne => ⟨rfl, dx, [(fl, v)], upd_same, ?_, ?_, ?_⟩⟩
    · rw [upd_ne hne, upd_same]
    · rw [upd_ne hne] at hdx
      exact hdx
    · rw [del_back he hne]
      rw [upd_ne hne] at hdx
      have st2 := Stp.new (o := .xd [(fl, v)]) s.ext s.ok s.boxf hdx
      exact q1 (.ref C) (some dx) σ _ _ ((r.step s).step st2) ⟨⟨C, hcad, rfl⟩, .inr ⟨dx, [v], rfl, upd_same, .cons (upd_has' (s.ext.free hdx) hv) .nil⟩⟩
/-- the body of such an __init__ -/
theorem init1_ok {P : Program} {w : World} {K : PySem.W.Frag} {mg : Str → Option Value} {base : Heap} {qual : Str} {st : Stmt} {p1 p2 p3 p4 : Pos} (F : Fun K "__init__" qual st fI fd) (S : FnScope [("self" : Str), fl] [("self" : Str), fl] (defScope st))
    (hbd : defBody st = [.Assign [.Attribute (.Name "self" p1) fl p2] (.Name fl p3) p4]) (T : OexC K C) (hno : PySem.W.findIn K (.ref C) fl = some none)
    (h0 : ∀ X : Cx, X.N = [("self" : Str), fl] → X.env.scope = defScope st → PE X (.Name "self" p1) (tVar 0)) (h1 : ∀ X : Cx, X.N = [("self" : Str), fl] → X.env.scope = defScope st → PE X (.Name fl p3) (tVar 1)) : FnOk P w K mg base CX0 1 fI fd [("self" : Str), fl] (spI1 C fl) := by
  refine F.ok S (fun vs H Q E h => ?_) (fun cdv A outer s H vs Q E hr h => ?_)
  · obtain ⟨a, v, rfl, _⟩ := h
    rfl
  · obtain ⟨a, v, rfl, ea, q⟩ := h
    rw [hbd]
    refine ⟨_, pss_one (ps_ost (h0 _ rfl rfl) (h1 _ rfl rfl)), ?_⟩
    exact ⟨v, rfl, .ref a, rfl, a, C, rfl, T, hno, .inl ⟨ea, fun dx nx ne => q dx nx ne⟩⟩
end
/-! ### try: .. except X as n: .. -/
def clrS : Sl → Sl
  | .ex _ => .no
  | s => s
def clrE (ρ : Env') : Env' := ρ.map clrS
def afterX (i : Nat) : Fl → T Fl
  | .nx ρ => .ret (.nx (clrE (ρ.set i .no)))
  | .ret d => .ret (.ret d)
  | .brk ρ => .ret (.brk (clrE (ρ.set i .no)))
  | .cnt ρ => .ret (.cnt (clrE (ρ.set i .no)))
  | .exc _ _ => .bad
/-- cm: which classes the clause takes -/
def sTry (i : Nat) (cm : Str → Option Bool) (F G : Env' → T Fl) : Env' → T Fl := fun ρ => (F ρ).bind fun fl => match fl with
  | .exc x ρ' => match cm x.cls with
    | some true => (G (ρ'.set i (.ex x))).bind (afterX i)
    | some false => .ret (.exc x ρ')
    | none => .bad
  | .nx ρ' => .ret (.nx ρ')
  | .ret d => .ret (.ret d)
  | .brk ρ' => .ret (.brk ρ')
  | .cnt ρ' => .ret (.cnt ρ')
section
variable {g : Ct} {β : Box} {A B C H0 H : Hp} {ρ : Env'} {σ : L2.St}
/-- the context of a handler -/
def Ct.h (g : Ct) (a : Addr) (c : Value) (dx : Option Addr) : Ct := ⟨g.cad, some (a, c, dx), fun _ _ _ _ => False, g.lk⟩
end
/-! ### a field of the error that is handled -/
def eFld (i : Nat) (c fl : Str) : Env' → T D := fun ρ => match ρ[i]? with
  | some (.ex x) => if x.cls = c then match x.fs.lookup fl with
    | some d => .ret d
    | none => .bad
    else .bad
  | _ => .bad
/-! ### isinstance(x, T), T a built-in class -/
theorem r_isa {X : Cx} {g : Ct} {a c : Expr} {f : Env' → T D} {p pos : Pos} {n : String} (hg : Gl X "isinstance") (hm : X.mg "isinstance" = none) (hc : PE X c (tC (.ty n))) (ha : PE X a (tE g f)) (hk : ∀ m ∈ ["NoneType", "bool", "int", "str", "list", "tuple", "dict"], PySem.W.kitOne X.K (.type m) (.type n) = some (m == n || (n == "int" && m == "bool")))
    (hs : starEach [a, c] X.env = (false, eval a X.env) :: starEach [c] X.env := by rfl) (hs2 : starEach [c] X.env = (false, eval c X.env) :: starEach [] X.env := by rfl) (hpl : (backTo pos (starEach [c] X.env)).any (·.1) = false := by rfl) :
    PE X (.Call (.Name "isinstance" p) [a, c] [] pos) (tE g (eUn (fun d => .ret (.bool (isaD n d))) f)) :=
  (pe_callB call_isi hg hm (by decide +kernel) (pa_cons ha (pa_cons hc pa_nil hs2) hs) (by decide) (by decide) hs hpl).imp fun σ H Q ⟨β, H0, ρ, r, q⟩ => tE_then r q fun d v H1 H2 st hv q1 => by
    refine ⟨v, .ty n, .type (tyD d), .type n, _, rfl, .ty n, hv.ty st.ext, hk (tyD d) ?_, q1 _ H1 H2 st (.bl _)⟩
    cases d <;> simp [tyD]
end Wb
set_option Elab.async false
set_option linter.all false
set_option maxRecDepth 100000
set_option maxHeartbeats 4000000
/-! Wb, part 7: repr of data. -/
namespace Wb
open PySem PySem.Spec PyProof.Rows L2
/-- what a value reads as, and what its repr is, at a heap -/
structure Rep (prog : Program) (w : World) (h : Heap) (u : Value) (d : D) : Prop where
  rd : ∃ as, Reads h u d as
  kr : ∃ bs, ReadAtMost h d.depth bs ∧ ReprK prog w bs h d.depth u d.shown
structure RepAll (prog : Program) (w : World) (h : Heap) (us : List Value) (ds : List D) : Prop where
  rd : ∃ as, ReadsAll h us ds as
  kr : ∃ bs, ReadAtMost h (PyData.depthAll ds) bs ∧ ReprAllK prog w bs h (PyData.depthAll ds) us (PyData.shownAll ds)
section
variable {prog : Program} {w : World} {h : Heap}
theorem RepAll.nil : RepAll prog w h [] [] := ⟨⟨[], .nil⟩, [], (fun _ z => nomatch z), by simp only [PyData.shownAll]; exact .nil⟩
theorem RepAll.cons {u : Value} {us : List Value} {d : D} {ds : List D} (a : Rep prog w h u d) (b : RepAll prog w h us ds) : RepAll prog w h (u :: us) (d :: ds) := by
  obtain ⟨⟨as, r1⟩, bs1, n1, k1⟩ := a
  obtain ⟨⟨as', r2⟩, bs2, n2, k2⟩ := b
  refine ⟨⟨_, .cons r1 r2⟩, bs1 ++ bs2, ?_, ?_⟩
  · intro c hc
    simp only [PyData.depthAll]
    rcases List.mem_append.mp hc with z | z
    · obtain ⟨d', as'', r', hd'⟩ := n1 c z
      exact ⟨d', as'', r', by omega⟩
    · obtain ⟨d', as'', r', hd'⟩ := n2 c z
      exact ⟨d', as'', r', by omega⟩
  · simp only [PyData.depthAll, PyData.shownAll]
    refine .cons ((k1.more fun c hc => ?_).level_le ?_) (k2.more_le (fun c hc => ?_) ?_)
    · exact List.mem_append_left _ hc
    · omega
    · exact List.mem_append_right _ hc
    · omega
theorem Rep.list {a : Addr} {o : Obj} {vs : List Value} {n : Nat} {ds : List D} (h1 : h.get? a = some o) (h2 : o.cls = .type "list") (h3 : o.data = .seq vs.toArray n) (r : RepAll prog w h vs ds) : Rep prog w h (.ref a) (.list ds) := by
  obtain ⟨⟨as, rd⟩, bs, nb, kr⟩ := r
  have r0 : Reads h (.ref a) (.list ds) (a :: as) := .list h1 h2 h3 rd
  have hna : a ∉ bs := by
    apply not_mem_of_deeper r0 _ nb
    simp only [PyData.depth]
    omega
  refine ⟨⟨_, r0⟩, a :: bs, ?_, ?_⟩
  · apply ReadAtMost.cons r0 _ nb
    simp only [PyData.depth]
    omega
  · simp only [PyData.depth, PyData.shown]
    cases vs with
    | nil =>
      cases rd
      simp only [PyData.shownAll, listText_nil]
      exact ReprK.listEmpty h1 h2 h3
    | cons x l =>
      refine ReprK.list h1 h2 h3 hna ?_ (fun i y e => ?_)
      · have := kr.length_eq
        simpa using this
      · exact kr.item i y (by simpa using e)
theorem Rep.tuple {a : Addr} {o : Obj} {vs : List Value} {n : Nat} {ds : List D} (h1 : h.get? a = some o) (h2 : o.cls = .type "tuple") (h3 : o.data = .seq vs.toArray n) (r : RepAll prog w h vs ds) : Rep prog w h (.ref a) (.tuple ds) := by
  obtain ⟨⟨as, rd⟩, bs, nb, kr⟩ := r
  have r0 : Reads h (.ref a) (.tuple ds) as := .tuple h1 h2 h3 rd
  have hna : a ∉ bs := by
    apply not_mem_of_deeper r0 _ nb
    simp only [PyData.depth]
    omega
  refine ⟨⟨_, r0⟩, a :: bs, ?_, ?_⟩
  · apply ReadAtMost.cons r0 _ nb
    simp only [PyData.depth]
    omega
  · simp only [PyData.depth, PyData.shown]
    exact ReprK.tuple h1 h2 h3 hna kr
theorem Rep.dict {a : Addr} {o : Obj} {es : Array DictEntry} {n : Nat} {kvs : List (D × D)} (h1 : h.get? a = some o) (h2 : o.cls = .type "dict") (h3 : o.data = .dict es n) (hs : (a == sysModules) = false)
    (r1 : RepAll prog w h (es.toList.map (·.key)) (kvs.map (·.1))) (r2 : RepAll prog w h (es.toList.map (·.val)) (kvs.map (·.2))) : Rep prog w h (.ref a) (.dict kvs) := by
  obtain ⟨⟨as1, rd1⟩, bs1, nb1, kr1⟩ := r1
  obtain ⟨⟨as2, rd2⟩, bs2, nb2, kr2⟩ := r2
  have r0 : Reads h (.ref a) (.dict kvs) (a :: as1 ++ as2) := .dict h1 h2 h3 rd1 rd2
  have nb : ReadAtMost h (PyData.depthKv kvs) (bs1 ++ bs2) := (nb1.mono (PyData.depthAll_keys_le kvs)).append (nb2.mono (PyData.depthAll_vals_le kvs))
  have hna : a ∉ bs1 ++ bs2 := by
    apply not_mem_of_deeper r0 _ nb
    simp only [PyData.depth]
    omega
  refine ⟨⟨_, r0⟩, a :: (bs1 ++ bs2), ?_, ?_⟩
  · apply ReadAtMost.cons r0 _ nb
    simp only [PyData.depth]
    omega
  · simp only [PyData.depth, PyData.shown, PyData.shownKv_eq]
    have e1 := kr1.more_le (as' := bs1 ++ bs2) (fun c hc => List.mem_append_left _ hc) (PyData.depthAll_keys_le kvs)
    have e2 := kr2.more_le (as' := bs1 ++ bs2) (fun c hc => List.mem_append_right _ hc) (PyData.depthAll_vals_le kvs)
    exact ReprK.dict h1 h2 h3 hs hna (ReprEntriesK.of_two es.toList _ _ e1 e2)
theorem Rep.int {i : Int} {t : Tok} (hs : i.natAbs.log2 < 1920) : Rep prog w h (.int i t) (.int i) :=
  ⟨⟨[], .int i t⟩, [], (fun _ z => nomatch z), by simp only [PyData.shown]; exact .of_is (ReprIs.int t hs) _ _ _⟩
theorem Rep.str {x : Str} {t : Tok} (hz : (reprText x).length ≤ sizeLine) : Rep prog w h (.str x t) (.str x) :=
  ⟨⟨[], .str x t⟩, [], (fun _ z => nomatch z), by simp only [PyData.shown]; exact .of_is (ReprIs.str x t hz) _ _ _⟩
theorem Rep.key {K : Key} {u : Value} (hk : keyIs K u = true) (hs : (keyD K).showable = true) (hz : (keyD K).shown.length ≤ sizeLine) : Rep prog w h u (keyD K) := by
  rcases keyIs_shape hk with ⟨i, t, rfl, rfl⟩ | ⟨x, t, rfl, rfl⟩
  · exact Rep.int (by simpa [keyD, PyData.showable] using hs)
  · exact Rep.str (by simpa only [keyD, PyData.shown] using hz)
end
section
variable {X : Cx} {pins : List (Addr × Obj)} {σ : L2.St} {H : Hp} {s : Shared}
mutual
theorem Has.repr (I : Inv X pins σ H s) : ∀ {d : D} {v : V} {u : Value}, Has H v d → RelV v u → d.showable = true → d.shown.length ≤ sizeLine → Rep X.prog X.w s.heap u d
  | .none, _, _, .non, r, _, _ => by
    cases r
    exact ⟨⟨[], .none⟩, [], (fun _ z => nomatch z), by simp only [PyData.shown]; exact .of_is ReprIs.none _ _ _⟩
  | .bool b, _, _, .bl _, r, _, _ => by
    cases r
    exact ⟨⟨[], .bool b⟩, [], (fun _ z => nomatch z), by simp only [PyData.shown]; exact .of_is (ReprIs.bool b) _ _ _⟩
  | .int i, _, _, .int _, r, hs, _ => by
    obtain ⟨t, rfl⟩ := r
    exact Rep.int (by simpa [PyData.showable] using hs)
  | .str x, _, _, .str _, r, _, hz => by
    obtain ⟨t, rfl⟩ := r
    exact Rep.str (by simpa only [PyData.shown] using hz)
  | .list ds, _, _, .lst h1 h2, r, hs, hz => by
    cases r
    obtain ⟨its, n, rv, ho, _⟩ := I.lst h1
    have hz' : (listText (PyData.shownAll ds)).length ≤ sizeLine := by simpa only [PyData.shown] using hz
    exact Rep.list ho rfl rfl (HasL.repr I h2 rv (by simpa [PyData.showable] using hs) fun t ht => Nat.le_trans (listText_mem_le ht) hz')
  | .tuple ds, _, _, .tup h1 _ h2, r, hs, hz => by
    cases r
    obtain ⟨its, rv, ⟨o, ho, hc, n, hd⟩, _⟩ := I.tuple (sqF h1)
    have hz' : (tupleText (PyData.shownAll ds)).length ≤ sizeLine := by simpa only [PyData.shown] using hz
    exact Rep.tuple ho hc hd (HasL.repr I h2 rv (by simpa [PyData.showable] using hs) fun t ht => Nat.le_trans (tupleText_mem_le ht) hz')
  | .dict kvs, _, _, .dct h1 h2, r, hs, hz => by
    cases r
    obtain ⟨_, hsys, vs, kv, o, es, ep, ho, hx, hd, _, pr, _⟩ := I.hok _ _ h1
    have hz' : (dictText (PyData.shownKv kvs)).length ≤ sizeLine := by simpa only [PyData.shown] using hz
    obtain ⟨p1, p2⟩ := HasK.repr I h2 kv pr (by simpa [PyData.showable] using hs) fun t ht => Nat.le_trans (dictText_mem_le ht) hz'
    exact Rep.dict ho hx.1 hd hsys p1 p2
theorem HasL.repr (I : Inv X pins σ H s) : ∀ {ds : List D} {vs : List V} {us : List Value}, HasL H vs ds → Vals vs us → PyData.showableAll ds = true → (∀ t ∈ PyData.shownAll ds, t.length ≤ sizeLine) → RepAll X.prog X.w s.heap us ds
  | [], _, _, .nil, r, _, _ => by
    cases r
    exact RepAll.nil
  | d :: ds, _, _, .cons h1 h2, r, hs, hz => by
    cases r with
    | cons r1 r2 =>
      have hs' : d.showable = true ∧ PyData.showableAll ds = true := by simpa [PyData.showableAll] using hs
      refine RepAll.cons (Has.repr I h1 r1 hs'.1 (hz _ ?_)) (HasL.repr I h2 r2 hs'.2 fun t ht => hz t ?_)
      · simp only [PyData.shownAll]
        exact List.mem_cons_self ..
      · simp only [PyData.shownAll]
        exact List.mem_cons_of_mem _ ht
theorem HasK.repr (I : Inv X pins σ H s) : ∀ {ds : List (D × D)} {kvs : List (Key × V)} {vs : List (Key × Value)} {es : List DictEntry}, HasK H kvs ds → KV kvs vs → Pairs (mixKind X.prog X.w) es vs → PyData.showableKv ds = true →
    (∀ t ∈ PyData.shownKv ds, t.length ≤ sizeLine) → RepAll X.prog X.w s.heap (es.map (·.key)) (ds.map (·.1)) ∧ RepAll X.prog X.w s.heap (es.map (·.val)) (ds.map (·.2))
  | [], _, _, _, .nil, r, p, _, _ => by
    cases r
    cases p
    exact ⟨RepAll.nil, RepAll.nil⟩
  | _ :: ds, _, _, _, .cons (k := k) (d := d) h1 h2, r, p, hs, hz => by
    cases r with
    | @cons _ q _ _ r1 r2 =>
      obtain ⟨k', u⟩ := q
      obtain ⟨ek, rv⟩ := r1
      have ek' : k = k' := ek
      subst ek'
      cases p with
      | cons p1 p2 p3 =>
        have hs' : ((keyD k).showable = true ∧ d.showable = true) ∧ PyData.showableKv ds = true := by simpa [PyData.showableKv] using hs
        have hz0 : (keyD k).shown.length + 2 + d.shown.length ≤ sizeLine := by
          have := hz ((keyD k).shown ++ ": " ++ d.shown) (by simp only [PyData.shownKv]; exact List.mem_cons_self ..)
          have e2 : ((keyD k).shown ++ (": " : Str) ++ d.shown).length = (keyD k).shown.length + 2 + d.shown.length := by
            rw [Str.length_append, Str.length_append]
            rfl
          omega
        obtain ⟨a1, a2⟩ := HasK.repr I h2 r2 p3 hs'.2 fun t ht => hz t (by simp only [PyData.shownKv]; exact List.mem_cons_of_mem _ ht)
        have rv' : RelV _ u := rv
        have p2' : _ = u := p2
        refine ⟨RepAll.cons (Rep.key p1 hs'.1.1 (by omega)) a1, RepAll.cons ?_ a2⟩
        simp only [p2']
        exact Has.repr I h1 rv' hs'.1.2 (by omega)
end
end
/-! ### repr(x) -/
/-- small enough to be shown -/
def okRep (d : D) : Bool := d.showable && decide (d.shown.length ≤ 10000000) && decide (d.depth ≤ 100)
def oRepr : D → T D := fun d => if okRep d = true then .ret (.str d.shown) else .bad
theorem call_repr {X : Cx} (hg : X.A.guards = some []) (hu : X.A.units + 200 < cLine) : CallR X (.builtin "repr") (fun xs H Q => ∃ v d, xs = [v] ∧ Has H v d ∧ okRep d = true ∧ Q (.str d.shown) H) := by
  intro pins s σ H xs us Q I r hh
  obtain ⟨v, d, rfl, hv, ok, q⟩ := hh
  obtain ⟨u, rfl, ru⟩ := vals1 r
  unfold okRep at ok
  simp only [Bool.and_eq_true, decide_eq_true_eq] at ok
  obtain ⟨⟨o1, o2⟩, o3⟩ := ok
  have hz : d.shown.length ≤ sizeLine := by
    rw [sizeLine_eq]
    omega
  have fin : ∀ (h' : Heap) (t : Tok) (tk : Nat), (∀ b o, s.heap.get? b = some o → h'.get? b = some o) → EP X pins σ Q (.str d.shown t) { s with heap := h', toks := tk } := fun h' t tk k =>
    ⟨.str d.shown, H, I.kept k, ⟨t, rfl⟩, q⟩
  have noC : ∀ (bs : List Addr), ∀ b ∈ bs, Clear [] b := fun _ b _ => Clear.nil b
  cases hv with
  | non =>
    cases ru
    simp only [PyData.shown] at fin
    exact PySem.P.repr_of_none (fin s.heap _ _ fun _ _ e => e)
  | bl b =>
    cases ru
    simp only [PyData.shown] at fin
    exact PySem.P.repr_of_bool (fin s.heap _ _ fun _ _ e => e)
  | int i =>
    obtain ⟨t, rfl⟩ := ru
    simp only [PyData.shown] at fin
    exact PySem.P.repr_of_int (by simpa [PyData.showable] using o1) (fin s.heap _ _ fun _ _ e => e)
  | str x =>
    obtain ⟨t, rfl⟩ := ru
    simp only [PyData.shown] at fin hz
    exact PySem.P.repr_of_str (fin s.heap _ _ fun _ _ e => e) hz
  | @lst a xs ds h1 h2 =>
    cases ru
    obtain ⟨its, n, rv, ho, _⟩ := I.lst h1
    simp only [PyData.shown] at fin hz
    have R := HasL.repr I h2 rv (by simpa [PyData.showable] using o1) fun t ht => Nat.le_trans (listText_mem_le ht) hz
    obtain ⟨⟨as, rd⟩, bs, nb, kr⟩ := R
    simp only [PyData.depth] at o3
    have r0 : Reads s.heap (.ref a) (.list ds) (a :: as) := .list ho rfl rfl rd
    have hna : a ∉ bs := by
      apply not_mem_of_deeper r0 _ nb
      simp only [PyData.depth]
      omega
    refine call_repr_slot (T := "list") (by omega) ⟨_, ho, rfl⟩ F.slot_list_repr.toG ?_
    cases its with
    | nil =>
      cases rd
      simp only [PyData.shownAll, listText_nil] at fin
      exact call_list_repr_empty ⟨_, ho, rfl⟩ ho rfl ⟨_, _, rfl, fin s.heap _ _ fun _ _ e => e⟩
    | cons y l =>
      refine call_list_reprK ho rfl rfl hna (by have := kr.length_eq; simpa using this) (fun i y e => kr.item i y (by simpa using e)) hg (noC _) (by show X.A.units + 1 + _ < cLine; omega) (fun _ _ e => e)
        (fun h' t tk k => ⟨_, _, rfl, fin h' t tk k⟩) hz
  | @tup a ob xs ds h1 hdn h2 =>
    cases ru
    obtain ⟨its, rv, ⟨o, ho, hc, n, hd⟩, _⟩ := I.tuple (sqF h1)
    simp only [PyData.shown] at fin hz
    have R := HasL.repr I h2 rv (by simpa [PyData.showable] using o1) fun t ht => Nat.le_trans (tupleText_mem_le ht) hz
    obtain ⟨⟨as, rd⟩, bs, nb, kr⟩ := R
    simp only [PyData.depth] at o3
    have r0 : Reads s.heap (.ref a) (.tuple ds) as := .tuple ho hc hd rd
    have hna : a ∉ bs := by
      apply not_mem_of_deeper r0 _ nb
      simp only [PyData.depth]
      omega
    refine call_repr_slot (T := "tuple") (by omega) ⟨_, ho, hc⟩ F.slot_tuple_repr ?_
    exact call_tuple_reprK ho hc hd hna kr hg (noC _) (by show X.A.units + 1 + _ < cLine; omega) (fun _ _ e => e) (fun h' t tk k => ⟨_, _, rfl, fin h' t tk k⟩) hz
  | @dct a kvs ds h1 h2 =>
    cases ru
    obtain ⟨_, hsys, vs, kv, o, es, ep, ho, hx, hd, _, pr, _⟩ := I.hok _ _ h1
    simp only [PyData.shown, PyData.shownKv_eq] at fin hz
    obtain ⟨p1, p2⟩ := HasK.repr I h2 kv pr (by simpa [PyData.showable] using o1) fun t ht => Nat.le_trans (dictText_mem_le ht) (by rw [PyData.shownKv_eq]; exact hz)
    obtain ⟨⟨as1, rd1⟩, bs1, nb1, kr1⟩ := p1
    obtain ⟨⟨as2, rd2⟩, bs2, nb2, kr2⟩ := p2
    simp only [PyData.depth] at o3
    have r0 : Reads s.heap (.ref a) (.dict ds) (a :: as1 ++ as2) := .dict ho hx.1 hd rd1 rd2
    have nb : ReadAtMost s.heap (PyData.depthKv ds) (bs1 ++ bs2) := (nb1.mono (PyData.depthAll_keys_le ds)).append (nb2.mono (PyData.depthAll_vals_le ds))
    have hna : a ∉ bs1 ++ bs2 := by
      apply not_mem_of_deeper r0 _ nb
      simp only [PyData.depth]
      omega
    have e1 := kr1.more_le (as' := bs1 ++ bs2) (fun c hc => List.mem_append_left _ hc) (PyData.depthAll_keys_le ds)
    have e2 := kr2.more_le (as' := bs1 ++ bs2) (fun c hc => List.mem_append_right _ hc) (PyData.depthAll_vals_le ds)
    refine call_repr_slot (T := "dict") (by omega) ⟨_, ho, hx.1⟩ F.slot_dict_repr ?_
    exact call_dict_reprK ho hx.1 hd hsys hna (ReprEntriesK.of_two es.toList _ _ e1 e2) hg (noC _) (by show X.A.units + 1 + _ < cLine; omega) (fun _ _ e => e) (fun h' t tk k => ⟨_, _, rfl, fin h' t tk k⟩) hz
theorem d_repr : CaD (fun xs H Q => ∃ v d, xs = [v] ∧ Has H v d ∧ okRep d = true ∧ Q (.str d.shown) H) (o1 oRepr) := by
  apply d_1
  intro β H0 H v x Q E e ok bf hv q
  unfold oRepr at q
  split at q
  · next c => exact ⟨v, x, rfl, hv.mono e, c, out_ret e ok bf (.str _) q⟩
  · exact q.elim
end Wb
set_option Elab.async false
set_option linter.all false
set_option maxRecDepth 100000
set_option maxHeartbeats 4000000
/-! Wb, part 8: lists of one's own, defs that are called, the source of draws. -/
namespace Wb
open PySem PySem.Spec PyProof.Rows L2
/-! ### a list that only this def holds -/
def sOwn (i : Nat) (fs : Env' → T (List D)) : Env' → T Fl := fun ρ => (fs ρ).lift ρ fun ds => .ret (.nx (ρ.set i (.own ds)))
def lLst (fs : Env' → T (List Ar)) : Env' → T (List D) := fun ρ => (fs ρ).bind fun as => match dsOf as with
  | some ds => if ds.length ≤ 1000000 then .ret ds else .bad
  | none => .bad
section
variable {X : Cx} {g : Ct} {a b c : Expr} {f h : Env' → T D} {pos : Pos} {st : Stmt} {sts : List Stmt} {F : Env' → T Fl} {fs : Env' → T (List Ar)}
theorem SR.setOwn {β : Box} {A B C H0 H : Hp} {ρ : Env'} {σ : L2.St} (r : SR g β A B C H0 ρ σ H) {i : Nat} {p : Addr} {vs : List V} {xs : List D} (hB : B p = none) (h : H p = some (.lst vs)) (hl : HasL H0 vs xs) (n : H0 p = none) (ns : ¬ β.S p)
    (fr : ∀ (j : Nat) (t : Sl) (u : Option V), j ≠ i → ρ[j]? = some t → σ[j]? = some u → ¬ t.foot H u p) : SR g β A B C H0 (ρ.set i (.own xs)) (σ.set i (some (.ref p))) H :=
  r.setB ⟨p, vs, rfl, h, hl, n, ns⟩ (fun j t u a ne h1 h2 f1 f2 => by
    cases f1
    exact fr j t u ne h1 h2 f2) fun a f => by
    cases f
    exact hB
/-- an address that nobody holds yet -/
theorem SR.fresh {β : Box} {A B C H0 H : Hp} {ρ : Env'} {σ : L2.St} (r : SR g β A B C H0 ρ σ H) {p : Addr} (hp : H p = none) : B p = none ∧ H0 p = none ∧ ¬ β.S p ∧
    ∀ {H1 H2 : Hp}, Stp β H0 H H1 H2 → ∀ (j : Nat) (t : Sl) (u : Option V), ρ[j]? = some t → σ[j]? = some u → ¬ t.foot H2 u p := by
  have h0 : H0 p = none := r.rel.ext.free hp
  have nS : ¬ β.S p := fun z => by
    obtain ⟨u, w⟩ := β.here H p r.rel.ok z
    rw [hp] at w
    cases w
  refine ⟨?_, h0, nS, fun st j t u a b f => r.rel.fresh hp st j t u a b f⟩
  cases q : B p with
  | none => rfl
  | some o =>
    exfalso
    cases qa : A p with
    | none =>
      have := (r.st.priv p o q qa).2 nS
      rw [hp] at this
      cases this
    | some u =>
      have := r.st.grow p u qa
      rw [h0] at this
      cases this
theorem s_own {i : Nat} (hs : PS X st (tAsg (tLst (tA g fs)) (gName i))) : PS X st (tS g (sOwn i (lLst fs))) := hs.imp fun E σ H ⟨β, A, B, C, H0, ρ, r, q⟩ => by
  unfold sOwn lLst at q
  rw [T.lift_bind] at q
  refine tA_lift r q fun as vs H1 H2 s hv q1 => ?_
  split at q1
  · next ds e =>
    split at q1
    · next hz =>
      have hl := hv.ds (dsOf_some e)
      have r1 := r.step s
      refine ⟨lim_line (by rw [hl.length]; exact hz), fun p hp => ?_⟩
      obtain ⟨f1, f2, f3, f4⟩ := r1.fresh hp
      have r2 := r1.step (r1.rel.junk (o := .lst vs) hp)
      exact q1 _ H1 _ (r2.setOwn f1 upd_same hl f2 f3 fun j ys q _ a b => f4 (r1.rel.junk hp) j ys q a b)
    · exact q1.elim
  · exact q1.elim
/-- slots at a heap that differs at one address, which slot i alone holds -/
theorem SR.chgB {β : Box} {A B C H0 H : Hp} {ρ : Env'} {σ : L2.St} (r : SR g β A B C H0 ρ σ H) {i : Nat} {s s' : Sl} {o : Option V} {p : Addr} {u w : HO} (hi : ρ[i]? = some s) (ho : σ[i]? = some o) (fp : s.foot H o p) (hp : H p = some u)
    (hs : SlOk g.cad β g.ξ H0 (upd H p w) s' o) (ff : ∀ a, s'.foot (upd H p w) o a → s.foot H o a) :
    SR g β A B C H0 (ρ.set i s') σ (upd H p w) := by
  obtain ⟨⟨u', hp', ne⟩, e4, e5⟩ := (r.rel.sl i _ _ hi ho).has fp
  rw [hp] at hp'
  cases hp'
  have hB := r.ow i s o p hi ho fp
  have same : Same H0 (upd H p w) := fun b u z => by
    rw [upd_ne (ne_of_none z e4)]
    exact r.rel.ext b u z
  have ok : β.ok (upd H p w) := β.stay H _ r.rel.ok fun a u hS z => by
    have na : a ≠ p := fun e => by
      rw [e] at hS z
      rcases hS with k | ⟨c, q, e2⟩
      · exact e5 k
      · rw [hp] at z
        cases z
        exact ne c q e2
    rw [upd_ne na]
    exact z
  -- what the other slots hold stays
  have kp : ∀ (j : Nat) (t : Sl) (v : Option V), j ≠ i → ρ[j]? = some t → σ[j]? = some v → ∀ a u, t.foot H v a → H a = some u → upd H p w a = some u := fun j t v nj a b q y f z => by
    have : q ≠ p := fun e => r.rel.apt j i t s v o q a hi b ho nj f (by rw [e]; exact fp)
    rw [upd_ne this]
    exact z
  have ft : ∀ (j : Nat) (t : Sl) (v : Option V) (a : Addr), (ρ.set i s')[j]? = some t → σ[j]? = some v → t.foot (upd H p w) v a → ∃ t0, ρ[j]? = some t0 ∧ t0.foot H v a := fun j t v a h1 h2 f => by
    rcases set_some h1 with ⟨rfl, rfl⟩ | ⟨n1, g1⟩
    · rw [ho] at h2
      cases h2
      exact ⟨s, hi, ff a f⟩
    · exact ⟨t, g1, (r.rel.sl j t v g1 h2).foot (kp j t v n1 g1 h2) f⟩
  refine ⟨⟨same, by simp [r.rel.len], fun j t v a b => ?_, fun j l t t' v v' a h1 h2 h3 h4 ne f1 f2 => ?_, ok, r.rel.boxf, r.rel.tabs⟩, r.st.mine hB e4 e5 (ncS hp ne), r.base, r.lk, fun j t v a h1 h2 f => ?_⟩
  · rcases set_some a with ⟨rfl, rfl⟩ | ⟨n1, g1⟩
    · rw [ho] at b
      cases b
      exact hs
    · have z := r.rel.sl j t v g1 b
      exact z.keep (fun _ _ h => h) (fun a f => (z.has f).2.1) (kp j t v n1 g1 b)
  · obtain ⟨x, k1, k2⟩ := ft j t v a h1 h3 f1
    obtain ⟨y, k3, k4⟩ := ft l t' v' a h2 h4 f2
    exact r.rel.apt j l x y v v' a k1 k3 h3 h4 ne k2 k4
  · obtain ⟨x, k1, k2⟩ := ft j t v a h1 h2 f
    exact r.ow j x v a k1 h2 k2
/-- what a list of one's own holds is changed -/
theorem SR.chg {β : Box} {A B C H0 H : Hp} {ρ : Env'} {σ : L2.St} (r : SR g β A B C H0 ρ σ H) {i : Nat} {xs ys : List D} {p : Addr} {vs : List V} (hi : ρ[i]? = some (.own xs)) (hp : σ[i]? = some (some (.ref p))) (hv : HasL H0 vs ys) :
    SR g β A B C H0 (ρ.set i (.own ys)) σ (upd H p (.lst vs)) := by
  obtain ⟨p', ws, e1, e2, e3, e4, e5⟩ := r.rel.sl i _ _ hi hp
  cases e1
  exact r.chgB hi hp rfl e2 ⟨p, vs, rfl, upd_same, hv, e4, e5⟩ fun a f => f
/-- n.append(e), n.extend(e) -/
def sApp (i : Nat) (f : Env' → T D) : Env' → T Fl := fun ρ => match ρ[i]? with
  | some (.own xs) => (f ρ).lift ρ fun d => if xs.length < 1000000 then .ret (.nx (ρ.set i (.own (xs ++ [d])))) else .bad
  | _ => .bad
def sExt (i : Nat) (f : Env' → T D) : Env' → T Fl := fun ρ => match ρ[i]? with
  | some (.own xs) => (f ρ).lift ρ fun d => match d with
    | .list ys => if xs.length + ys.length ≤ 1000000 then .ret (.nx (ρ.set i (.own (xs ++ ys)))) else .bad
    | _ => .bad
  | _ => .bad
theorem own_at {β : Box} {A B C H0 H : Hp} {ρ : Env'} {σ : L2.St} (r : SR g β A B C H0 ρ σ H) {i : Nat} {xs : List D} (hi : ρ[i]? = some (.own xs)) :
    ∃ p vs, σ[i]? = some (some (.ref p)) ∧ H p = some (.lst vs) ∧ HasL H0 vs xs := by
  have hl : i < σ.length := by
    rw [← r.rel.len]
    exact (List.getElem?_eq_some_iff.mp hi).1
  obtain ⟨p, vs, e1, e2, e3, _⟩ := r.rel.sl i _ _ hi (List.getElem?_eq_getElem hl)
  exact ⟨p, vs, by rw [List.getElem?_eq_getElem hl, e1], e2, e3⟩
theorem s_app {i : Nat} (hs : PS X st (tDrop (tBM X.K "list" rAppend (tVar i) (tCons (tE g f) tNil)))) : PS X st (tS g (sApp i f)) := hs.imp fun E σ H ⟨β, A, B, C, H0, ρ, r, q⟩ => by
  unfold sApp at q
  split at q
  · next xs hx =>
    obtain ⟨p, vs, e1, e2, e3⟩ := own_at r hx
    refine ⟨.ref p, e1, .inl ⟨rfl, vs, SqL.of e2⟩, tE_lift r q fun d v H1 H2 s hv q1 => ?_⟩
    split at q1
    · next hz =>
      have r1 := r.step s
      obtain ⟨p', vs', e1', e2', e3'⟩ := own_at r1 hx
      rw [e1] at e1'
      cases e1'
      have hlen := e3'.length
      refine ⟨p, vs', v, rfl, rfl, e2', ?_, q1 _ H1 _ (r1.chg hx e1 (e3'.append (.cons hv .nil)))⟩
      rw [sizeLine_eq]
      omega
    · exact q1.elim
  · exact q.elim
/-- from here on the list is data like other data -/
def sFrz (i : Nat) (F : Env' → T Fl) : Env' → T Fl := fun ρ => match ρ[i]? with
  | some (.own xs) => F (ρ.set i (.d (.list xs)))
  | _ => F ρ
theorem SR.frz {β : Box} {A B C H0 H H0' : Hp} {ρ : Env'} {σ : L2.St} (r : SR g β A B C H0 ρ σ H) {i : Nat} {s : Sl} {o : Option V} {v : V} {d : D} (hi : ρ[i]? = some s) (ho : σ[i]? = some o) (ev : o = some v) (stp : Stp β A B H0' H) (grow : Same H0 H0')
    (hd : Has H0' v d) (nw : ∀ a, H0 a = none → ¬ s.foot H o a → H0' a = none) : SR g β A B C H0' (ρ.set i (.d d)) σ H := by
  refine ⟨⟨stp.ext, by simp [r.rel.len], fun j t v' a b => ?_, fun j l t t' v v' a h1 h2 h3 h4 ne f1 f2 => ?_, r.rel.ok, stp.boxf, r.rel.tabs⟩, stp, r.base.trans grow, r.lk, fun j t v a h1 h2 f => ?_⟩
  · rcases set_some a with ⟨rfl, rfl⟩ | ⟨n1, g1⟩
    · rw [ho] at b
      cases b
      exact ⟨v, ev, hd⟩
    · have z := r.rel.sl j t v' g1 b
      exact z.keep grow (fun a f => nw a (z.has f).2.1 fun f' => r.rel.apt j i t s v' o a g1 hi b ho n1 f f') (fun _ _ _ h => h)
  · rcases set_some h1 with ⟨rfl, rfl⟩ | ⟨n1, g1⟩
    · exact f1
    · rcases set_some h2 with ⟨rfl, rfl⟩ | ⟨n2, g2⟩
      · exact f2
      · exact r.rel.apt j l t t' v v' a g1 g2 h3 h4 ne f1 f2
  · rcases set_some h1 with ⟨rfl, rfl⟩ | ⟨n1, g1⟩
    · exact f.elim
    · exact r.ow j t v a g1 h2 f
theorem ss_frz {i : Nat} (hs : PSs X sts (tS g F)) : PSs X sts (tS g (sFrz i F)) := hs.imp fun E σ H ⟨β, A, B, C, H0, ρ, r, q⟩ => by
  unfold sFrz at q
  split at q
  · next xs hx =>
    have hl : i < σ.length := by
      rw [← r.rel.len]
      exact (List.getElem?_eq_some_iff.mp hx).1
    obtain ⟨p, vs, e1, e2, e3, e4, e5⟩ := r.rel.sl i _ _ hx (List.getElem?_eq_getElem hl)
    have es : σ[i]? = some (some (.ref p)) := by rw [List.getElem?_eq_getElem hl, e1]
    have hB := r.own i xs p hx es
    have stp := r.st.known hB e4 e5 e2
    have grow : Same H0 (upd H0 p (.lst vs)) := fun b u z => by
      rw [upd_ne (ne_of_none z e4)]
      exact z
    refine ⟨β, A, B, C, upd H0 p (.lst vs), _, r.frz hx es rfl stp grow (.lst upd_same (upd_has e4 e3)) (fun a ha f => ?_), q⟩
    have : a ≠ p := fun e => f (by rw [e]; rfl)
    rw [upd_ne this]
    exact ha
  · exact ⟨β, A, B, C, H0, ρ, r, q⟩
end
/-! ### a def that is called -/
structure Cal (P : Program) (w : World) (K : PySem.W.Frag) (mg : Str → Option Value) (base : Heap) (cad : Cad) (x : Str) (k n : Nat) (m : List Ar → T D) : Prop where
  ex : ∃ (fa : Addr) (fd : FuncData) (ps : List Str), FnG P w K mg base k fa fd ps (spD cad n m) ∧ mg x = some (.ref fa) ∧ PySem.W.keepIn K (.ref fa) = true ∧ Binds K fd ps []
theorem r_cal {X : Cx} {g : Ct} {a : Expr} {es : List Expr} {fs : Env' → T (List Ar)} {x : Str} {p pos : Pos} {j k n : Nat} {m : List Ar → T D} (C : Cal X.prog X.w X.K X.mg X.base g.cad x j n m) (hr : Room k X.A) (hjk : j ≤ k) (hgu : X.A.guards = some []) (hg : Gl X x) (tk : Takes X g.W) (ha : PA X (a :: es) (tA g fs))
    (hdb : (x == ("__debug__" : Str)) = false := by decide) (he : starEach (a :: es) X.env = (false, eval a X.env) :: starEach es X.env := by rfl) (hpl : (backTo pos (starEach es X.env)).any (·.1) = false := by rfl) :
    PE X (.Call (.Name x p) (a :: es) [] pos) (tE g (eCall n m fs)) := by
  obtain ⟨fa, fd, ps, F, h1, h2, h3⟩ := C.ex
  exact r_call F (hr.mono hjk) hgu hg h1 h2 h3 tk ha hdb he hpl
/-- a class of errors with one field, that is raised -/
structure Err1 (P : Program) (w : World) (K : PySem.W.Frag) (mg : Str → Option Value) (base : Heap) (cad : Cad) (x fl : Str) : Prop where
  ex : ∃ (C fI : Addr) (fd : FuncData) (ps : List Str), ErrC K mg x C fI ∧ cad x = some C ∧ FnOk P w K mg base CX0 1 fI fd ps (spI1 C fl) ∧ Binds K fd ps [] ∧ PySem.W.findIn K (.ref C) fl = some none
theorem s_raiseE {X : Cx} {g : Ct} {a : Expr} {f : Env' → T D} {x fl : Str} {p pos pos2 : Pos} {k : Nat} (Er : Err1 X.prog X.w X.K X.mg X.base g.cad x fl) (hc : X.calm = true) (tk : Takes X g.W) (hr : Room k X.A) (hk : 2 ≤ k) (hg : Gl X x) (ha : PE X a (tE g f))
    (hdb : (x == ("__debug__" : Str)) = false := by decide) (hs : starEach [a] X.env = (false, eval a X.env) :: starEach [] X.env := by rfl) (hpl : (backTo pos (starEach [] X.env)).any (·.1) = false := by rfl) :
    PS X (.Raise (some (.Call (.Name x p) [a] [] pos)) none pos2) (tS g (sRaise1 x fl f)) := by
  obtain ⟨C, fI, fd, ps, T, hcad, F, hb, _⟩ := Er.ex
  exact s_raise1 hc tk T hcad F (hr.mono hk) hb hg ha hdb hs hpl
end Wb
set_option Elab.async false
set_option linter.all false
set_option maxRecDepth 100000
set_option maxHeartbeats 4000000
/-! Wb, part 9: comprehensions of two clauses, tuples in order. -/
namespace Wb
open PySem PySem.Spec PyProof.Rows L2
/-! ### t > u, tuples of ints -/
end Wb
set_option Elab.async false
set_option linter.all false
set_option maxRecDepth 100000
set_option maxHeartbeats 4000000
/-! Wb, part 10: the source of draws that is a list of three numbers. -/
namespace Wb
open PySem PySem.Spec PyProof.Rows L2
/-- the draw -/
def mDip : List Ar → T D
  | [.box false, .d (.int m)] => .draw m fun i => .ret (.int i)
  | _ => .bad
abbrev rMod0 : R2 := rI (fun _ j => j ≠ 0) fun i j => .int (i.fmod j)
abbrev rInt1 : List V → Hp → VK → Prop := fun xs H Q => (∃ i, xs = [V.int i] ∧ Q (V.int i) H) ∨ ∃ k, xs = [V.bl k] ∧ Q (V.int (if k = true then 1 else 0)) H
theorem log2_small {m : Int} (h0 : 0 < m) (h : m < 10000000000000000000000000000000000000000) : m.natAbs.log2 < 9000 := by
  have h2 : (2 : Nat) ^ 133 ≤ 2 ^ 9000 := Nat.pow_le_pow_right (by decide) (by decide)
  have h3 : (10000000000000000000000000000000000000000 : Nat) ≤ 2 ^ 133 := by decide +kernel
  exact (Nat.log2_lt (by omega)).mpr (by omega)
theorem fmod_in {i m : Int} (h : 0 < m) : 0 ≤ i.fmod m ∧ i.fmod m < m := ⟨Int.fmod_nonneg_of_pos i h, Int.fmod_lt_of_pos i h⟩
theorem HasAs.two' {β : Box} {H0 : Hp} {vs : List V} {a b : Ar} (h : HasAs β H0 vs [a, b]) : ∃ v w, vs = [v, w] ∧ HasA β H0 v a ∧ HasA β H0 w b := by
  cases h with
  | cons h r =>
    cases r with
    | cons h2 r2 =>
      cases r2
      exact ⟨_, _, rfl, h, h2⟩
end Wb
set_option Elab.async false
set_option linter.all false
set_option maxRecDepth 100000
set_option maxHeartbeats 4000000
/-! Wb, part 11: the list of three numbers, made of the script; the law's own beginning. -/
namespace Wb
open PySem PySem.Spec PyProof.Rows L2
def rAbs1 : List V → Hp → VK → Prop := fun xs H Q => ∃ i, xs = [V.int i] ∧ Q (V.int (if i < 0 then -i else i)) H
end Wb
set_option Elab.async false
set_option linter.all false
set_option maxRecDepth 100000
set_option maxHeartbeats 4000000
/-! Wb, part 12: what a law's text asks for besides. -/
namespace Wb
open PySem PySem.Spec PyProof.Rows L2
abbrev oIsI (n : String) : D → T D := fun d => .ret (.bool (isaD n d))
abbrev Kit (K : PySem.W.Frag) (n : String) : Prop := ∀ m ∈ ["NoneType", "bool", "int", "str", "list", "tuple", "dict"], PySem.W.kitOne K (.type m) (.type n) = some (m == n || (n == "int" && m == "bool"))
def kitAll (n : String) : Bool := ["NoneType", "bool", "int", "str", "list", "tuple", "dict"].all fun m => decide (kitB m n = some (m == n || (n == "int" && m == "bool")))
theorem kit_by {K : PySem.W.Frag} {n : String} (h : kitAll n = true) : Kit K n := fun m hm => kit_ty (of_decide_eq_true (List.all_eq_true.mp h m hm))
theorem kit_int {K : PySem.W.Frag} : Kit K "int" := kit_by (by decide +kernel)
theorem kit_bool {K : PySem.W.Frag} : Kit K "bool" := kit_by (by decide +kernel)
theorem kit_str {K : PySem.W.Frag} : Kit K "str" := kit_by (by decide +kernel)
theorem kit_tuple {K : PySem.W.Frag} : Kit K "tuple" := kit_by (by decide +kernel)
theorem un200 {A : Around} {k : Nat} (h : Room k A) : A.units + 200 < cLine := by
  have := h.un
  omega
theorem look1 {α : Type} {x : Str} {v : α} {l : List (Str × α)} : ((x, v) :: l).lookup x = some v := by simp
theorem look2 {α : Type} {x y : Str} {v u : α} {l : List (Str × α)} (n : (x == y) = false) (k : l.lookup x = some u) : ((y, v) :: l).lookup x = some u := by
  rw [List.lookup_cons, n]
  exact k
/-- the law's def, from its first statement on -/
theorem FnG.lawT {TB : List (Addr × Str)} {P : Program} {w : World} {K : PySem.W.Frag} {mg : Str → Option Value} {base : Heap} {cad : Cad} {x qual : Str} {st : Stmt} {fa : Addr} {fd : FuncData} {N : List Str} {k : Nat} {F : Env' → T Fl} {rest : List Stmt} {ps : Str} {opn : Str} {p1 p2 p3 p4 p5 : Pos} {spO : Sp} {k0 : Bool}
    (Fu : Fun K x qual st fa fd) (S : FnScope N [ps] (defScope st)) (hb0 : defBody st = .Assign [.Name (N.getD 1 ps) p1] (.Call (.Name opn p2) [.Name ps p3] [] p4) p5 :: rest) (hN : 2 ≤ N.length)
    (hTab : ∀ (β : Box) (v : V), boxIs k0 β v → β.tabs = TB → cad.bx β)
    (hO : ∀ vs H Q E, (∃ (a : Addr) (ns : List Int), vs = [.ref a] ∧ SqL K H a (ns.map V.int) ∧ ns.length ≤ 63 ∧ LamX.Tabs TB H ∧ ∀ (β : Box) v H', boxIs k0 β v → β.tabs = TB → β.ok H' → Q v H') → spO vs H Q E)
    (hfirst : ∀ (cdv : Value) (A : Around) (outer : List Env) (s : Shared) (H : Hp) (E : XK), Room k (A.deeper (envOfC qual (defScope st) s.heap.objs.size fa cdv)) → (A.deeper (envOfC qual (defScope st) s.heap.objs.size fa cdv)).guards = some [] →
      PS (bodyX P w K mg base N qual st fa cdv A outer s H E) (.Assign [.Name (N.getD 1 ps) p1] (.Call (.Name opn p2) [.Name ps p3] [] p4) p5) (tAsg (tCallW spO [] (fun _ _ _ _ => False) (tCons (tVar 0) tNil)) (gName 1)))
    (hbody : ∀ (cdv : Value) (A : Around) (outer : List Env) (s : Shared) (H : Hp) (E : XK), Room k (A.deeper (envOfC qual (defScope st) s.heap.objs.size fa cdv)) → (A.deeper (envOfC qual (defScope st) s.heap.objs.size fa cdv)).guards = some [] →
      PSs (bodyX P w K mg base N qual st fa cdv A outer s H E) rest (tS ⟨cad, none, fun c d _ H' => E c d H', fun _ _ _ => True⟩ F))
    (hF : (F ([Sl.no, .box k0] ++ List.replicate (N.length - 2) .no)).run.wp (fun d => d = .bool true) (fun _ => False)) :
    FnG P w K mg base (k + 1) fa fd [ps] (fun vs H Q _ => ∃ (a : Addr) (ns : List Int), vs = [.ref a] ∧ SqL K H a (ns.map V.int) ∧ ns.length ≤ 63 ∧ LamX.Tabs TB H ∧ ∀ H', Q (.bl true) H') := by
  refine FnG.of Fu S (fun vs H Q E h => ?_) fun cdv A outer s H vs Q E hr hg h => ?_
  · obtain ⟨a, ns, rfl, _⟩ := h
    rfl
  · obtain ⟨a, ns, rfl, hS, hl, tb, q⟩ := h
    rw [hb0]
    refine ⟨_, pss_cons (hfirst cdv A outer s H E hr hg) (hbody cdv A outer s H E hr hg), ?_⟩
    have es : L2.start N [.ref a] = some (.ref a) :: none :: List.replicate (N.length - 2) none := by
      unfold L2.start
      obtain ⟨n, hn⟩ : ∃ n, N.length = n + 2 := ⟨N.length - 2, by omega⟩
      simp [hn, List.replicate_succ]
    rw [es]
    refine ⟨.ref a, rfl, hO _ _ _ _ ⟨a, ns, rfl, hS, hl, tb, fun β v H' hv ht ok => ?_⟩⟩
    refine ⟨β, fun _ => none, H', fun _ => none, fun _ => none, [Sl.no, .box k0] ++ List.replicate (N.length - 2) .no, ⟨⟨(fun _ _ z => nomatch z), ?_, fun i sl o ha hb => ?_, fun i _ xs _ p _ _ ha _ _ _ _ f _ => ?_, ok, fun _ _ => rfl, hTab β v hv ht⟩, Stp.refl (fun _ _ z => nomatch z) ok (fun _ _ => rfl), fun _ _ z => z, trivial, fun i xs p _ ha _ f => ?_⟩, ?_⟩
    · simp
    · match i, ha, hb with
      | 0, ha, hb =>
        cases ha
        trivial
      | 1, ha, hb =>
        cases ha
        cases hb
        exact ⟨v, rfl, hv⟩
      | i + 2, ha, hb =>
        have ha' : (List.replicate (N.length - 2) Sl.no)[i]? = some sl := ha
        rw [List.getElem?_replicate] at ha'
        split at ha'
        · cases ha'
          trivial
        · cases ha'
    · match i, ha with
      | 0, ha =>
        cases ha
        exact f.elim
      | 1, ha =>
        cases ha
        exact f.elim
      | i + 2, ha =>
        have ha' : (List.replicate (N.length - 2) Sl.no)[i]? = some xs := ha
        rw [List.getElem?_replicate] at ha'
        split at ha' <;> cases ha'
        exact f.elim
    · match i, ha with
      | 0, ha =>
        cases ha
        exact f.elim
      | 1, ha =>
        cases ha
        exact f.elim
      | i + 2, ha =>
        have ha' : (List.replicate (N.length - 2) Sl.no)[i]? = some xs := ha
        rw [List.getElem?_replicate] at ha'
        split at ha' <;> cases ha'
        exact f.elim
    · refine T.wp_mono (fun fl z => ?_) (fun x z => z) _ ((T.wp_run _).mp hF)
      cases fl with
      | nx ρ' =>
        have z' : PyData.none = .bool true := z
        cases z'
      | ret d =>
        have z' : d = .bool true := z
        subst z'
        intro v H0' H2 st hv2
        cases hv2
        exact q H2
      | exc y ρ' => exact z.elim
      | brk _ => exact z.elim
      | cnt _ => exact z.elim
theorem FnG.weak {P : Program} {w : World} {K : PySem.W.Frag} {mg : Str → Option Value} {base : Heap} {k : Nat} {fa : Addr} {fd : FuncData} {ps : List Str} {sp sp' : Sp} (h : FnG P w K mg base k fa fd ps sp) (i : ∀ vs H Q E, sp' vs H Q E → sp vs H Q E) : FnG P w K mg base k fa fd ps sp' :=
  ⟨fun vs H Q E z => h.len vs H Q E (i vs H Q E z), fun A outer s H args us vs Q E h1 h2 h3 h4 h5 z => h.go A outer s H args us vs Q E h1 h2 h3 h4 h5 (i vs H Q E z)⟩
/-- the same without tables -/
theorem FnG.law {P : Program} {w : World} {K : PySem.W.Frag} {mg : Str → Option Value} {base : Heap} {cad : Cad} {x qual : Str} {st : Stmt} {fa : Addr} {fd : FuncData} {N : List Str} {k : Nat} {F : Env' → T Fl} {rest : List Stmt} {ps : Str} {opn : Str} {p1 p2 p3 p4 p5 : Pos} {spO : Sp} {k0 : Bool}
    (Fu : Fun K x qual st fa fd) (S : FnScope N [ps] (defScope st)) (hb0 : defBody st = .Assign [.Name (N.getD 1 ps) p1] (.Call (.Name opn p2) [.Name ps p3] [] p4) p5 :: rest) (hN : 2 ≤ N.length)
    (hTab : ∀ (β : Box) (v : V), boxIs k0 β v → β.tabs = [] → cad.bx β)
    (hO : ∀ vs H Q E, (∃ (a : Addr) (ns : List Int), vs = [.ref a] ∧ SqL K H a (ns.map V.int) ∧ ns.length ≤ 63 ∧ LamX.Tabs [] H ∧ ∀ (β : Box) v H', boxIs k0 β v → β.tabs = [] → β.ok H' → Q v H') → spO vs H Q E)
    (hfirst : ∀ (cdv : Value) (A : Around) (outer : List Env) (s : Shared) (H : Hp) (E : XK), Room k (A.deeper (envOfC qual (defScope st) s.heap.objs.size fa cdv)) → (A.deeper (envOfC qual (defScope st) s.heap.objs.size fa cdv)).guards = some [] →
      PS (bodyX P w K mg base N qual st fa cdv A outer s H E) (.Assign [.Name (N.getD 1 ps) p1] (.Call (.Name opn p2) [.Name ps p3] [] p4) p5) (tAsg (tCallW spO [] (fun _ _ _ _ => False) (tCons (tVar 0) tNil)) (gName 1)))
    (hbody : ∀ (cdv : Value) (A : Around) (outer : List Env) (s : Shared) (H : Hp) (E : XK), Room k (A.deeper (envOfC qual (defScope st) s.heap.objs.size fa cdv)) → (A.deeper (envOfC qual (defScope st) s.heap.objs.size fa cdv)).guards = some [] →
      PSs (bodyX P w K mg base N qual st fa cdv A outer s H E) rest (tS ⟨cad, none, fun c d _ H' => E c d H', fun _ _ _ => True⟩ F))
    (hF : (F ([Sl.no, .box k0] ++ List.replicate (N.length - 2) .no)).run.wp (fun d => d = .bool true) (fun _ => False)) :
    FnG P w K mg base (k + 1) fa fd [ps] (fun vs H Q _ => ∃ (a : Addr) (ns : List Int), vs = [.ref a] ∧ SqL K H a (ns.map V.int) ∧ ns.length ≤ 63 ∧ ∀ H', Q (.bl true) H') :=
  (FnG.lawT (TB := []) Fu S hb0 hN hTab hO hfirst hbody hF).weak fun vs H Q E ⟨a, ns, h1, h2, h3, h4⟩ => ⟨a, ns, h1, h2, h3, (fun _ z => nomatch z), h4⟩
end Wb
set_option Elab.async false
set_option linter.all false
set_option maxRecDepth 100000
set_option maxHeartbeats 4000000
/-! Wb, part 13: reckoning with trees and data. -/
namespace Wb
open PySem PySem.Spec PyProof.Rows L2
section
variable {α β : Type} {P Q : α → Prop} {E E' : Exn → Prop}
theorem T.le {t : T α} (h : t.wp P noE) (k : ∀ a, P a → Q a) : t.wp Q E := T.wp_mono k (fun _ z => z.elim) t h
theorem T.thn {P : β → Prop} {t : T α} {f : α → T β} (h : t.wp (fun a => (f a).wp P E) E) : (t.bind f).wp P E := (T.wp_bind _ _).mpr h
theorem T.qt : ∀ {t : T α}, t.wp P noE → t.quiet.wp P E
  | .ret _, h => h
  | .draw _ _, h => ⟨h.1, h.2.1, fun i a b => T.qt (h.2.2 i a b)⟩
  | .exc _, h => h.elim
  | .bad, h => h.elim
end
section
variable {P : Fl → Prop} {ρ : Env'} {F G : Env' → T Fl} {f t : Env' → T D} {it : Env' → T (List D)} {bd : D → Env' → Option Env'} {i : Nat}
/-- what a turn of a loop must end in -/
def turnF (I : Env' → Prop) (P : Fl → Prop) : Fl → Prop
  | .nx ρ => I ρ
  | .cnt ρ => I ρ
  | .brk ρ => P (.nx ρ)
  | .ret d => P (.ret d)
  | .exc x ρ => P (.exc x ρ)
/-- a loop whose turns keep I -/
theorem h_go (I : Env' → Prop) : ∀ (ds : List D) (ρ : Env'), I ρ → (∀ d ∈ ds, ∀ ρ, I ρ → ∃ ρ1, bd d ρ = some ρ1 ∧ (F ρ1).wp (turnF I P) noE) → (∀ ρ, I ρ → P (.nx ρ)) → (forGo bd F ds ρ).wp P noE
  | [], ρ, h0, _, h2 => h2 ρ h0
  | d :: r, ρ, h0, h1, h2 => by
    obtain ⟨ρ1, e, hw⟩ := h1 d (List.mem_cons_self ..) ρ h0
    unfold forGo
    rw [e]
    refine T.thn (T.wp_mono (fun fl z => ?_) (fun _ z => z) _ hw)
    have rest : ∀ ρ', I ρ' → (forGo bd F r ρ').wp P noE := fun ρ' i' => h_go I r ρ' i' (fun d hd => h1 d (List.mem_cons_of_mem _ hd)) h2
    cases fl with
    | nx ρ' => exact rest ρ' z
    | cnt ρ' => exact rest ρ' z
    | brk ρ' => exact z
    | ret d => exact z
    | exc x ρ' => exact z
end
/-! ### comprehensions -/
section
variable {bd : D → Env' → Option Env'} {t e : Env' → T D} {ρ : Env'} {f : D → D} {p : D → Bool}
/-- each item gives something of its own kind -/
inductive Each (R : D → D → Prop) : List D → List D → Prop
  | nil : Each R [] []
  | cons {d y : D} {ds ys : List D} : R d y → Each R ds ys → Each R (d :: ds) (y :: ys)
theorem Each.length {R : D → D → Prop} : ∀ {ds ys : List D}, Each R ds ys → ys.length = ds.length
  | _, _, .nil => rfl
  | _, _, .cons _ r => by simp [Each.length r]
theorem lc_wp {R : D → D → Prop} {P : List D → Prop} {E : Exn → Prop} : ∀ (ds : List D), (∀ d ∈ ds, ∃ ρ1, bd d ρ = some ρ1 ∧ t ρ1 = .ret (.bool true) ∧ (e ρ1).wp (R d) noE) → (∀ ys, Each R ds ys → P ys) → (lcGo bd t e ρ ds).wp P E
  | [], _, h => h [] .nil
  | d :: r, h1, h => by
    obtain ⟨ρ1, e1, e2, hw⟩ := h1 d (List.mem_cons_self ..)
    unfold lcGo
    rw [e1]
    simp only [e2, T.quiet, T.ret_bind]
    refine T.thn (T.qt (T.le (E := noE) hw fun y hy => ?_))
    refine T.thn (lc_wp (P := fun ys => P (y :: ys)) r (fun d hd => h1 d (List.mem_cons_of_mem _ hd)) fun ys k => h _ (.cons hy k))
theorem eLc_ret {vs : List Nat} {it : Env' → T (List D)} {ds ys : List D} (h1 : it ρ = .ret ds) (h2 : ds.length ≤ 1000000) (h3 : lcGo bd t e (wipeE ρ vs) ds = .ret ys) : eLc vs it bd t e ρ = .ret (.list ys) := by
  unfold eLc
  rw [h1]
  simp only [T.ret_bind, h2, if_true, h3]
theorem eLc_wp {vs : List Nat} {it : Env' → T (List D)} {ds : List D} {P : D → Prop} {E : Exn → Prop} (h1 : it ρ = .ret ds) (h2 : ds.length ≤ 1000000) (h3 : (lcGo bd t e (wipeE ρ vs) ds).wp (fun ys => P (.list ys)) E) : (eLc vs it bd t e ρ).wp P E := by
  unfold eLc
  rw [h1]
  simp only [T.ret_bind, h2, if_true]
  exact T.thn h3
end
/-! ### repr -/
def tid (d : D) : Bool := d.leavesShort 60 && d.showable
theorem okRep_of {d : D} (h : tid d = true) (hb : d.bulk ≤ 100000) (hd : d.depth ≤ 60) : okRep d = true := by
  unfold tid at h
  rw [Bool.and_eq_true] at h
  have e := PyData.shown_le_bulk 60 (by decide) d h.1
  unfold okRep
  rw [Bool.and_eq_true, Bool.and_eq_true]
  refine ⟨⟨h.2, decide_eq_true (by omega)⟩, decide_eq_true (by omega)⟩
theorem tid_int {i : Int} (h : i.natAbs < 10 ^ 50) : tid (.int i) = true := by
  unfold tid
  rw [Bool.and_eq_true]
  constructor
  · have e := int_text_length_le10 (a := i) (k := 50) (by decide) h
    unfold PyData.leavesShort
    refine decide_eq_true ?_
    show (Str.ofString (toString i)).length ≤ 60
    rw [PySem.ofString_length]
    omega
  · unfold PyData.showable
    refine decide_eq_true ?_
    by_cases h0 : i.natAbs = 0
    · rw [h0]
      decide
    · refine (Nat.log2_lt h0).mpr (Nat.lt_of_lt_of_le h ?_)
      decide +kernel
theorem tid_list {xs : List D} : tid (.list xs) = xs.all tid := by
  induction xs with
  | nil => rfl
  | cons x r ih =>
    unfold tid at ih ⊢
    simp only [PyData.leavesShort, PyData.leavesShortAll, PyData.showable, PyData.showableAll, List.all_cons] at ih ⊢
    rw [← ih]
    cases x.leavesShort 60 <;> cases x.showable <;> simp
theorem tid_tuple {xs : List D} : tid (.tuple xs) = xs.all tid := by
  rw [← tid_list]
  rfl
end Wb
set_option Elab.async false
set_option linter.all false
set_option maxRecDepth 100000
set_option maxHeartbeats 4000000
/-! Wb, part 14: reckoned out by simp. -/
namespace Wb
open PySem PySem.Spec PyProof.Rows L2
section
variable {α β : Type} {ρ : Env'} {f h k : Env' → T D} {fs : Env' → T (List Ar)} {F G : Env' → T Fl} {x y : D} {i n : Nat} {P : α → Prop} {E : Exn → Prop}
@[simp] theorem T.wp_ret' (a : α) : (T.ret a).wp P E ↔ P a := Iff.rfl
@[simp] theorem T.wp_bad' : (T.bad : T α).wp P E ↔ False := Iff.rfl
@[simp] theorem T.wp_bind'' {P : β → Prop} (t : T α) (g : α → T β) : (t.bind g).wp P E ↔ t.wp (fun a => (g a).wp P E) E := T.wp_bind t g
@[simp] theorem T.wp_lift'' {P : Fl → Prop} (t : T α) (g : α → T Fl) : (t.lift ρ g).wp P E ↔ t.wp (fun a => (g a).wp P E) (fun x => P (.exc x ρ)) := T.wp_lift t
@[simp] theorem T.wp_run'' {P : D → Prop} (t : T Fl) : t.run.wp P E ↔ t.wp (fun fl => (endF fl).wp P E) noE := T.wp_run t
@[simp] theorem ev_C : eC x ρ = .ret x := rfl
@[simp] theorem ev_V0 {r : Env'} : eV 0 (.d x :: r) = .ret x := rfl
@[simp] theorem ev_VS {s : Sl} {r : Env'} : eV (i + 1) (s :: r) = eV i r := rfl
@[simp] theorem ev_un {o : D → T D} : eUn o f ρ = (f ρ).bind o := rfl
@[simp] theorem ev_bin {o : D → D → T D} : eBin o f h ρ = (f ρ).bind fun x => (h ρ).bind fun y => o x y := rfl
def chB (t : T D) : D → T D
  | .bool true => t
  | .bool false => .ret (.bool false)
  | _ => .bad
def orB (t : T D) : D → T D
  | .bool false => t
  | .bool true => .ret (.bool true)
  | _ => .bad
def ifB (t u : T D) : D → T D
  | .bool true => t
  | .bool false => u
  | _ => .bad
@[simp] theorem chB_t {t : T D} : chB t (.bool true) = t := rfl
@[simp] theorem chB_f {t : T D} : chB t (.bool false) = .ret (.bool false) := rfl
@[simp] theorem chB_b {b c : Bool} : chB (.ret (.bool c)) (.bool b) = .ret (.bool (b && c)) := by cases b <;> rfl
@[simp] theorem orB_f {t : T D} : orB t (.bool false) = t := rfl
@[simp] theorem orB_t {t : T D} : orB t (.bool true) = .ret (.bool true) := rfl
@[simp] theorem orB_b {b c : Bool} : orB (.ret (.bool c)) (.bool b) = .ret (.bool (b || c)) := by cases b <;> rfl
@[simp] theorem ifB_t {t u : T D} : ifB t u (.bool true) = t := rfl
@[simp] theorem ifB_f {t u : T D} : ifB t u (.bool false) = u := rfl
@[simp] theorem ev_ch {o o' : D → D → T D} : eCh o o' f h k ρ = (f ρ).bind fun x => (h ρ).bind fun y => (o x y).bind (chB ((k ρ).bind fun w => o' y w)) := rfl
@[simp] theorem ev_and : eAnd f h ρ = (f ρ).bind (chB (h ρ)) := rfl
@[simp] theorem ev_or : eOr f h ρ = (f ρ).bind (orB (h ρ)) := rfl
@[simp] theorem ev_if : eIf k f h ρ = (k ρ).bind (ifB (f ρ) (h ρ)) := rfl
@[simp] theorem ev_nil : aNil ρ = .ret [] := rfl
@[simp] theorem ev_cons : aCons f fs ρ = (f ρ).bind fun d => (fs ρ).bind fun r => .ret (.d d :: r) := rfl
@[simp] theorem ev_box0 {kk : Bool} {r : Env'} : aBox 0 fs (.box kk :: r) = (fs (.box kk :: r)).bind fun s => .ret (.box kk :: s) := rfl
@[simp] theorem ev_box1 {kk : Bool} {s : Sl} {r : Env'} : aBox 1 fs (s :: .box kk :: r) = (fs (s :: .box kk :: r)).bind fun q => .ret (.box kk :: q) := rfl
@[simp] theorem ev_cb {o : List Ar → T D} : eCb o fs ρ = (fs ρ).bind o := rfl
@[simp] theorem ev_call {m : List Ar → T D} : eCall n m fs ρ = (fs ρ).bind fun as => if as.length = n then m as else .bad := rfl
def mkTup : Option (List D) → T D
  | some ds => if ds.length ≤ 1000000 then .ret (.tuple ds) else .bad
  | none => .bad
def mkLst : Option (List D) → T D
  | some ds => if ds.length ≤ 1000000 then .ret (.list ds) else .bad
  | none => .bad
@[simp] theorem mkTup_s {ds : List D} : mkTup (some ds) = if ds.length ≤ 1000000 then .ret (.tuple ds) else .bad := rfl
@[simp] theorem mkLst_s {ds : List D} : mkLst (some ds) = if ds.length ≤ 1000000 then .ret (.list ds) else .bad := rfl
@[simp] theorem ev_tup : eTup fs ρ = (fs ρ).bind fun as => mkTup (dsOf as) := rfl
@[simp] theorem ev_lst : eLst fs ρ = (fs ρ).bind fun as => mkLst (dsOf as) := rfl
@[simp] theorem dsOf_n : dsOf [] = some [] := rfl
@[simp] theorem dsOf_c {r : List Ar} : dsOf (.d x :: r) = (dsOf r).map (x :: ·) := rfl
@[simp] theorem ev_o1 {o : D → T D} : o1 o [.d x] = o x := rfl
@[simp] theorem ev_o2 {o : D → D → T D} : o2 o [.d x, .d y] = o x y := rfl
@[simp] theorem ev_pn : pNone ρ = .ret none := rfl
def toI : D → T (Option Int)
  | .int i => .ret (some i)
  | _ => .bad
@[simp] theorem toI_i {z : Int} : toI (.int z) = .ret (some z) := rfl
@[simp] theorem ev_ps : pSome f ρ = (f ρ).bind toI := rfl
@[simp] theorem ev_sl {l u : Env' → T (Option Int)} : eSl f l u ρ = (f ρ).bind fun x => (l ρ).bind fun lo => (u ρ).bind fun hi => oSl x lo hi := rfl
def itemsD : D → T (List D)
  | .list ds => .ret ds
  | .tuple ds => .ret ds
  | _ => .bad
@[simp] theorem itemsD_l {ds : List D} : itemsD (.list ds) = .ret ds := rfl
@[simp] theorem itemsD_t {ds : List D} : itemsD (.tuple ds) = .ret ds := rfl
@[simp] theorem ev_seq : iSeq f ρ = (f ρ).bind itemsD := rfl
@[simp] theorem ev_arg {o : List Ar → T (List D)} : iArg o fs ρ = (fs ρ).bind o := rfl
@[simp] theorem ev_lenL {xs : List D} : oLen [.d (.list xs)] = .ret (.int xs.length) := rfl
@[simp] theorem ev_lenT {xs : List D} : oLen [.d (.tuple xs)] = .ret (.int xs.length) := rfl
@[simp] theorem ev_start {as : List Ar} : startE n as = as.map arSl ++ List.replicate (n - as.length) .no := rfl
@[simp] theorem ev_arD : arSl (.d x) = .d x := rfl
@[simp] theorem ev_arB {b : Bool} : arSl (.box b) = .box b := rfl
@[simp] theorem ev_mk {as : List Ar} : mkDef n F as = (F (startE n as)).run := rfl
@[simp] theorem ev_Seq : sSeq F G ρ = (F ρ).bind (thenS G) := rfl
@[simp] theorem ev_Set : sSet i f ρ = (f ρ).lift ρ fun d => .ret (.nx (ρ.set i (.d d))) := rfl
@[simp] theorem ev_Ret : sRet f ρ = (f ρ).lift ρ fun d => .ret (.ret d) := rfl
@[simp] theorem ev_Nil : sNil ρ = .ret (.nx ρ) := rfl
@[simp] theorem ev_If : sIf k F G ρ = (k ρ).lift ρ (onB (F ρ) (G ρ)) := rfl
@[simp] theorem onB_t {t u : T Fl} : onB t u (.bool true) = t := rfl
@[simp] theorem onB_f {t u : T Fl} : onB t u (.bool false) = u := rfl
@[simp] theorem th_nx : thenS G (.nx ρ) = G ρ := rfl
@[simp] theorem th_ret : thenS G (.ret x) = .ret (.ret x) := rfl
@[simp] theorem th_brk : thenS G (.brk ρ) = .ret (.brk ρ) := rfl
@[simp] theorem th_cnt : thenS G (.cnt ρ) = .ret (.cnt ρ) := rfl
@[simp] theorem th_exc {e : Exn} : thenS G (.exc e ρ) = .ret (.exc e ρ) := rfl
@[simp] theorem en_nx : endF (.nx ρ) = .ret .none := rfl
@[simp] theorem en_ret : endF (.ret x) = .ret x := rfl
@[simp] theorem en_exc {e : Exn} : endF (.exc e ρ) = .exc e := rfl
@[simp] theorem ev_For {it : Env' → T (List D)} {bd : D → Env' → Option Env'} : sFor it bd F ρ = (it ρ).lift ρ fun ds => forGo bd F ds ρ := rfl
def twoN (i j : Nat) (ρ : Env') : List Ar → T Fl
  | [.d x, .d y] => .ret (.nx ((ρ.set i (.d x)).set j (.d y)))
  | _ => .bad
@[simp] theorem twoN_2 {j : Nat} : twoN i j ρ [.d x, .d y] = .ret (.nx ((ρ.set i (.d x)).set j (.d y))) := rfl
@[simp] theorem ev_Par {j : Nat} : sPar i j fs ρ = (fs ρ).lift ρ (twoN i j ρ) := rfl
@[simp] theorem ev_Raise {c fl : Str} : sRaise1 c fl f ρ = (f ρ).lift ρ fun d => .ret (.exc ⟨c, [(fl, d)]⟩ ρ) := rfl
@[simp] theorem ev_bName : bName i x ρ = some (ρ.set i (.d x)) := rfl
@[simp] theorem ev_wn : wipeE ρ [] = ρ := rfl
@[simp] theorem ev_wc {v : Nat} {vs : List Nat} : wipeE ρ (v :: vs) = (wipeE ρ vs).set v .no := rfl
@[simp] theorem ev_bT {is : List Nat} {ds : List D} : bTup is (.tuple ds) ρ = bNames is ds ρ := rfl
@[simp] theorem ev_bn0 : bNames [] [] ρ = some ρ := rfl
@[simp] theorem ev_bnS {is : List Nat} {ds : List D} : bNames (i :: is) (x :: ds) ρ = bNames is ds (ρ.set i (.d x)) := rfl
@[simp] theorem ev_zipT {xs ys : List D} : oZip [.d (.tuple xs), .d (.tuple ys)] = .ret ((xs.zip ys).map fun p => .tuple [p.1, p.2]) := rfl
@[simp] theorem ev_zipL {xs ys : List D} : oZip [.d (.list xs), .d (.list ys)] = .ret ((xs.zip ys).map fun p => .tuple [p.1, p.2]) := rfl
theorem mul_ints' {a b : Int} (h : b.natAbs < 18446744073709551616) : oMul (.int a) (.int b) = .ret (.int (a * b)) := by
  show (if cMul a b = true then T.ret (PyData.int (a * b)) else .bad) = _
  unfold cMul
  simp [h]
@[simp] theorem wp_draw' {m : Int} {g : Int → T α} : (T.draw m g).wp P E ↔ 0 < m ∧ m < 10000000000000000000000000000000000000000 ∧ ∀ i, 0 ≤ i → i < m → (g i).wp P E := Iff.rfl
@[simp] theorem ev_dip {m : Int} : mDip [.box false, .d (.int m)] = .draw m fun i => .ret (.int i) := rfl
theorem ix_at {xs : List D} {j : Nat} {d : D} (h : xs[j]? = some d) : oIx (.list xs) (.int (j : Nat)) = .ret d := by
  show (match atI xs (j : Nat) with
    | some d => T.ret d
    | none => .bad) = _
  rw [atI_nat h]
theorem ixT_at {xs : List D} {j : Nat} {d : D} (h : xs[j]? = some d) : oIx (.tuple xs) (.int (j : Nat)) = .ret d := by
  show (match atI xs (j : Nat) with
    | some d => T.ret d
    | none => .bad) = _
  rw [atI_nat h]
/-- an item that is drawn -/
theorem drawn_item {xs : List D} {P : D → Prop} {i : Int} (h : ∀ x ∈ xs, P x) (h0 : 0 ≤ i) (h1 : i < xs.length) : (oIx (.list xs) (.int i)).wp P E := by
  obtain ⟨j, rfl⟩ : ∃ j : Nat, i = j := ⟨i.toNat, by omega⟩
  have hj : j < xs.length := by omega
  rw [ix_at (List.getElem?_eq_getElem hj)]
  exact h _ (List.getElem_mem hj)
@[simp] theorem ev_slT {xs : List D} {lo hi : Option Int} : oSl (.tuple xs) lo hi = .ret (.tuple (cutD xs lo hi)) := rfl
@[simp] theorem ev_slL {xs : List D} {lo hi : Option Int} : oSl (.list xs) lo hi = .ret (.list (cutD xs lo hi)) := rfl
@[simp] theorem ev_true : tTrue ρ = .ret (.bool true) := rfl
def tryB (i : Nat) (cm : Str → Option Bool) (G : Env' → T Fl) : Fl → T Fl
  | .exc x ρ' => match cm x.cls with
    | some true => (G (ρ'.set i (.ex x))).bind (afterX i)
    | some false => .ret (.exc x ρ')
    | none => .bad
  | .nx ρ' => .ret (.nx ρ')
  | .ret d => .ret (.ret d)
  | .brk ρ' => .ret (.brk ρ')
  | .cnt ρ' => .ret (.cnt ρ')
@[simp] theorem ev_Try {cm : Str → Option Bool} : sTry i cm F G ρ = (F ρ).bind (tryB i cm G) := rfl
@[simp] theorem ty_nx {cm : Str → Option Bool} : tryB i cm G (.nx ρ) = .ret (.nx ρ) := rfl
@[simp] theorem ty_ret {cm : Str → Option Bool} : tryB i cm G (.ret x) = .ret (.ret x) := rfl
@[simp] theorem ax_nx : afterX i (.nx ρ) = .ret (.nx (clrE (ρ.set i .no))) := rfl
@[simp] theorem ax_ret : afterX i (.ret x) = .ret (.ret x) := rfl
@[simp] theorem cl_n : clrE [] = [] := rfl
@[simp] theorem cl_c {s : Sl} {r : Env'} : clrE (s :: r) = clrS s :: clrE r := rfl
@[simp] theorem cs_d : clrS (.d x) = .d x := rfl
@[simp] theorem cs_n : clrS .no = .no := rfl
@[simp] theorem cs_b {b : Bool} : clrS (.box b) = .box b := rfl
@[simp] theorem cs_o {xs : List D} : clrS (.own xs) = .own xs := rfl
@[simp] theorem fl_S {c fl : Str} {s : Sl} {r : Env'} : eFld (i + 1) c fl (s :: r) = eFld i c fl r := rfl
@[simp] theorem fl_0 {c fl : Str} {r : Env'} : eFld 0 c fl (.ex ⟨c, [(fl, x)]⟩ :: r) = .ret x := by
  unfold eFld
  simp
def againW (t : Env' → T D) (F : Env' → T Fl) (n : Nat) : Fl → T Fl
  | .nx ρ' => whGo t F n ρ'
  | .cnt ρ' => whGo t F n ρ'
  | .brk ρ' => .ret (.nx ρ')
  | .ret d => .ret (.ret d)
  | .exc x ρ' => .ret (.exc x ρ')
@[simp] theorem ag_nx : againW k F n (.nx ρ) = whGo k F n ρ := rfl
@[simp] theorem ag_cnt : againW k F n (.cnt ρ) = whGo k F n ρ := rfl
@[simp] theorem ag_brk : againW k F n (.brk ρ) = .ret (.nx ρ) := rfl
@[simp] theorem ag_ret : againW k F n (.ret x) = .ret (.ret x) := rfl
@[simp] theorem ag_exc {e : Exn} : againW k F n (.exc e ρ) = .ret (.exc e ρ) := rfl
@[simp] theorem ev_While : sWhile n k F ρ = whGo k F n ρ := rfl
theorem eq_ints (a b : Int) : oEq (.int a) (.int b) = .ret (.bool (decide (a = b))) := by
  have e : oEq (.int a) (.int b) = .ret (.bool (a == b)) := rfl
  rw [e]
  congr 2
theorem ne_ints (a b : Int) : oNe (.int a) (.int b) = .ret (.bool (!decide (a = b))) := by
  have e : oNe (.int a) (.int b) = .ret (.bool (!(a == b))) := rfl
  rw [e]
  congr 3
@[simp] theorem ev_not {b : Bool} : oNot (.bool b) = .ret (.bool (!b)) := rfl
@[simp] theorem ev_neg {z : Int} : oNeg (.int z) = .ret (.int (-z)) := rfl
@[simp] theorem ev_abs {z : Int} : oAbs (.int z) = .ret (.int (if z < 0 then -z else z)) := rfl
@[simp] theorem ev_int {z : Int} : oInt (.int z) = .ret (.int z) := rfl
@[simp] theorem ev_intb {b : Bool} : oInt (.bool b) = .ret (.int (if b = true then 1 else 0)) := rfl
@[simp] theorem ev_toL {xs : List D} : oTupleOf (.list xs) = .ret (.tuple xs) := rfl
@[simp] theorem ev_toT {xs : List D} : oTupleOf (.tuple xs) = .ret (.tuple xs) := rfl
@[simp] theorem ev_loL {xs : List D} : oListOf (.list xs) = .ret (.list xs) := rfl
@[simp] theorem ev_loT {xs : List D} : oListOf (.tuple xs) = .ret (.list xs) := rfl
@[simp] theorem ev_i2 {C : Int → Int → Bool} {hh : Int → Int → D} {a b : Int} : oInt2 C hh (.int a) (.int b) = if C a b = true then .ret (hh a b) else .bad := rfl
@[simp] theorem ev_add {a b : Int} : oAdd (.int a) (.int b) = .ret (.int (a + b)) := rfl
@[simp] theorem ev_addT {xs ys : List D} : oAdd (.tuple xs) (.tuple ys) = if xs.length + ys.length ≤ 1000000 then .ret (.tuple (xs ++ ys)) else .bad := rfl
@[simp] theorem ev_addL {xs ys : List D} : oAdd (.list xs) (.list ys) = if xs.length + ys.length ≤ 1000000 then .ret (.list (xs ++ ys)) else .bad := rfl
@[simp] theorem isa_int_int {z : Int} : isaD "int" (.int z) = true := rfl
@[simp] theorem isa_bool_int {z : Int} : isaD "bool" (.int z) = false := rfl
@[simp] theorem isa_tup_tup {xs : List D} : isaD "tuple" (.tuple xs) = true := rfl
end
end Wb
set_option Elab.async false
set_option linter.all false
set_option maxRecDepth 100000
set_option maxHeartbeats 4000000
/-! Wb, part 15: data of a bounded depth and bulk. -/
namespace Wb
open PySem PySem.Spec PyProof.Rows L2
/-- data without dicts, to be shown and compared, of depth k and bulk b at most -/
structure Fine (k b : Nat) (d : D) : Prop where
  tid : tid d = true
  nod : d.hasDict = false
  lay : d.canLay0 = true
  dep : d.depth ≤ k
  blk : d.bulk ≤ b
theorem Fine.mono {k b k' b' : Nat} {d : D} (h : Fine k b d) (hk : k ≤ k') (hb : b ≤ b') : Fine k' b' d := ⟨h.tid, h.nod, h.lay, Nat.le_trans h.dep hk, Nat.le_trans h.blk hb⟩
theorem fine_int {i : Int} (h : i.natAbs < 10 ^ 50) : Fine 0 0 (.int i) := ⟨tid_int h, rfl, rfl, Nat.le_refl _, Nat.le_refl _⟩
theorem fine_none : Fine 0 0 .none := ⟨rfl, rfl, rfl, Nat.le_refl _, Nat.le_refl _⟩
theorem fine_all {k b : Nat} : ∀ {xs : List D}, (∀ x ∈ xs, Fine k b x) → xs.all tid = true ∧ PyData.hasDictAll xs = false ∧ PyData.canLayAll0 xs = true ∧ PyData.depthAll xs ≤ k ∧ PyData.bulkAll xs ≤ (b + 1) * xs.length
  | [], _ => by simp [PyData.hasDictAll, PyData.canLayAll0, PyData.depthAll, PyData.bulkAll]
  | x :: r, h => by
    have hx := h x (List.mem_cons_self ..)
    obtain ⟨r1, r2, r3, r4, r5⟩ := fine_all fun y hy => h y (List.mem_cons_of_mem _ hy)
    have e : (b + 1) * (r.length + 1) = (b + 1) * r.length + (b + 1) := by rw [Nat.mul_add, Nat.mul_one]
    have h5 := hx.blk
    have h4 := hx.dep
    simp only [List.all_cons, PyData.hasDictAll, PyData.canLayAll0, PyData.depthAll, PyData.bulkAll, hx.tid, hx.nod, hx.lay, r1, r2, r3, List.length_cons]
    refine ⟨rfl, rfl, rfl, ?_, ?_⟩ <;> omega
theorem fine_list {k b n : Nat} {xs : List D} (h : ∀ x ∈ xs, Fine k b x) (hn : xs.length ≤ n) : Fine (k + 1) ((b + 1) * n) (.list xs) := by
  obtain ⟨r1, r2, r3, r4, r5⟩ := fine_all h
  have := Nat.mul_le_mul_left (b + 1) hn
  refine ⟨by rw [tid_list]; exact r1, by simp only [PyData.hasDict]; exact r2, by simp only [PyData.canLay0]; exact r3, by simp only [PyData.depth]; omega, by simp only [PyData.bulk]; omega⟩
theorem Fine.eq {k b : Nat} {d : D} (h : Fine k b d) (hk : k ≤ 64) : cEq d = true := by
  unfold cEq SeqAt.shaped
  rw [h.nod, h.lay]
  simp only [Bool.not_false, Bool.true_and]
  exact decide_eq_true (Nat.le_trans h.dep hk)
theorem Fine.rep {k b : Nat} {d : D} (h : Fine k b d) (hk : k ≤ 60) (hb : b ≤ 100000) : okRep d = true := okRep_of h.tid (Nat.le_trans h.blk hb) (Nat.le_trans h.dep hk)
theorem ne_str {x y : Str} : oNe (.str x) (.str y) = .ret (.bool (!(x == y))) := rfl
end Wb
set_option Elab.async false
set_option linter.all false
set_option maxRecDepth 100000
set_option maxHeartbeats 4000000
/-! Wb, part 16: x in a list. -/
namespace Wb
open PySem PySem.Spec PyProof.Rows L2
theorem un65 {A : Around} {k : Nat} (h : Room k A) : A.units + 65 < cLine := by
  have := h.un
  omega
def oIn (x y : D) : T D := match y with
  | .list ds => if (cEq x && cEq (.list ds)) = true then .ret (.bool (ds.any fun z => PyData.eqv z x)) else .bad
  | _ => .bad
def oNotIn (x y : D) : T D := match y with
  | .list ds => if (cEq x && cEq (.list ds)) = true then .ret (.bool (!ds.any fun z => PyData.eqv z x)) else .bad
  | _ => .bad
theorem d_in {K : PySem.W.Frag} : OpD (rInD K) oIn := by
  intro β H0 H v w x y Q E e ok bf hv hw q
  cases y with
  | list ds =>
    have q : (if (cEq x && cEq (.list ds)) = true then T.ret (PyData.bool (ds.any fun z => PyData.eqv z x)) else .bad).wp (Out β H0 H Q) E := q
    split at q
    · next c =>
      rw [Bool.and_eq_true] at c
      obtain ⟨a1, a2⟩ := cEq_of c.1
      obtain ⟨b1, b2⟩ := cEq_of c.2
      exact ⟨x, ds, hv.dp e a1, hw.dp e b1, a2, b2, out_ret e ok bf (.bl _) q⟩
    · exact q.elim
  | _ => exact q.elim
theorem d_notIn {K : PySem.W.Frag} : OpD (rNotInD K) oNotIn := by
  intro β H0 H v w x y Q E e ok bf hv hw q
  cases y with
  | list ds =>
    have q : (if (cEq x && cEq (.list ds)) = true then T.ret (PyData.bool (!ds.any fun z => PyData.eqv z x)) else .bad).wp (Out β H0 H Q) E := q
    split at q
    · next c =>
      rw [Bool.and_eq_true] at c
      obtain ⟨a1, a2⟩ := cEq_of c.1
      obtain ⟨b1, b2⟩ := cEq_of c.2
      exact ⟨x, ds, hv.dp e a1, hw.dp e b1, a2, b2, out_ret e ok bf (.bl _) q⟩
    · exact q.elim
  | _ => exact q.elim
end Wb
set_option Elab.async false
set_option linter.all false
set_option maxRecDepth 100000
set_option maxHeartbeats 4000000
/-! Wb, part 17: the source of draws that is a dict of two lists and a number. -/
namespace Wb
open PySem PySem.Spec PyProof.Rows L2
/-- the draw -/
def mDraw : List Ar → T D
  | [.box true, .d (.int m)] => .draw m fun i => .ret (.int i)
  | _ => .bad
@[simp] theorem ev_draw {m : Int} : mDraw [.box true, .d (.int m)] = .draw m fun i => .ret (.int i) := rfl
abbrev rAdd0 : R2 := rI0 fun i j => .int (i + j)
abbrev rMulC : R2 := rI CMul fun i j => .int (i * j)
abbrev dGt (n : Str) : TE := tDGet (tVar 0) (tC (.str n))
abbrev tI1 (b : Bool) (t : TE) : TE := if b then tCB rInt1 (tCons t tNil) else t
abbrev lastG (K : PySem.W.Frag) : TE := tOp (rIxL K) (tVar 2) (tUn (rU fun i => .int (-i)) (tC (.int 1)))
abbrev kGreat : Key := .inr "great"
abbrev kSmall : Key := .inr "small"
abbrev kTurn : Key := .inr "turn"
/-- the state of the source -/
structure DictAt (b gr sm : Addr) (gs ss : List Int) (t : Int) (H : Hp) : Prop where
  hb : H b = some (.dK [(kGreat, .ref gr), (kSmall, .ref sm), (kTurn, .int t)])
  hg : H gr = some (.lst (gs.map V.int))
  hs : H sm = some (.lst (ss.map V.int))
  g0 : ∀ x ∈ gs, 0 ≤ x
  s0 : ∀ x ∈ ss, 0 ≤ x ∧ x < 1000000000000000000
  ne : ss ≠ []
  t0 : 0 ≤ t
  gl : gs.length ≤ 64
  sl : ss.length ≤ 64
  apart : gr ≠ sm
theorem DictAt.ok {b gr sm : Addr} {gs ss : List Int} {t : Int} {H : Hp} (h : DictAt b gr sm gs ss t H) : dictOk b gr sm H := ⟨gs, ss, t, h.hb, h.hg, h.hs, h.g0, h.s0, h.ne, h.t0, h.gl, h.sl, h.apart⟩
theorem DictAt.of {b gr sm : Addr} {H : Hp} (h : dictOk b gr sm H) : ∃ gs ss t, DictAt b gr sm gs ss t H := by
  obtain ⟨gs, ss, t, h1, h2, h3, h4, h5, h6, h7, h8, h9, h10⟩ := h
  exact ⟨gs, ss, t, h1, h2, h3, h4, h5, h6, h7, h8, h9, h10⟩
section
variable {b gr sm : Addr} {gs ss : List Int} {t : Int} {H : Hp}
theorem DictAt.bg (h : DictAt b gr sm gs ss t H) : b ≠ gr := fun e => by
  have := h.hb
  rw [e, h.hg] at this
  cases this
theorem DictAt.bs (h : DictAt b gr sm gs ss t H) : b ≠ sm := fun e => by
  have := h.hb
  rw [e, h.hs] at this
  cases this
theorem DictAt.great (h : DictAt b gr sm gs ss t H) : DGet H b (.str "great") (some (.ref gr)) := DGet.k (k := kGreat) h.hb
theorem DictAt.small (h : DictAt b gr sm gs ss t H) : DGet H b (.str "small") (some (.ref sm)) := DGet.k (k := kSmall) h.hb
theorem DictAt.turn (h : DictAt b gr sm gs ss t H) : DGet H b (.str "turn") (some (.int t)) := DGet.k (k := kTurn) h.hb
/-- the list of the great ones is changed -/
theorem DictAt.setG {gs' : List Int} (h : DictAt b gr sm gs ss t H) (h0 : ∀ x ∈ gs', 0 ≤ x) (hl : gs'.length ≤ 64) : DictAt b gr sm gs' ss t (upd H gr (.lst (gs'.map V.int))) := by
  refine ⟨?_, upd_same, ?_, h0, h.s0, h.ne, h.t0, hl, h.sl, h.apart⟩
  · rw [upd_ne h.bg]
    exact h.hb
  · rw [upd_ne (Ne.symm h.apart)]
    exact h.hs
/-- the number of turns is changed -/
theorem DictAt.setT {t' : Int} (h : DictAt b gr sm gs ss t H) (h0 : 0 ≤ t') : DictAt b gr sm gs ss t' (upd H b (.dK [(kGreat, .ref gr), (kSmall, .ref sm), (kTurn, .int t')])) := by
  refine ⟨upd_same, ?_, ?_, h.g0, h.s0, h.ne, h0, h.gl, h.sl, h.apart⟩
  · rw [upd_ne (Ne.symm h.bg)]
    exact h.hg
  · rw [upd_ne (Ne.symm h.bs)]
    exact h.hs
theorem DictAt.put {t' : Int} (h : DictAt b gr sm gs ss t H) : DPut H b (.str "turn") (.int t') (upd H b (.dK [(kGreat, .ref gr), (kSmall, .ref sm), (kTurn, .int t')])) := DPut.k (k := kTurn) h.hb (lim_line (n := 4) (by decide))
/-- new objects elsewhere -/
theorem DictAt.away {H' : Hp} (h : DictAt b gr sm gs ss t H) (k : ∀ a, H a ≠ none → H' a = H a) : DictAt b gr sm gs ss t H' := by
  refine ⟨?_, ?_, ?_, h.g0, h.s0, h.ne, h.t0, h.gl, h.sl, h.apart⟩
  · rw [k b (by rw [h.hb]; exact fun z => nomatch z)]
    exact h.hb
  · rw [k gr (by rw [h.hg]; exact fun z => nomatch z)]
    exact h.hg
  · rw [k sm (by rw [h.hs]; exact fun z => nomatch z)]
    exact h.hs
end
/-- the source alone is changed -/
theorem Stp.dict {b gr sm : Addr} {T : List (Addr × Str)} {H0 H H' : Hp} (e : Same H0 H) (o0 : (tabBox (dictBox b gr sm) T).ok H) (bf : ∀ a, (tabBox (dictBox b gr sm) T).S a → H0 a = none) (k : ∀ a, a ≠ b → a ≠ gr → a ≠ sm → H a ≠ none → H' a = H a) (ok : dictOk b gr sm H') : Stp (tabBox (dictBox b gr sm) T) H0 H H0 H' := by
  obtain ⟨⟨gs, ss, t, h1, h2, h3, _⟩, tb⟩ := o0
  have kt : ∀ a o, H a = some o → (∀ xs, o ≠ .lst xs) → (∀ xs, o ≠ .dK xs) → H' a = some o := fun a o h n1 n2 => by
    rw [k a (fun z => by rw [z, h1] at h; exact n2 _ (Option.some.inj h).symm) (fun z => by rw [z, h2] at h; exact n1 _ (Option.some.inj h).symm) (fun z => by rw [z, h3] at h; exact n1 _ (Option.some.inj h).symm) (by rw [h]; exact fun z => nomatch z)]
    exact h
  refine ⟨fun _ _ h => h, fun a o h => ?_, ⟨ok, fun q hq => ?_⟩, bf, fun q o h n => ⟨n, fun ns => ?_⟩⟩
  · have n1 : a ≠ b := fun z => by
      rw [bf a (.inl (.inl z))] at h
      cases h
    have n2 : a ≠ gr := fun z => by
      rw [bf a (.inl (.inr (.inl z)))] at h
      cases h
    have n3 : a ≠ sm := fun z => by
      rw [bf a (.inl (.inr (.inr z)))] at h
      cases h
    have h' := e a o h
    rw [k a n1 n2 n3 (by rw [h']; exact fun z => nomatch z)]
    exact h'
  · obtain ⟨ps, e1, e2, e3⟩ := tb q hq
    refine ⟨ps, kt _ _ e1 (fun _ z => nomatch z) (fun _ z => nomatch z), e2, fun pos cv hc => ?_⟩
    obtain ⟨c, z1, z2⟩ := e3 pos cv hc
    exact ⟨c, z1, kt _ _ z2 (fun _ z => by unfold LamX.CodeO at z; cases z) (fun _ z => by unfold LamX.CodeO at z; cases z)⟩
  · rw [k q (fun z => ns (.inl (.inl z))) (fun z => ns (.inl (.inr (.inl z)))) (fun z => ns (.inl (.inr (.inr z)))) (by rw [h]; exact fun z => nomatch z)]
    exact h
theorem ints_shaped (gs : List Int) : SeqAt.shaped (.list (gs.map PyData.int)) = true := by
  have h : ∀ l : List Int, PyData.canLayAll0 (l.map PyData.int) = true ∧ PyData.depthAll (l.map PyData.int) = 0 := fun l => by
    induction l with
    | nil => exact ⟨by simp [PyData.canLayAll0], by simp [PyData.depthAll]⟩
    | cons x r ih =>
      refine ⟨?_, ?_⟩
      · simp only [List.map_cons, PyData.canLayAll0, PyData.canLay0, ih.1, Bool.and_self]
      · simp only [List.map_cons, PyData.depthAll, PyData.depth, ih.2, Nat.max_self]
  unfold SeqAt.shaped
  simp only [PyData.canLay0, PyData.depth, (h gs).1, (h gs).2, Bool.true_and]
  decide
theorem ints_dp {K : PySem.W.Frag} {H : Hp} : ∀ gs : List Int, DpAll K H (gs.map V.int) (gs.map PyData.int)
  | [] => .nil
  | g :: r => .cons (.int g) (ints_dp r)
theorem eqvAll_nil' : ∀ xs : List D, PyData.eqvAll xs [] = xs.isEmpty
  | [] => by simp [PyData.eqvAll]
  | _ :: _ => by simp [PyData.eqvAll]
theorem last_ix {gs : List Int} {x : Int} (h : gs.getLast? = some x) : atI (gs.map V.int) (-1) = some (.int x) ∧ ixN (gs.map V.int).length (-1) = some (gs.length - 1) ∧ (gs.map V.int)[(gs.map V.int).length - 1]? = some (.int x) := by
  have hl : 0 < gs.length := by
    cases gs with
    | nil => cases h
    | cons a r => simp
  have e0 : ixN (gs.map V.int).length (-1) = some (gs.length - 1) := by
    unfold ixN
    rw [if_neg (by decide), if_pos (by rw [List.length_map]; omega), List.length_map]
    congr 1
    omega
  have e1 : (gs.map V.int)[gs.length - 1]? = some (.int x) := by
    rw [List.getElem?_map]
    rw [List.getLast?_eq_getElem?] at h
    rw [h]
    rfl
  refine ⟨?_, e0, ?_⟩
  · unfold atI
    rw [e0]
    exact e1
  · rw [List.length_map]
    exact e1
abbrev rLenS (K : PySem.W.Frag) : List V → Hp → VK → Prop := fun xs H Q => ∃ p ys, xs = [.ref p] ∧ (SqL K H p ys ∨ SqT K H p ys) ∧ Q (.int ys.length) H
def tDraw (K : PySem.W.Frag) (w : Bool) (rest : TS) : TS :=
  tSeq (tAsg (dGt "great") (gName 2))
  (tSeq (tWhile (tTest (tOp (rNeD K) (tVar 2) (tLst tNil)))
      (tSeq (tIfS (tTest (tOp (rI0 fun i j => .bl (decide (j < i))) (lastG K) (tC (.int 0))))
          (tSeq (tAsg (tOp rMod0 (tI1 w (lastG K)) (tVar 1)) (gName 3))
            (tSeq (tAsg (tOp rFdivD (tI1 w (lastG K)) (tVar 1)) (gSub (tVar 2) (tUn (rU fun i => .int (-i)) (tC (.int 1))) rSetL))
              (tRet (tVar 3)))) tNext)
        (tDrop (tBM0 K "list" rPop (tVar 2)))))
  (tSeq (sDPut (tVar 0) (tC (.str "turn")) (tOp rAdd0 (dGt "turn") (tC (.int 1))))
  (tSeq (tAsg (tOp (rIxL K) (dGt "small") (tOp rMod0 (tI1 w (dGt "turn")) (tCB (rLenS K) (tCons (dGt "small") tNil)))) (gName 4))
  rest)))
theorem lastG_reads {K : PySem.W.Frag} {σ : L2.St} {H : Hp} {Q : VK} {gr : Addr} {xs : List V} {x : Int} (w : Bool) (h : σ[2]? = some (some (.ref gr))) (hs : SqL K H gr xs) (hi : atI xs (-1) = some (.int x)) (q : Q (.int x) H) : tI1 w (lastG K) σ H Q := by
  cases w with
  | false => exact ⟨_, h, 1, rfl, gr, _, -1, .int x, rfl, rfl, hs, hi, q⟩
  | true => exact ⟨_, h, 1, rfl, gr, _, -1, .int x, rfl, rfl, hs, hi, .inl ⟨x, rfl, q⟩⟩
theorem dGt_reads {σ : L2.St} {H : Hp} {Q : VK} {b : Addr} {n : Str} {t : Int} (w : Bool) (h : σ[0]? = some (some (.ref b))) (hs : DGet H b (.str n) (some (.int t))) (q : Q (.int t) H) : tI1 w (dGt n) σ H Q := by
  cases w with
  | false => exact ⟨_, h, b, _, rfl, hs, q⟩
  | true => exact ⟨_, h, b, _, rfl, hs, .inl ⟨t, rfl, q⟩⟩
theorem drawn_reads {K : PySem.W.Frag} (w : Bool) (rest : TS) {cad : Cad} {vs : List V} {H : Hp} {Q : VK} {E : XK} {N : List Str} (hN : N.length = 6) (h : spD cad 2 mDraw vs H Q E)
    (hrest : ∀ (b gr : Addr) (m cell t : Int) (H' : Hp), DGet H' b (.str "turn") (some (.int t)) → 0 < m → m < 10000000000000000000000000000000000000000 → (∀ i, 0 ≤ i → i < m → Q (.int i) H') →
      rest { nx := fun _ H' => Q .non H', rt := Q } [some (.ref b), some (.int m), some (.ref gr), none, some (.int cell), none] H') :
    tDraw K w rest { nx := fun _ H' => Q .non H', rt := Q } (L2.start N vs) H := by
  obtain ⟨_, β, H0, as, e, ok, bf, tbs, ha, q⟩ := h
  match as, ha, q with
  | [.box true, .d (.int m)], ha, q =>
    obtain ⟨v, w', rfl, ⟨b, gr, sm, T, eβ, hv⟩, hw⟩ := ha.two'
    subst eβ
    subst hv
    have ew := hw.int_eq
    subst ew
    obtain ⟨m0, m1, q⟩ := q
    have ok0 := ok
    obtain ⟨gs, ss, t, D⟩ := DictAt.of ok.1
    have es : L2.start N [.ref b, .int m] = [some (.ref b), some (.int m), none, none, none, none] := by
      unfold L2.start
      simp [hN, List.replicate]
    rw [es]
    have fin : ∀ (H' : Hp) (i : Int), (∀ a, a ≠ b → a ≠ gr → a ≠ sm → H a ≠ none → H' a = H a) → dictOk b gr sm H' → 0 ≤ i → i < m → Q (.int i) H' := fun H' i k ok' i0 i1 =>
      q i i0 i1 (.int i) H0 H' (Stp.dict e ok0 bf k ok') (.int i)
    refine ⟨_, rfl, b, .ref gr, rfl, D.great, ?_⟩
    refine ⟨fun k σ H' => ∃ gs', k = gs'.length ∧ σ = [some (.ref b), some (.int m), some (.ref gr), none, none, none] ∧ DictAt b gr sm gs' ss t H' ∧ (∀ a, a ≠ b → a ≠ gr → a ≠ sm → H a ≠ none → H' a = H a), ⟨gs.length, gs, rfl, rfl, D, fun _ _ _ _ _ => rfl⟩, ?_⟩
    rintro k σ H1 ⟨gs', rfl, rfl, D1, k1⟩
    refine ⟨_, rfl, lim_line (by simp), fun p hp => ?_⟩
    have D2 : DictAt b gr sm gs' ss t (upd H1 p (.lst [])) := D1.away fun a ha => upd_ne fun z => ha (z ▸ hp)
    have k2 : ∀ a, a ≠ b → a ≠ gr → a ≠ sm → H a ≠ none → upd H1 p (.lst []) a = H a := fun a a1 a2 a3 ha => by
      have := k1 a a1 a2 a3 ha
      rw [upd_ne (fun z => by
        subst z
        rw [hp] at this
        exact ha this.symm)]
      exact this
    have e2 : (upd H1 p (.lst [])) p = some (.lst []) := upd_same
    generalize upd H1 p (.lst []) = H2 at D2 k2 e2 ⊢
    refine ⟨.list (gs'.map PyData.int), .list [], .lst (SqL.of D2.hg) (ints_dp gs'), .lst (SqL.of e2) .nil, ints_shaped gs', by decide +kernel, ?_⟩
    have ee : (!PyData.eqv (.list (gs'.map PyData.int)) (.list [])) = !gs'.isEmpty := by
      simp only [PyData.eqv, eqvAll_nil', List.isEmpty_map]
    refine ⟨_, rfl, ?_⟩
    rw [ee]
    refine ite2 (fun c => ?_) (fun c => ?_)
    · have hne : gs' ≠ [] := fun z => by
        subst z
        cases c
      obtain ⟨x, hx⟩ : ∃ x, gs'.getLast? = some x := ⟨_, List.getLast?_eq_some_getLast hne⟩
      obtain ⟨i1, i2, i3⟩ := last_ix hx
      have hxm : x ∈ gs' := List.mem_of_getLast? hx
      have x0 := D2.g0 x hxm
      have hlen : 0 < gs'.length := List.length_pos_iff.mpr hne
      refine ⟨fun σ' H' => ∃ gs'', gs''.length < gs'.length ∧ σ' = [some (.ref b), some (.int m), some (.ref gr), none, none, none] ∧ DictAt b gr sm gs'' ss t H' ∧ (∀ a, a ≠ b → a ≠ gr → a ≠ sm → H a ≠ none → H' a = H a),
        fun σ' H' ⟨gs'', hl, es, d, k⟩ => ⟨gs''.length, hl, gs'', rfl, es, d, k⟩, ?_⟩
      have k3 : ∀ o, ∀ a, a ≠ b → a ≠ gr → a ≠ sm → H a ≠ none → upd H2 gr o a = H a := fun o a a1 a2 a3 ha => by
        rw [upd_ne a2]
        exact k2 a a1 a2 a3 ha
      refine ⟨_, rfl, 1, rfl, gr, _, -1, .int x, rfl, rfl, SqL.of D2.hg, i1, x, 0, rfl, rfl, _, rfl, ite2 (fun c1 => ?_) (fun c1 => ?_)⟩
      · refine lastG_reads w rfl (SqL.of D2.hg) i1 ?_
        refine ⟨_, rfl, x, m, rfl, rfl, by omega, ?_⟩
        refine lastG_reads w rfl (SqL.of D2.hg) i1 ?_
        refine ⟨_, rfl, .inr ⟨x, m, rfl, rfl, ⟨m0, log2_small m0 m1⟩, ?_⟩⟩
        refine ⟨_, rfl, 1, rfl, gr, _, -1, gs'.length - 1, rfl, rfl, D2.hg, i2, ?_⟩
        refine ⟨_, rfl, ?_⟩
        have es2 : (gs'.map V.int).set (gs'.length - 1) (.int (x / m)) = (gs'.set (gs'.length - 1) (x / m)).map V.int := by rw [List.map_set]
        have r := fmod_in (i := x) m0
        have d3 := D2.setG (gs' := gs'.set (gs'.length - 1) (x / m)) (fun y hy => by
          rcases List.mem_or_eq_of_mem_set hy with z | z
          · exact D2.g0 y z
          · rw [z]
            exact Int.ediv_nonneg x0 (by omega)) (by
          rw [List.length_set]
          exact D2.gl)
        rw [← es2] at d3
        exact fin _ _ (k3 _) d3.ok r.1 r.2
      · refine ⟨_, rfl, .inl ⟨rfl, _, SqL.of D2.hg⟩, gr, _, .int x, rfl, rfl, D2.hg, i3, ?_⟩
        have d3 := D2.setG (gs' := gs'.dropLast) (fun y hy => D2.g0 y ((List.dropLast_sublist _).subset hy)) (by
          rw [List.length_dropLast]
          have := D2.gl
          omega)
        rw [List.map_dropLast] at d3
        exact ⟨gs'.dropLast, by rw [List.length_dropLast]; omega, rfl, d3, k3 _⟩
    · refine ⟨_, rfl, b, .int t, rfl, D2.turn, t, 1, rfl, rfl, _, rfl, b, _, rfl, D2.put, ?_⟩
      have t0 := D2.t0
      have D3 := D2.setT (t' := t + 1) (by omega)
      have k3 : ∀ o, ∀ a, a ≠ b → a ≠ gr → a ≠ sm → H a ≠ none → upd H2 b o a = H a := fun o a a1 a2 a3 ha => by
        rw [upd_ne a1]
        exact k2 a a1 a2 a3 ha
      have k4 := k3 (.dK [(kGreat, .ref gr), (kSmall, .ref sm), (kTurn, .int (t + 1))])
      generalize upd H2 b (.dK [(kGreat, .ref gr), (kSmall, .ref sm), (kTurn, .int (t + 1))]) = H3 at D3 k4 ⊢
      have hsl : 0 < ss.length := List.length_pos_iff.mpr D3.ne
      refine ⟨_, rfl, b, .ref sm, rfl, D3.small, ?_⟩
      refine dGt_reads w rfl D3.turn ?_
      refine ⟨_, rfl, b, .ref sm, rfl, D3.small, sm, _, rfl, .inl (SqL.of D3.hs), ?_⟩
      rw [List.length_map]
      have r := fmod_in (i := t + 1) (m := (ss.length : Int)) (by omega)
      obtain ⟨j, hj⟩ : ∃ j : Nat, (t + 1).fmod (ss.length : Int) = (j : Int) := ⟨((t + 1).fmod (ss.length : Int)).toNat, by omega⟩
      have hjl : j < ss.length := by omega
      refine ⟨t + 1, (ss.length : Int), rfl, rfl, by omega, ?_⟩
      dsimp only
      rw [hj]
      refine ⟨sm, _, (j : Int), .int ss[j], rfl, rfl, SqL.of D3.hs, atI_nat (by rw [List.getElem?_map, List.getElem?_eq_getElem hjl]; rfl), ?_⟩
      exact hrest b gr m ss[j] (t + 1) H3 D3.turn m0 m1 fun i i0 i1 => fin H3 i k4 D3.ok i0 i1
def restA : TS := tSeq (tAsg (tOp rAdd0 (tOp rMulC (tVar 4) (tC (.int 6364136223846793005))) (tOp rMulC (dGt "turn") (tC (.int 1442695040888963407)))) (gName 5))
  (tSeq (tAsg (tOp rMod0 (tI1 true (tVar 5)) (tC (.int 18446744073709551557))) (gName 5))
    (tSeq (tAsg (tOp rMod0 (tI1 true (tOp rMulC (tVar 5) (tOp rAdd0 (tOp rFdivD (tVar 5) (tC (.int 4294967296))) (tC (.int 17))))) (tC (.int 18446744073709551557))) (gName 5))
      (tRet (tOp rMod0 (tI1 true (tOp rFdivD (tVar 5) (tC (.int 65536)))) (tVar 1)))))
theorem restA_reads (D : Ends) (b gr : Addr) (m cell t : Int) (H' : Hp) (h : DGet H' b (.str "turn") (some (.int t))) (m0 : 0 < m) (q : ∀ i, 0 ≤ i → i < m → D.rt (.int i) H') :
    restA D [some (.ref b), some (.int m), some (.ref gr), none, some (.int cell), none] H' := by
  refine ⟨_, rfl, cell, _, rfl, rfl, .inr ⟨by decide, by decide⟩, _, rfl, b, _, rfl, h, t, _, rfl, rfl, .inr ⟨by decide, by decide⟩, _, _, rfl, rfl, ?_⟩
  refine ⟨_, rfl, .inl ⟨_, rfl, _, _, rfl, rfl, (show (18446744073709551557 : Int) ≠ 0 by decide), ?_⟩⟩
  dsimp only
  generalize hy : (cell * 6364136223846793005 + t * 1442695040888963407).fmod 18446744073709551557 = y
  have ry := fmod_in (i := cell * 6364136223846793005 + t * 1442695040888963407) (m := 18446744073709551557) (by decide)
  rw [hy] at ry
  refine ⟨_, rfl, _, rfl, .inr ⟨y, _, rfl, rfl, ⟨by decide, by decide⟩, _, _, rfl, rfl, y, _, rfl, rfl, .inl ⟨by omega, by omega⟩, .inl ⟨_, rfl, _, _, rfl, rfl, (show (18446744073709551557 : Int) ≠ 0 by decide), ?_⟩⟩⟩
  dsimp only
  generalize (y * (y / 4294967296 + 17)).fmod 18446744073709551557 = z
  refine ⟨_, rfl, .inl ⟨z, _, rfl, rfl, ⟨by decide, by decide⟩, .inl ⟨_, rfl, _, rfl, _, m, rfl, rfl, by omega, ?_⟩⟩⟩
  have r := fmod_in (i := z.fdiv 65536) m0
  exact q _ r.1 r.2
end Wb
set_option Elab.async false
set_option linter.all false
set_option maxRecDepth 100000
set_option maxHeartbeats 4000000
/-! Wb, part 18: the dict of two lists and a number, made of the script; the law's own beginning. -/
namespace Wb
open PySem PySem.Spec PyProof.Rows L2
theorem lc_ints {K : PySem.W.Frag} {a : Addr} {ns : List Int} {k : Nat} {tt : TT} {te : TE} {σ : L2.St} {H1 : Hp} {D : Addr} {Qd : Hp → Prop} (p : Int → Bool) (f : Int → Int) (hS : SqL K H1 a (ns.map V.int)) (hl : ns.length ≤ 1000) (hD : H1 D = none)
    (ht : ∀ x H (Q : Bool → Hp → Prop), Q (p x) H → tt ((wipe σ [k]).set k (some (.int x))) H Q) (he : ∀ x H (Q : VK), Q (.int (f x)) H → te ((wipe σ [k]).set k (some (.int x))) H Q)
    (hd : Qd (upd H1 D (.lst (((ns.filter p).map f).map V.int)))) :
    ∃ W : Nat → Nat → Hp → Prop, (∃ m, W 0 m (upd H1 D (.lst []))) ∧ ∀ i m H, W i m H →
      ((Itl K a).stop i H ∧ Qd H) ∨ ((Itl K a).go i H ∧ ∃ Nx : Hp → Prop, (∀ H', Nx H' → ∃ m', m' < m ∧ W (i + 1) m' H') ∧ ∀ x H', (Itl K a).yld i H x H' → gName k x (wipe σ [k]) H' fun σ2 H2 => wipe σ2 [k] = wipe σ [k] ∧ tt σ2 H2 fun b H3 =>
        if b = true then te σ2 H3 fun y H4 => ∃ acc, H4 D = some (.lst acc) ∧ acc.length < sizeLine ∧ Nx (upd H4 D (.lst (acc ++ [y]))) else Nx H3) := by
  have same : ∀ o, Same H1 (upd H1 D o) := fun o b u z => by
    rw [upd_ne (ne_of_none z hD)]
    exact z
  refine lc_list (K := K) (a := a) (xs := ns.map V.int) (fun i H => H = upd H1 D (.lst ((((ns.take i).filter p).map f).map V.int))) (by simp) ?_ ?_ ?_
  · rintro i H _ rfl
    exact (same _).seq hS
  · rintro i x H hx rfl
    rw [List.getElem?_map] at hx
    obtain ⟨n, hn, rfl⟩ := Option.map_eq_some_iff.mp hx
    have et : ns.take (i + 1) = ns.take i ++ [n] := by
      obtain ⟨hi, e⟩ := List.getElem?_eq_some_iff.mp hn
      rw [List.take_succ, hn]
      rfl
    refine ⟨by simp [wipe], ht n _ _ ?_⟩
    cases hp : p n with
    | true =>
      refine iteT (he n _ _ ⟨_, upd_same, ?_, ?_⟩)
      · rw [List.length_map, List.length_map, sizeLine_eq]
        have h1 := List.length_filter_le p (ns.take i)
        rw [List.length_take] at h1
        omega
      · rw [upd_upd, et, List.filter_append, List.map_append, List.map_append]
        simp [hp]
    | false =>
      refine iteF ?_
      rw [et, List.filter_append]
      simp [hp]
  · rintro H rfl
    rw [List.length_map, List.take_length]
    exact hd
theorem absI_eq (n : Int) : (if n < 0 then -n else n) = (n.natAbs : Int) := by
  split <;> omega
abbrev big18 : Int := 1000000000000000000
def spOpened (K : PySem.W.Frag) : Sp := fun vs H Q _ => ∃ (a : Addr) (ns : List Int), vs = [.ref a] ∧ SqL K H a (ns.map V.int) ∧ ns.length ≤ 63 ∧ ∀ H' b gr sm, Same H H' → dictOk b gr sm H' → Q (.ref b) H'
abbrev t1018 : TE := tOp (rI CPow fun i j => V.int (i ^ j.toNat)) (tC (V.int 10)) (tC (V.int 18))
def tOpened (K : PySem.W.Frag) (c : Int) : TS :=
  tSeq (tAsg (tLc (iList K (tSl (rSlL K) (tVar 0) tNoPart (tPart (tC (.int 61))))) (gName 4) tYes (tCB rAbs1 (tCons (tVar 4) tNil)) [4]) (gName 1))
  (tSeq (tAsg (tLc (iList K (tVar 1)) (gName 4) (tTest (tOp (rI0 fun i j => V.bl (decide (i < j))) (tVar 4) t1018)) (tVar 4) [4]) (gName 2))
  (tSeq (tAsg (tLc (iList K (tVar 1)) (gName 4) (tTest (tOp (rI0 fun i j => V.bl (decide (j ≤ i))) (tVar 4) t1018)) (tVar 4) [4]) (gName 3))
  (tRet (tDisp [(tC (.str "great"), tVar 3), (tC (.str "small"), tOp rCat (tVar 2) (tOp rRep (tLst (tCons (tC (.int c)) tNil)) (tCB rInt1 (tCons (tOp (rEqD K) (tVar 2) (tLst tNil)) tNil)))), (tC (.str "turn"), tC (.int 0))]))))
theorem opened_reads {K : PySem.W.Frag} {c : Int} (c0 : 0 ≤ c) (c1 : c < big18) {vs : List V} {H : Hp} {Q : VK} {E : XK} {N : List Str} (hN : N.length = 5) (h : spOpened K vs H Q E) :
    tOpened K c { nx := fun _ H' => Q .non H', rt := Q } (L2.start N vs) H := by
  obtain ⟨a, ns, rfl, hS, hl, q⟩ := h
  have es : L2.start N [.ref a] = [some (.ref a), none, none, none, none] := by
    unfold L2.start
    simp [hN, List.replicate]
  rw [es]
  -- the cells
  refine ⟨_, rfl, _, rfl, a, ns.map V.int, rfl, hS, fun p hp => ?_⟩
  obtain ⟨ms, em, lm⟩ : ∃ ms : List Int, cutV (ns.map V.int) none (some 61) = ms.map V.int ∧ ms.length ≤ 63 := by
    unfold cutV
    rw [← List.map_drop, ← List.map_take]
    refine ⟨_, rfl, ?_⟩
    rw [List.length_take, List.length_drop]
    omega
  rw [em]
  have hl1 : (upd H p (.lst (ms.map V.int))) p = some (.lst (ms.map V.int)) := upd_same
  have sa1 : Same H (upd H p (.lst (ms.map V.int))) := fun b u z => by
    rw [upd_ne (ne_of_none z hp)]
    exact z
  generalize upd H p (.lst (ms.map V.int)) = H1 at hl1 sa1 ⊢
  refine ⟨p, rfl, ⟨_, SqL.of hl1⟩, fun D1 hD1 => ?_⟩
  refine lc_ints (fun _ => true) (fun x => if x < 0 then -x else x) (SqL.of hl1) (by omega) hD1 (fun x H' Q' z => z) (fun x H' Q' z => ⟨_, rfl, x, rfl, z⟩) ?_
  have e1 : ((ms.filter fun _ => true).map fun x => if x < 0 then -x else x) = ms.map fun x => (x.natAbs : Int) := by
    rw [List.filter_eq_self.mpr (fun _ _ => rfl)]
    exact List.map_congr_left fun x _ => absI_eq x
  rw [e1]
  obtain ⟨cs, ec⟩ : ∃ cs, cs = ms.map fun x => (x.natAbs : Int) := ⟨_, rfl⟩
  have cs0 : ∀ x ∈ cs, 0 ≤ x := fun x hx => by
    rw [ec] at hx
    obtain ⟨y, _, rfl⟩ := List.mem_map.mp hx
    omega
  have csl : cs.length ≤ 63 := by
    rw [ec, List.length_map]
    exact lm
  rw [← ec]
  have h1 : (upd H1 D1 (.lst (cs.map V.int))) D1 = some (.lst (cs.map V.int)) := upd_same
  have sa2 : Same H (upd H1 D1 (.lst (cs.map V.int))) := fun b u z => by
    rw [upd_ne (ne_of_none (sa1 b u z) hD1)]
    exact sa1 b u z
  generalize upd H1 D1 (.lst (cs.map V.int)) = H2 at h1 sa2 ⊢
  -- the small ones
  refine ⟨_, rfl, _, rfl, ⟨_, SqL.of h1⟩, fun D2 hD2 => ?_⟩
  refine lc_ints (fun x => decide (x < big18)) (fun x => x) (SqL.of h1) (by omega) hD2 (fun x H' Q' z => ⟨_, rfl, 10, 18, rfl, rfl, ⟨by decide, by decide, by decide⟩, x, _, rfl, rfl, _, rfl, z⟩) (fun x H' Q' z => ⟨_, rfl, z⟩) ?_
  obtain ⟨ss, ess⟩ : ∃ ss, ss = cs.filter fun x => decide (x < big18) := ⟨_, rfl⟩
  rw [List.map_id', ← ess]
  have ss0 : ∀ x ∈ ss, 0 ≤ x ∧ x < big18 := fun x hx => by
    rw [ess] at hx
    obtain ⟨h1, h2⟩ := List.mem_filter.mp hx
    exact ⟨cs0 x h1, of_decide_eq_true h2⟩
  have ssl : ss.length ≤ 63 := by
    have := List.length_filter_le (fun x => decide (x < big18)) cs
    rw [ess]
    omega
  have n12 : D1 ≠ D2 := fun z => by
    rw [z, hD2] at h1
    cases h1
  have h1' : (upd H2 D2 (.lst (ss.map V.int))) D1 = some (.lst (cs.map V.int)) := by
    rw [upd_ne n12]
    exact h1
  have h2 : (upd H2 D2 (.lst (ss.map V.int))) D2 = some (.lst (ss.map V.int)) := upd_same
  have sa3 : Same H (upd H2 D2 (.lst (ss.map V.int))) := fun b u z => by
    rw [upd_ne (ne_of_none (sa2 b u z) hD2)]
    exact sa2 b u z
  generalize upd H2 D2 (.lst (ss.map V.int)) = H3 at h1' h2 sa3 ⊢
  -- the great ones
  refine ⟨_, rfl, _, rfl, ⟨_, SqL.of h1'⟩, fun D3 hD3 => ?_⟩
  refine lc_ints (fun x => decide (big18 ≤ x)) (fun x => x) (SqL.of h1') (by omega) hD3 (fun x H' Q' z => ⟨_, rfl, 10, 18, rfl, rfl, ⟨by decide, by decide, by decide⟩, x, _, rfl, rfl, _, rfl, z⟩) (fun x H' Q' z => ⟨_, rfl, z⟩) ?_
  obtain ⟨gs, egs⟩ : ∃ gs, gs = cs.filter fun x => decide (big18 ≤ x) := ⟨_, rfl⟩
  rw [List.map_id', ← egs]
  have gs0 : ∀ x ∈ gs, 0 ≤ x := fun x hx => by
    rw [egs] at hx
    exact cs0 x (List.mem_filter.mp hx).1
  have gsl : gs.length ≤ 63 := by
    have := List.length_filter_le (fun x => decide (big18 ≤ x)) cs
    rw [egs]
    omega
  have n23 : D2 ≠ D3 := fun z => by
    rw [z, hD3] at h2
    cases h2
  have h2' : (upd H3 D3 (.lst (gs.map V.int))) D2 = some (.lst (ss.map V.int)) := by
    rw [upd_ne n23]
    exact h2
  have h3 : (upd H3 D3 (.lst (gs.map V.int))) D3 = some (.lst (gs.map V.int)) := upd_same
  have sa4 : Same H (upd H3 D3 (.lst (gs.map V.int))) := fun b u z => by
    rw [upd_ne (ne_of_none (sa3 b u z) hD3)]
    exact sa3 b u z
  generalize upd H3 D3 (.lst (gs.map V.int)) = H4 at h2' h3 sa4 ⊢
  -- the dict
  intro d hd
  have nd : ∀ b u, H b = some u → b ≠ d := fun b u z => ne_of_none (sa4 b u z) hd
  have f : ∀ {x : Addr} {o : HO}, H4 x = some o → (upd H4 d (.dK [])) x = some o := fun z => by
    rw [upd_ne (ne_of_none z hd)]
    exact z
  have g2 := f h2'
  have g3 := f h3
  have gd : (upd H4 d (.dK [])) d = some (.dK []) := upd_same
  have sa5 : Same H (upd H4 d (.dK [])) := fun b u z => by
    rw [upd_ne (ne_of_none (sa4 b u z) hd)]
    exact sa4 b u z
  generalize upd H4 d (.dK []) = H5 at g2 g3 gd sa5 ⊢
  refine ⟨_, rfl, _, rfl, lim_line (by simp), fun r hr => ?_⟩
  have f2 : ∀ {x : Addr} {o : HO}, H5 x = some o → (upd H5 r (.lst [.int c])) x = some o := fun z => by
    rw [upd_ne (ne_of_none z hr)]
    exact z
  have i2 := f2 g2
  have i3 := f2 g3
  have id' := f2 gd
  have ir : (upd H5 r (.lst [.int c])) r = some (.lst [.int c]) := upd_same
  have sa6 : Same H (upd H5 r (.lst [.int c])) := fun b u z => by
    rw [upd_ne (ne_of_none (sa5 b u z) hr)]
    exact sa5 b u z
  generalize upd H5 r (.lst [.int c]) = H6 at i2 i3 id' ir sa6 ⊢
  refine ⟨_, rfl, lim_line (by simp), fun u hu => ?_⟩
  have f3 : ∀ {x : Addr} {o : HO}, H6 x = some o → (upd H6 u (.lst [])) x = some o := fun z => by
    rw [upd_ne (ne_of_none z hu)]
    exact z
  have j2 := f3 i2
  have j3 := f3 i3
  have jd := f3 id'
  have jr := f3 ir
  have ju : (upd H6 u (.lst [])) u = some (.lst []) := upd_same
  have sa7 : Same H (upd H6 u (.lst [])) := fun b u z => by
    rw [upd_ne (ne_of_none (sa6 b u z) hu)]
    exact sa6 b u z
  generalize upd H6 u (.lst []) = H7 at j2 j3 jd jr ju sa7 ⊢
  refine ⟨.list (ss.map PyData.int), .list [], .lst (SqL.of j2) (ints_dp ss), .lst (SqL.of ju) .nil, ints_shaped ss, by decide +kernel, .inr ⟨_, rfl, ?_⟩⟩
  obtain ⟨k, hk, hk1, hk2⟩ : ∃ k : Nat, (if PyData.eqv (.list (ss.map PyData.int)) (.list []) = true then (1 : Int) else 0) = (k : Int) ∧ k ≤ 1 ∧ (ss = [] → k = 1) := by
    have ee : PyData.eqv (.list (ss.map PyData.int)) (.list []) = ss.isEmpty := by
      simp only [PyData.eqv, eqvAll_nil', List.isEmpty_map]
    rw [ee]
    cases ss with
    | nil => exact ⟨1, rfl, by omega, fun _ => rfl⟩
    | cons x r => exact ⟨0, rfl, by omega, fun z => nomatch z⟩
  rw [hk]
  refine ⟨r, (k : Int), _, rfl, rfl, jr, by omega, by omega, lim_line (by simp; omega), fun v hv => ?_⟩
  have er : (List.replicate (k : Int).toNat [V.int c]).flatten = (List.replicate k c).map V.int := by
    rw [Int.toNat_natCast]
    clear hk hk1 hk2
    induction k with
    | zero => rfl
    | succ k ih =>
      rw [List.replicate_succ, List.flatten_cons, ih]
      rfl
  rw [er]
  have f4 : ∀ {x : Addr} {o : HO}, H7 x = some o → (upd H7 v (.lst ((List.replicate k c).map V.int))) x = some o := fun z => by
    rw [upd_ne (ne_of_none z hv)]
    exact z
  have l2 := f4 j2
  have l3 := f4 j3
  have ld := f4 jd
  have lv : (upd H7 v (.lst ((List.replicate k c).map V.int))) v = some (.lst ((List.replicate k c).map V.int)) := upd_same
  have sa8 : Same H (upd H7 v (.lst ((List.replicate k c).map V.int))) := fun b u z => by
    rw [upd_ne (ne_of_none (sa7 b u z) hv)]
    exact sa7 b u z
  generalize upd H7 v (.lst ((List.replicate k c).map V.int)) = H8 at l2 l3 ld lv sa8 ⊢
  refine ⟨D2, v, _, _, rfl, rfl, l2, lv, lim_line (by simp; omega), fun w hw => ?_⟩
  rw [← List.map_append]
  have f5 : ∀ {x : Addr} {o : HO}, H8 x = some o → (upd H8 w (.lst ((ss ++ List.replicate k c).map V.int))) x = some o := fun z => by
    rw [upd_ne (ne_of_none z hw)]
    exact z
  have m3 := f5 l3
  have md := f5 ld
  have mw : (upd H8 w (.lst ((ss ++ List.replicate k c).map V.int))) w = some (.lst ((ss ++ List.replicate k c).map V.int)) := upd_same
  have n3w : D3 ≠ w := ne_of_none l3 hw
  have sa9 : Same H (upd H8 w (.lst ((ss ++ List.replicate k c).map V.int))) := fun b u z => by
    rw [upd_ne (ne_of_none (sa8 b u z) hw)]
    exact sa8 b u z
  generalize upd H8 w (.lst ((ss ++ List.replicate k c).map V.int)) = H9 at m3 md mw sa9 ⊢
  refine ⟨md, [(kGreat, .ref D3), (kSmall, .ref w), (kTurn, .int 0)], rfl, by simp, ?_⟩
  have em2 : mergeK [] [(kGreat, V.ref D3), (kSmall, .ref w), (kTurn, .int 0)] = [(kGreat, .ref D3), (kSmall, .ref w), (kTurn, .int 0)] := rfl
  rw [em2]
  refine q _ d D3 w (fun b u z => by
    rw [upd_ne (nd b u z)]
    exact sa9 b u z) (DictAt.ok (gs := gs) (ss := ss ++ List.replicate k c) (t := 0) ⟨upd_same, ?_, ?_, gs0, ?_, ?_, by decide, by omega, ?_, n3w⟩)
  · rw [upd_ne (fun z => by
      subst z
      rw [m3] at md
      cases md)]
    exact m3
  · rw [upd_ne (fun z => by
      subst z
      rw [mw] at md
      cases md)]
    exact mw
  · intro x hx
    rcases List.mem_append.mp hx with z | z
    · exact ss0 x z
    · have := List.eq_of_mem_replicate z
      subst this
      exact ⟨c0, c1⟩
  · intro z
    have := List.append_eq_nil_iff.mp z
    have k1 := hk2 this.1
    rw [k1] at this
    cases this.2
  · simp
    omega
theorem dict_opens {T : List (Addr × Str)} {K : PySem.W.Frag} (vs : List V) (H : Hp) (Q : VK) (E : XK) (h : ∃ (a : Addr) (ns : List Int), vs = [.ref a] ∧ SqL K H a (ns.map V.int) ∧ ns.length ≤ 63 ∧ LamX.Tabs T H ∧ ∀ (β : Box) v H', boxIs true β v → β.tabs = T → β.ok H' → Q v H') : spOpened K vs H Q E := by
  obtain ⟨a, ns, e, hS, hl, tb, q⟩ := h
  exact ⟨a, ns, e, hS, hl, fun H' b gr sm sa ok => q (tabBox (dictBox b gr sm) T) _ H' ⟨b, gr, sm, T, rfl, rfl⟩ rfl ⟨ok, tb.ext sa⟩⟩
end Wb
set_option Elab.async false
set_option linter.all false
set_option maxRecDepth 100000
set_option maxHeartbeats 4000000
/-! Wb, part 19: zip over two things, each a list or a tuple. -/
namespace Wb
open PySem PySem.Spec PyProof.Rows L2 RZ
/-- the walker over a tuple (true) or a list (false) -/
def ItOf : Bool → Heap → Addr → Addr → Nat → Prop
  | true, h, j, l, k => h.IsTupleIter j l k
  | false, h, j, l, k => h.IsListIter j l k
def SqOf : Bool → Heap → Addr → Array Value → Prop
  | true, h, l, xs => h.IsTuple l xs
  | false, h, l, xs => h.IsList l xs
section
variable {h h' : Heap} {j l c : Addr} {k : Nat} {xs : Array Value}
theorem ItOf.ext {t : Bool} (x : ItOf t h j l k) (e : Heap.ExtBut c h h') (n : j ≠ c) : ItOf t h' j l k := by
  cases t
  · exact Heap.IsListIter.extBut x e n
  · exact Heap.IsTupleIter.extBut x e n
theorem ItOf.same {t : Bool} (x : ItOf t h j l k) (e : ∀ o, h.get? j = some o → h'.get? j = some o) : ItOf t h' j l k := by
  cases t
  · exact Heap.IsListIter.at x e
  · exact Heap.IsTupleIter.at x e
theorem SqOf.ext {t : Bool} (x : SqOf t h l xs) (e : Heap.ExtBut c h h') (n : l ≠ c) : SqOf t h' l xs := by
  cases t
  · exact Heap.IsList.extBut x e n
  · exact Heap.IsTuple.extBut x e n
theorem ItOf.obj {t : Bool} (x : ItOf t h j l k) : ∃ o vs, h.get? j = some o ∧ o.data = .fields vs := by
  cases t
  · obtain ⟨o, e, _, d⟩ := x
    exact ⟨o, _, e, d⟩
  · obtain ⟨o, e, _, d⟩ := x
    exact ⟨o, _, e, d⟩
theorem SqOf.obj {t : Bool} (x : SqOf t h l xs) : ∃ o, h.get? l = some o := by
  cases t
  · obtain ⟨o, e, _⟩ := x
    exact ⟨o, e⟩
  · obtain ⟨o, e, _⟩ := x
    exact ⟨o, e⟩
end
section
variable {prog : Program} {w : World} {A : Around} {E : Value → Shared → Prop} {s : Shared}
theorem step_of {t : Bool} {j l : Addr} {i : Nat} {xs : Array Value} {x : Value} {Q : Value → Shared → Prop} (hj : ItOf t s.heap j l i) (hl : SqOf t s.heap l xs) (hx : xs[i]? = some x)
    (q : ∀ h', ItOf t h' j l (i + 1) → Heap.SameBut j s.heap h' → Q x { s with heap := h' }) : wpAny (model prog w) A (Builtin.SmallTypes.nextOf (.ref j)) Q E s := by
  cases t
  · exact wpAny_nextOf_list_item hj hl hx q
  · exact nextOf_tuple_item hj hl hx q
theorem last_of {t : Bool} {j l : Addr} {i : Nat} {xs : Array Value} {Q : Value → Shared → Prop} (hh : A.handled = none) (hj : ItOf t s.heap j l i) (hl : SqOf t s.heap l xs) (hx : xs[i]? = none)
    (q : ∀ h' e, Heap.ExtBut j s.heap h' → (∃ o, h'.get? e = some o ∧ o.cls = .type "StopIteration") → E (.ref e) { s with heap := h' }) : wpAny (model prog w) A (Builtin.SmallTypes.nextOf (.ref j)) Q E s := by
  cases t
  · exact wpAny_nextOf_list_end hh hj hl hx q
  · exact nextOf_tuple_end hh hj hl hx q
end
/-! ### zip(x, y) is made -/
def itN (t : Bool) : String := if t = true then "tuple_iterator" else "list_iterator"
abbrev itO (t : Bool) (l : Addr) : Obj := { cls := .type (itN t), data := .fields #[.ref l, .int 0 0] }
theorem itO_of {t : Bool} {h : Heap} {j l : Addr} (e : h.get? j = some (itO t l)) : ItOf t h j l 0 := by
  cases t
  · exact ⟨_, e, rfl, rfl⟩
  · exact ⟨_, e, rfl, rfl⟩
/-! ### the turns of a loop -/
def SqV (t : Bool) (K : PySem.W.Frag) (H : Hp) (a : Addr) (xs : List V) : Prop := if t = true then SqT K H a xs else SqL K H a xs
theorem SqV.at {X : Cx} {pins : List (Addr × Obj)} {σ : L2.St} {H : Hp} {s : Shared} {t : Bool} {a : Addr} {xs : List V} (I : Inv X pins σ H s) (h : SqV t X.K H a xs) : ∃ us, Vals xs us ∧ SqOf t s.heap a us.toArray := by
  cases t
  · obtain ⟨us, r, p, _⟩ := I.list h
    exact ⟨us, r, p.isList⟩
  · obtain ⟨us, r, p, _⟩ := I.tuple h
    exact ⟨us, r, p⟩
theorem SqV.inj {X : Cx} {pins : List (Addr × Obj)} {σ : L2.St} {H : Hp} {s : Shared} {t : Bool} {a : Addr} {xs ys : List V} (I : Inv X pins σ H s) (h : SqV t X.K H a xs) (h' : SqV t X.K H a ys) : xs = ys := by
  cases t
  · exact I.list_inj h h'
  · exact I.tuple_inj h h'
/-- a list (false), a tuple (true), known -/
def HasQ (t : Bool) (H0 : Hp) (a : Addr) (vs : List V) : Prop := match t with
  | true => ∃ o, H0 a = some (.frz o (.tup vs))
  | false => H0 a = some (.lst vs)
theorem HasQ.sq {t : Bool} {K : PySem.W.Frag} {H0 H : Hp} {a : Addr} {vs : List V} (h : HasQ t H0 a vs) (e : Same H0 H) : SqV t K H a vs := by
  cases t
  · exact SqL.of (e _ _ (show H0 a = some (.lst vs) from h))
  · obtain ⟨o, h⟩ : ∃ o, H0 a = some (.frz o (.tup vs)) := h
    exact sqF (e _ _ h)
def seqD : D → Option (Bool × List D)
  | .list xs => some (false, xs)
  | .tuple xs => some (true, xs)
  | _ => none
theorem seqD_has {H0 : Hp} {v : V} {d : D} {t : Bool} {ds : List D} (h : Has H0 v d) (e : seqD d = some (t, ds)) : ∃ a vs, v = .ref a ∧ HasQ t H0 a vs ∧ HasL H0 vs ds := by
  cases h with
  | lst h1 h2 =>
    cases e
    exact ⟨_, _, rfl, h1, h2⟩
  | tup h1 hdn h2 =>
    cases e
    exact ⟨_, _, rfl, ⟨_, h1⟩, h2⟩
  | _ => cases e
def oZipM : List Ar → T (List D)
  | [.d x, .d y] => match seqD x, seqD y with
    | some (_, xs), some (_, ys) => .ret ((xs.zip ys).map fun p => .tuple [p.1, p.2])
    | _, _ => .bad
  | _ => .bad
section
variable {X : Cx} {g : Ct} {a b : Expr} {pos : Pos} {fs : Env' → T (List Ar)}
@[simp] theorem ev_zipTT {xs ys : List D} : oZipM [.d (.tuple xs), .d (.tuple ys)] = .ret ((xs.zip ys).map fun p => .tuple [p.1, p.2]) := rfl
@[simp] theorem ev_zipLL {xs ys : List D} : oZipM [.d (.list xs), .d (.list ys)] = .ret ((xs.zip ys).map fun p => .tuple [p.1, p.2]) := rfl
@[simp] theorem ev_zipTL {xs ys : List D} : oZipM [.d (.tuple xs), .d (.list ys)] = .ret ((xs.zip ys).map fun p => .tuple [p.1, p.2]) := rfl
@[simp] theorem ev_zipLT {xs ys : List D} : oZipM [.d (.list xs), .d (.tuple ys)] = .ret ((xs.zip ys).map fun p => .tuple [p.1, p.2]) := rfl
end
end Wb
set_option Elab.async false
set_option linter.all false
set_option maxRecDepth 100000
set_option maxHeartbeats 4000000
/-! Wb, part 20: several except clauses, with names and without; errors without fields. -/
namespace Wb
open PySem PySem.Spec PyProof.Rows L2
/-! ### in data -/
def afterN : Fl → T Fl
  | .nx ρ => .ret (.nx (clrE ρ))
  | .ret d => .ret (.ret d)
  | .brk ρ => .ret (.brk (clrE ρ))
  | .cnt ρ => .ret (.cnt (clrE ρ))
  | .exc _ _ => .bad
structure Cls where
  slot : Option Nat
  cm : Str → Option Bool
  G : Env' → T Fl
def clsGo : List Cls → Exn → Env' → T Fl
  | [], x, ρ => .ret (.exc x ρ)
  | c :: r, x, ρ => match c.cm x.cls with
    | some true => match c.slot with
      | some i => (c.G (ρ.set i (.ex x))).bind (afterX i)
      | none => (c.G ρ).bind afterN
    | some false => clsGo r x ρ
    | none => .bad
def trB (l : List Cls) : Fl → T Fl
  | .exc x ρ => clsGo l x ρ
  | fl => .ret fl
def sTryM (l : List Cls) (F : Env' → T Fl) : Env' → T Fl := fun ρ => (F ρ).bind (trB l)
end Wb
set_option Elab.async false
set_option linter.all false
set_option maxRecDepth 100000
set_option maxHeartbeats 4000000
/-! Wb, part 21: errors without fields. -/
namespace Wb
open PySem PySem.Spec PyProof.Rows L2
theorem un1 {A : Around} {k : Nat} (h : Room k A) : A.units + 1 < cLine := by
  have := h.un
  omega
def sRaise0 (c : Str) : Env' → T Fl := fun ρ => .ret (.exc ⟨c, []⟩ ρ)
@[simp] theorem ev_Raise0 {c : Str} {ρ : Env'} : sRaise0 c ρ = .ret (.exc ⟨c, []⟩ ρ) := rfl
end Wb
set_option Elab.async false
set_option linter.all false
set_option maxRecDepth 100000
set_option maxHeartbeats 4000000
/-! Wb, part 22: reckoning that many laws want. -/
namespace Wb
open PySem PySem.Spec PyProof.Rows L2
/-! ### what is new, reckoned out -/
section
variable {F G : Env' → T Fl} {ρ : Env'} {x : Exn} {d : D} {l : List Cls} {cm : Str → Option Bool} {i : Nat}
@[simp] theorem ev_TryM : sTryM l F ρ = (F ρ).bind (trB l) := rfl
@[simp] theorem tr_nx : trB l (.nx ρ) = .ret (.nx ρ) := rfl
@[simp] theorem tr_ret : trB l (.ret d) = .ret (.ret d) := rfl
@[simp] theorem tr_exc : trB l (.exc x ρ) = clsGo l x ρ := rfl
@[simp] theorem an_nx : afterN (.nx ρ) = .ret (.nx (clrE ρ)) := rfl
@[simp] theorem an_ret : afterN (.ret d) = .ret (.ret d) := rfl
end
/-! ### small enough to be shown -/
structure Sm (n k : Nat) (v : D) : Prop where
  show_ : v.showable = true
  len : v.shown.length ≤ n
  dep : v.depth ≤ k
theorem Sm.mono {n k n' k' : Nat} {v : D} (h : Sm n k v) (hn : n ≤ n') (hk : k ≤ k') : Sm n' k' v := ⟨h.show_, Nat.le_trans h.len hn, Nat.le_trans h.dep hk⟩
theorem Sm.ok {n k : Nat} {v : D} (h : Sm n k v) (hn : n ≤ 10000000) (hk : k ≤ 100) : okRep v = true := by
  unfold okRep
  rw [Bool.and_eq_true, Bool.and_eq_true]
  have := h.len
  have := h.dep
  exact ⟨⟨h.show_, decide_eq_true (by omega)⟩, decide_eq_true (by omega)⟩
theorem Fine.sm {k b : Nat} {v : D} (h : Fine k b v) : Sm (62 * b + 60) k v := by
  have t := h.tid
  unfold Wb.tid at t
  rw [Bool.and_eq_true] at t
  have e := PyData.shown_le_bulk 60 (by decide) v t.1
  have e2 := Nat.mul_le_mul_left 62 h.blk
  exact ⟨t.2, by omega, h.dep⟩
/-- a tree whose leaves are good, not to be unfolded -/
structure Wp {α : Type} (t : T α) (P : α → Prop) : Prop where
  wp : t.wp P noE
theorem Wp.le {α : Type} {t : T α} {P Q : α → Prop} {E : Exn → Prop} (h : Wp t P) (k : ∀ a, P a → Q a) : t.wp Q E := T.le h.wp k
def inR (lo hi : Int) : D → Bool
  | .int i => decide (lo ≤ i) && decide (i ≤ hi)
  | _ => false
def okv (n m : Int) : D → Bool
  | .tuple xs => decide ((xs.length : Int) = n) && xs.all (inR (-m) m)
  | _ => false
theorem rangeD_len {a : Int} {n : Nat} : (rangeD a n).length = n := by simp [rangeD]
theorem each_ints {lo hi : Int} {ds : List D} : ∀ {ys : List D}, Each (fun _ y => ∃ z, y = PyData.int z ∧ lo ≤ z ∧ z ≤ hi) ds ys → ∃ ns : List Int, ys = ns.map PyData.int ∧ ns.length = ds.length ∧ ∀ n ∈ ns, lo ≤ n ∧ n ≤ hi := by
  intro ys h
  induction h with
  | nil => exact ⟨[], rfl, rfl, fun _ z => nomatch z⟩
  | cons h1 _ ih =>
    obtain ⟨z, rfl, hz⟩ := h1
    obtain ⟨ns, rfl, hl, hb⟩ := ih
    refine ⟨z :: ns, rfl, by simp [hl], fun n hn => ?_⟩
    rcases List.mem_cons.mp hn with k | k
    · subst k
      exact hz
    · exact hb n k
theorem oRng1_nat {n : Nat} (h : n < 1000000) : oRng1 [.d (.int (n : Nat))] = .ret (rangeD 0 n) := by
  show (if (n : Int).natAbs < 1000000000000 then T.ret (rangeD 0 (n : Int).toNat) else .bad) = _
  rw [if_pos (by omega)]
  rfl
/-! ### vectors of ints -/
def vecD (ns : List Int) : D := .tuple (ns.map PyData.int)
/-! ### Euclid's loop -/
end Wb
set_option Elab.async false
set_option linter.all false
set_option maxRecDepth 100000
set_option maxHeartbeats 4000000
/-! Wb, part 23: enumerate over a list or a tuple. -/
namespace Wb
open PySem PySem.Spec PyProof.Rows L2 RZ
open PySem.AutoSeq1 (wpAny_loadPart')
section
variable {prog : Program} {w : World} {A : Around} {E : Value → Shared → Prop} {s : Shared}
theorem enx_item {t : Bool} {c j l : Addr} {k : Nat} {xs : Array Value} {x old : Value} {Q : Value → Shared → Prop} (ec : IsEnum s.heap c j k old) (ij : ItOf t s.heap j l k) (ql : SqOf t s.heap l xs) (ex : xs[k]? = some x) (nj : c ≠ j)
    (q : ∀ h', IsEnumOut h' c j ((k : Int) + 1) x s.heap.objs.size → ItOf t h' j l (k + 1) → h'.get? s.heap.objs.size = some { cls := .type "tuple", data := .seq #[.int k s.toks, x] } → h'.objs.size = s.heap.objs.size + 1 →
      (∀ b o, b ≠ c → b ≠ j → s.heap.get? b = some o → h'.get? b = some o) → Q (.ref s.heap.objs.size) { s with heap := h', toks := s.toks + 1 }) :
    wpAny (model prog w) A (Builtin.«enumerate.__next__» ⟨[.ref c], []⟩) (fun r s' => ∃ v, r = .done (.ret v) ∧ Q v s') E s := by
  obtain ⟨hp, gn, d, tk, os⟩ := s
  show wpAny _ _ (field (.ref c) 2 >>= _) _ _ _; refine wpAny_bind (wpAny_field ec rfl (x := .ref j) rfl ?_)
  refine wpAny_bind (step_of ij ql ex fun g1 ij1 s1 => ?_); replace s1 : Heap.SameBut j hp g1 := s1
  have ec1 : IsEnum g1 c j k old := (s1.2 c nj).trans ec
  show wpAny _ _ (field (.ref c) 3 >>= _) _ _ ⟨g1, gn, d, tk, os⟩; refine wpAny_bind (wpAny_field ec1 rfl (x := rawInt k) rfl ?_)
  show wpAny _ _ (field (.ref c) 4 >>= _) _ _ ⟨g1, gn, d, tk, os⟩; refine wpAny_bind (wpAny_field ec1 rfl (x := .none) rfl ?_)
  show wpAny _ _ (mkInt k >>= _) _ _ ⟨g1, gn, d, tk, os⟩; refine wpAny_bind (wpAny_mkInt ?_)
  show wpAny _ _ (setField (.ref c) 3 (rawInt ((k : Int) + 1)) >>= _) _ _ ⟨g1, gn, d, tk + 1, os⟩
  refine wpAny_bind (wpAny_setField_rec ec1 (by simp) fun g2 ec2 s2 => ?_); replace s2 : Heap.SameBut c g1 g2 := s2
  replace ec2 : IsEnum g2 c j ((k : Int) + 1) old := ec2
  show wpAny _ _ (setField (.ref c) 4 .none >>= _) _ _ ⟨g2, gn, d, tk + 1, os⟩; refine wpAny_bind (wpAny_setField_rec ec2 (by simp) fun g3 ec3 s3 => ?_)
  replace s3 : Heap.SameBut c g2 g3 := s3; replace ec3 : IsEnum g3 c j ((k : Int) + 1) old := ec3
  show wpAny _ _ (newTuple [.int k tk, x] >>= _) _ _ ⟨g3, gn, d, tk + 1, os⟩; refine wpAny_bind (wpAny_newTuple ?_)
  have ec4 : IsEnum (g3.push { cls := .type "tuple", data := .seq #[.int k tk, x] }) c j ((k : Int) + 1) old := Heap.get?_push_of_some _ ec3
  generalize e4 : g3.push { cls := .type "tuple", data := .seq #[.int k tk, x] } = g4 at ec4
  have sz : g3.objs.size = hp.objs.size := by rw [s3.1, s2.1, s1.1]
  have clt : c < hp.objs.size := Heap.lt_size ec
  have new4 : g4.get? hp.objs.size = some { cls := .type "tuple", data := .seq #[.int k tk, x] } := by rw [← e4, ← sz]; exact Heap.get?_push_size _ rfl
  have sz4 : g4.objs.size = hp.objs.size + 1 := by rw [← e4, Heap.size_push, sz]
  have keep4 : ∀ b o, b ≠ c → b ≠ j → hp.get? b = some o → g4.get? b = some o := fun b o n1 n2 e => by
    rw [← e4]; exact Heap.get?_push_of_some _ (s3.extBut b o n1 (s2.extBut b o n1 (s1.extBut b o n2 e)))
  have ij4 : ItOf t g4 j l (k + 1) := by
    rw [← e4]; exact ((ij1.ext s2.extBut (Ne.symm nj)).ext s3.extBut (Ne.symm nj)).same fun o e => Heap.get?_push_of_some _ e
  show wpAny _ _ (Builtin.SmallTypes.ownedTupleIsFree (.ref c) >>= _) _ _ ⟨g4, gn, d, tk + 1, os⟩
  rw [sz]; clear e4 ec3 s3 ec2 s2 ec1 s1 ij1 sz g3 g2 g1
  refine wpAny_bind ?_; unfold Builtin.SmallTypes.ownedTupleIsFree; refine wpAny_bind (wpAny_field ec4 rfl (x := .none) rfl (wpAny_pure ?_))
  simp only [if_true]; refine wpAny_bind (wpAny_rule ?_); refine wpAny_bind (wpAny_field ec4 rfl (x := old) rfl ?_)
  refine wpAny_bind (wpAny_setField_rec ec4 (by simp) fun g5 ec5 s5 => ?_); replace s5 : Heap.SameBut c g4 g5 := s5
  replace ec5 : IsEnum g5 c j ((k : Int) + 1) x := ec5
  show wpAny _ _ (Builtin.SmallTypes.ownedTupleHandOut (.ref c) (.ref hp.objs.size) >>= _) _ _ ⟨g5, gn, d, tk + 1, os⟩; refine wpAny_bind ?_
  unfold Builtin.SmallTypes.ownedTupleHandOut; refine wpAny_bind (wpAny_setField_rec ec5 (by simp) fun g6 ec6 s6 => ?_)
  replace s6 : Heap.SameBut c g5 g6 := s6; replace ec6 : IsEnumOut g6 c j ((k : Int) + 1) x hp.objs.size := ec6
  refine wpAny_setField_rec ec6 (by simp) fun g7 ec7 s7 => ?_; replace s7 : Heap.SameBut c g6 g7 := s7
  replace ec7 : IsEnumOut g7 c j ((k : Int) + 1) x hp.objs.size := ec7
  refine wpAny_bind (wpAny_letGo (wpAny_pure ⟨_, rfl, q g7 ec7 ?_ ?_ ?_ ?_⟩))
  · exact ((ij4.ext s5.extBut (Ne.symm nj)).ext s6.extBut (Ne.symm nj)).ext s7.extBut (Ne.symm nj)
  · have n := Nat.ne_of_gt clt; exact s7.extBut _ _ n (s6.extBut _ _ n (s5.extBut _ _ n new4))
  · rw [s7.1, s6.1, s5.1, sz4]
  · exact fun b o n1 n2 e => s7.extBut b o n1 (s6.extBut b o n1 (s5.extBut b o n1 (keep4 b o n1 n2 e)))
theorem en_py {t : Bool} {c j l : Addr} {k : Nat} {xs : Array Value} {x old : Value} {Q : Option Value → Shared → Prop} (ec : IsEnum s.heap c j k old) (ij : ItOf t s.heap j l k) (ql : SqOf t s.heap l xs) (ex : xs[k]? = some x) (nj : c ≠ j)
    (q : ∀ h', IsEnumOut h' c j ((k : Int) + 1) x s.heap.objs.size → ItOf t h' j l (k + 1) → h'.get? s.heap.objs.size = some { cls := .type "tuple", data := .seq #[.int k s.toks, x] } → h'.objs.size = s.heap.objs.size + 1 →
      (∀ b o, b ≠ c → b ≠ j → s.heap.get? b = some o → h'.get? b = some o) → Q (some (.ref s.heap.objs.size)) { s with heap := h', toks := s.toks + 1 }) : wpAny (model prog w) A (pyNext (.ref c)) Q E s := by
  have ty : s.TypeIs (.ref c) "enumerate" := ⟨_, ec, rfl⟩
  unfold pyNext
  exact wpAny_bind (wpAny_attempt (wpAny_callSpecial?_slot (name := Str.ofString "__next__") ty F.slot_enumerate_next (wpAny_call_entry F.slot_enumerate_next ty F.entry_enumerate_next
    (enx_item ec ij ql ex nj fun h' e1 e2 e3 e4 e5 => wpAny_pure (q h' e1 e2 e3 e4 e5)) (F.args_enumerate_next_1 _))))
theorem en_py_end {t : Bool} {c j l : Addr} {k : Nat} {xs : Array Value} {old : Value} {Q : Option Value → Shared → Prop} (hh : A.handled = none) (ec : IsEnum s.heap c j k old) (ij : ItOf t s.heap j l k) (ql : SqOf t s.heap l xs) (ex : xs[k]? = none)
    (q : ∀ h', Heap.ExtBut j s.heap h' → Q none { s with heap := h' }) : wpAny (model prog w) A (pyNext (.ref c)) Q E s := by
  have ty : s.TypeIs (.ref c) "enumerate" := ⟨_, ec, rfl⟩
  unfold pyNext
  refine wpAny_bind (wpAny_attempt (wpAny_callSpecial?_slot (name := Str.ofString "__next__") ty F.slot_enumerate_next (wpAny_call_entry F.slot_enumerate_next ty F.entry_enumerate_next ?_ (F.args_enumerate_next_1 _))))
  show wpAny _ _ (field (.ref c) 2 >>= _) _ _ _; refine wpAny_bind (wpAny_field ec rfl (x := .ref j) rfl ?_)
  refine wpAny_bind (last_of hh ij ql ex fun h' r eb hr => ?_)
  obtain ⟨o, ho, hc⟩ := hr
  refine wpAny_bind (wpAny_isInstance (T := "StopIteration") (b := true) ⟨o, ho, hc⟩ isSubtype_stop ?_); exact wpAny_pure (q _ eb)
end
abbrev eg1 (t : Bool) (h : Heap) (l : Addr) : Heap := h.push (itO t l)
abbrev eg2 (t : Bool) (h : Heap) (l : Addr) : Heap := (eg1 t h l).push { cls := .type "enumerate", data := .fields #[.none, .bool false, .ref h.objs.size, rawInt 0, .none, .none] }
theorem emakeL (l : Addr) (xs : Array Value) (n : Nat) (dct : Option Addr) (sl : Array (Option Value)) :
    Meets (Builtin.«enumerate.__new__» ⟨[.type "enumerate", .ref l], []⟩) (fun _ R s => s.heap.get? l = some { cls := .type "tuple", dict := dct, data := .seq xs n, slots := sl } ∧ R (.ok (.ret (.ref (eg1 true s.heap l).objs.size))) { s with heap := eg2 true s.heap l }) :=
  .of_wp fun prog w A R s h => by
    obtain ⟨hp, gn, d, tk, os⟩ := s; obtain ⟨ol, h⟩ := h
    have sb := sub_enumerate
    have q : Heap.IsTuple (Shared.heap ⟨hp, gn, d, tk, os⟩) l xs := ⟨_, ol, rfl, n, rfl⟩
    wp_walk using wpAny_loadPart' ol
    refine wpAny_stack_any fun st => wpAny_pure ?_
    split
    · rename_i c _ _ _ _ _
      cases (c == Value.type "enumerate")
      · wp_walk using wpAny_loadPart' ol, wpAny_pyIter_tuple q
        exact ⟨_, rfl, h⟩
      · wp_walk using wpAny_loadPart' ol, wpAny_pyIter_tuple q
        exact ⟨_, rfl, h⟩
    · wp_walk using wpAny_loadPart' ol, wpAny_pyIter_tuple q
      exact ⟨_, rfl, h⟩
section
variable {prog : Program} {w : World} {A : Around} {E : Value → Shared → Prop} {s : Shared}
theorem ecall {t : Bool} {l : Addr} {xs : Array Value} {Q : Value → Shared → Prop} (ql : SqOf t s.heap l xs)
    (h : ∀ h', IsEnum h' (s.heap.objs.size + 1) s.heap.objs.size 0 .none → ItOf t h' s.heap.objs.size l 0 → h'.objs.size = s.heap.objs.size + 2 → (∀ b o, s.heap.get? b = some o → h'.get? b = some o) → Q (.ref (s.heap.objs.size + 1)) { s with heap := h' }) :
    wpAny (model prog w) A (call (.type "enumerate") [.ref l]) Q E s := by
  cases t
  · exact call_enumerate_list ql h
  · obtain ⟨⟨c, dct, dt, sl⟩, ho, hc, n, hd⟩ := ql
    replace hc : c = .type "tuple" := hc
    replace hd : dt = .seq xs n := hd
    subst hc hd
    refine callType_new F.called_enumerate (by decide) (F.typeCall_enumerate_1 _) (F.newCall_enumerate_1 _) (fun obj => F.args_object_init_2 obj _) F.entry_enumerate_new (emakeL l xs n dct sl) ⟨ho, ?_⟩
    have n1 : (eg1 true s.heap l).objs.size = s.heap.objs.size + 1 := Heap.size_push ..
    have n2 : (eg2 true s.heap l).objs.size = s.heap.objs.size + 2 := by rw [Heap.size_push, n1]
    have f2 : (eg2 true s.heap l).get? (eg1 true s.heap l).objs.size = some _ := Heap.get?_push_size _ rfl
    have f1 : (eg2 true s.heap l).get? s.heap.objs.size = some (itO true l) := Heap.get?_push_of_some _ (Heap.get?_push_size _ rfl)
    show _ ∧ _
    rw [n1] at f2 ⊢
    exact ⟨⟨_, f2, rfl⟩, h _ f2 (itO_of f1) n2 fun b o x => Heap.get?_push_of_some _ (Heap.get?_push_of_some _ x)⟩
end
def ItE (t : Bool) (K : PySem.W.Frag) (a : Addr) : It :=
  ⟨fun i H => ∃ (xs : List V) (x : V), SqV t K H a xs ∧ xs[i]? = some x, fun i H v H' => ∃ p ob x, v = .ref p ∧ H p = none ∧ ob.dict = none ∧ H' = upd H p (.frz ob (.tup [.int (i : Nat), x])) ∧ ∀ xs, SqV t K H a xs → xs[i]? = some x,
    fun i H => ∃ xs : List V, SqV t K H a xs ∧ xs.length ≤ i⟩
theorem turnE {t : Bool} {P : Program} {w : World} {K : PySem.W.Frag} {elts : List Expr} {kk : Nat} {tpos : Pos} (a c j : Addr) :
    Turn P w K (.Tuple elts kk tpos) (ItE t K a) [c, j] c (fun i h => (∃ old, IsEnum h c j ((i : Nat) : Int) old) ∧ ItOf t h j a i ∧ c ≠ j) where
  mem := by simp
  obj := fun i h st b hb => by
    obtain ⟨⟨old, he⟩, ij, _⟩ := st
    obtain ⟨o, vs, e, d⟩ := ij.obj
    have e' : b = c ∨ b = j := by simpa using hb
    rcases e' with z | z
    · rw [z]; exact ⟨_, he, fun v q => nomatch q⟩
    · rw [z]; exact ⟨o, e, fun v q => by rw [d] at q; cases q⟩
  keep := fun i h h' st k => let ⟨⟨old, he⟩, ij, n⟩ := st; ⟨⟨old, k c (by simp) _ he⟩, ij.same fun o q => k j (by simp) o q, n⟩
  item := by
    intro X hP hw hK hc i pins s σ H E I hf st hg
    subst hP hw hK
    obtain ⟨⟨old, he⟩, ij, nj⟩ := st
    obtain ⟨xs, x, hq, hx⟩ := hg
    obtain ⟨us, ru, q1⟩ := hq.at I
    obtain ⟨u, hu, rx⟩ := ru.get hx
    have clt : c < s.heap.objs.size := Heap.lt_size he
    have jlt : j < s.heap.objs.size := by obtain ⟨_, _, e, _⟩ := ij.obj; exact Heap.lt_size e
    refine en_py he ij q1 (x := u) (by simpa using hu) nj fun h' ho ij' new' sz hk => ?_
    refine ⟨_, rfl, wpAny_letOwnedTupleGo_enum (s := { s with heap := h', toks := s.toks + 1 }) ho fun h2 he2 sb => ?_⟩
    have new2 : h2.get? s.heap.objs.size = some { cls := .type "tuple", data := .seq #[.int i s.toks, u] } := (sb.2 _ (Nat.ne_of_gt clt)).trans new'
    have ok : ObjOk X.prog X.w (upd H s.heap.objs.size (.frz { cls := .type "tuple", data := .seq #[.int i s.toks, u] } (.tup [.int (i : Nat), x]))) h2 s.heap.objs.size (.frz { cls := .type "tuple", data := .seq #[.int i s.toks, u] } (.tup [.int (i : Nat), x])) :=
      ⟨new2, by show 2 ≤ sizeLine; decide, [.int i s.toks, u], .cons ⟨_, rfl⟩ (.cons rx .nil), ⟨_, new2, rfl, _, rfl⟩⟩
    have I1 : Inv X pins σ (upd H s.heap.objs.size (.frz { cls := .type "tuple", data := .seq #[.int i s.toks, u] } (.tup [.int (i : Nat), x]))) { s with heap := h2, toks := s.toks + 1 } :=
      I.turnedNew (ch := [c, j]) (fun b ob nb q => (sb.2 b (fun z => nb (by simp [z]))).trans (hk b ob (fun z => nb (by simp [z])) (fun z => nb (by simp [z])) q)) hf (Nat.le_refl _) ok
    refine ⟨.ref s.heap.objs.size, _, I1, rfl, ⟨_, _, x, rfl, I.hok.fresh (Nat.le_refl _), rfl, rfl, fun ys hy => by rw [hy.inj I hq]; exact hx⟩, ⟨⟨u, ?_⟩, ij'.same fun o q => (sb.2 j (Ne.symm nj)).trans q, nj⟩, fun b hb => ?_⟩
    · have e1 : ((i + 1 : Nat) : Int) = (i : Int) + 1 := by omega
      rw [e1]; exact he2
    · have hb' : b < s.heap.objs.size := by
        have e' : b = c ∨ b = j := by simpa using hb
        rcases e' with z | z
        · rw [z]; exact clt
        · rw [z]; exact jlt
      rw [upd_ne (Nat.ne_of_lt hb')]
      exact (hf b hb).1
  done := by
    intro X hP hw hK hc i pins s σ H E I hf st hg
    subst hP hw hK
    obtain ⟨⟨old, he⟩, ij, nj⟩ := st
    obtain ⟨xs, hq, hx⟩ := hg
    obtain ⟨us, ru, q1⟩ := hq.at I
    obtain ⟨f0, f1, f2, f3, f4, f5⟩ := hf j (by simp)
    have hl := ru.length
    exact en_py_end (I.ok.hd hc) he ij q1 (by simp; omega) fun h' eb => ⟨rfl, I.turned (t' := s.toks) (fun b o nb q => eb b o nb q) f0 f1 f3 f4 f5⟩
  self := fun A i s Q E st h => let ⟨⟨_, he⟩, _⟩ := st; wpAny_pyIter_enum he h
def iEnumM (K : PySem.W.Frag) (ta : TA) : TI := fun σ H R => ta σ H fun vs H1 => ∃ t a xs, vs = [.ref a] ∧ SqV t K H1 a xs ∧ R (ItE t K a) H1
theorem pi_enumM {X : Cx} {e : Expr} {ta : TA} {p pos tpos : Pos} {elts : List Expr} {kk : Nat} (hg : Gl X "enumerate") (hm : X.mg "enumerate" = none) (ha : PA X [e] ta) (hs : starEach [e] X.env = [(false, eval e X.env)] := by rfl) :
    PI X (.Tuple elts kk tpos) (.Call (.Name "enumerate" p) [e] [] pos) (iEnumM X.K ta) := by
  refine ⟨fun pins s σ H R I h => Call_ (ld_blt I hg hm boot_enumerate (PyProof.Rows.callWith_type1 (thn (ha.run pos pins s σ H _ I h) fun us s1 ⟨vs, H1, I1, r1, q1⟩ => ?_) hs rfl))⟩
  obtain ⟨t, a, xs, ex, hq, q⟩ := q1
  subst ex
  cases r1 with
  | cons r rr =>
    cases rr
    cases r
    obtain ⟨us, ru, p1⟩ := hq.at I1
    refine ecall p1 fun h' he ij sz hk => wpAny_pyIter_enum he ?_
    have I2 : Inv X pins σ H1 { s1 with heap := h' } := I1.kept (t' := s1.toks) hk
    refine ⟨s1.heap.objs.size + 1, [s1.heap.objs.size + 1, s1.heap.objs.size], _, _, H1, rfl, I2, turnE a (s1.heap.objs.size + 1) s1.heap.objs.size, ⟨⟨.none, he⟩, ij, Nat.succ_ne_self _⟩, fun b hb => ?_, q⟩
    have e' : b = s1.heap.objs.size + 1 ∨ b = s1.heap.objs.size := by simpa using hb
    have hle : s1.heap.objs.size ≤ b := by
      rcases e' with z | z
      · rw [z]; exact Nat.le_add_right _ _
      · rw [z]; exact Nat.le_refl _
    exact I1.fpOk hle (I1.hok.fresh hle)
/-- what a turn gives: a new pair of its number and the item -/
def YNum (f : Nat → Option V) : Nat → Hp → V → Hp → Prop := fun i H v H' => ∃ p ob x, v = .ref p ∧ H p = none ∧ ob.dict = none ∧ H' = upd H p (.frz ob (.tup [.int (i : Nat), x])) ∧ f i = some x
theorem walkE {t : Bool} {K : PySem.W.Frag} {a : Addr} {xs : List V} : Walk (ItE t K a) xs.length (fun H => SqV t K H a xs) (YNum fun i => xs[i]?) := by
  refine ⟨fun i _ hi q => ⟨xs, xs[i], q, by rw [List.getElem?_eq_getElem]⟩, fun _ q => ⟨xs, q, Nat.le_refl _⟩, fun i H v H' _ q y => ?_⟩
  obtain ⟨p, ob, x, h1, h2, hz, h3, h4⟩ := y
  exact ⟨p, ob, x, h1, h2, hz, h3, h4 xs q⟩
def numD : Nat → List D → List D
  | _, [] => []
  | i, d :: r => .tuple [.int (i : Nat), d] :: numD (i + 1) r
theorem numD_len : ∀ (i : Nat) (ds : List D), (numD i ds).length = ds.length
  | _, [] => rfl
  | i, d :: r => by simp [numD, numD_len (i + 1) r]
theorem numD_get : ∀ (i j : Nat) (ds : List D), (numD i ds)[j]? = ds[j]?.map fun d => .tuple [.int ((i + j : Nat) : Int), d]
  | _, _, [] => by simp [numD]
  | i, 0, d :: r => rfl
  | i, j + 1, d :: r => by
    show (numD (i + 1) r)[j]? = _
    rw [numD_get (i + 1) j r, show i + 1 + j = i + (j + 1) by omega]
    rfl
theorem gives_enumM {t : Bool} {K : PySem.W.Frag} {H0 : Hp} {a : Addr} {vs : List V} {ds : List D} (h : HasQ t H0 a vs) (hl : HasL H0 vs ds) : Gives (ItE t K a) (numD 0 ds) H0 := by
  have len : vs.length = (numD 0 ds).length := by rw [numD_len, hl.length]
  have wk := walkE (t := t) (K := K) (a := a) (xs := vs)
  rw [len] at wk
  refine ⟨_, _, wk, fun H1 e => h.sq e, fun i H1 x H2 d H0' hd e0 e1 y => ?_⟩
  obtain ⟨tp, ob, u, rfl, hn, hz, rfl, hu⟩ := y
  obtain ⟨d1, a1, a2⟩ := hl.get hu
  rw [numD_get, a1, Nat.zero_add] at hd
  cases hd
  exact .inr ⟨tp, ob, [.int (i : Nat), u], [.int (i : Nat), d1], rfl, hn, hz, rfl, rfl, .cons (.int _) (.cons (a2.mono e0) .nil)⟩
def oEnum : List Ar → T (List D)
  | [.d x] => match seqD x with
    | some (_, xs) => .ret (numD 0 xs)
    | none => .bad
  | _ => .bad
section
variable {X : Cx} {g : Ct} {a : Expr} {pos : Pos} {fs : Env' → T (List Ar)}
theorem HasAs.one1 {β : Box} {H0 : Hp} {vs : List V} {x : D} (h : HasAs β H0 vs [.d x]) : ∃ v, vs = [v] ∧ Has H0 v x := by
  cases h with
  | cons h r =>
    cases r
    exact ⟨_, rfl, h⟩
theorem i_enum {p tpos : Pos} {elts : List Expr} {kk : Nat} (hg : Gl X "enumerate") (hm : X.mg "enumerate" = none) (ha : PA X [a] (tA g fs)) (hs : starEach [a] X.env = [(false, eval a X.env)] := by rfl) :
    PI X (.Tuple elts kk tpos) (.Call (.Name "enumerate" p) [a] [] pos) (tI g (iArg oEnum fs)) :=
  (pi_enumM hg hm ha hs).imp fun σ H R ⟨β, H0, ρ, rr, q⟩ => tA_then (k := oEnum) rr q fun as vs H1 H2 st hv q1 => by
    unfold oEnum at q1
    split at q1
    · next x =>
      split at q1
      · next t xs ex =>
        obtain ⟨v, rfl, h1⟩ := hv.one1
        obtain ⟨a1, u1, rfl, k1, l1⟩ := seqD_has h1 ex
        exact ⟨t, _, _, rfl, k1.sq st.ext, q1 _ H1 H2 st (gives_enumM k1 l1)⟩
      · exact q1.elim
    · exact q1.elim
@[simp] theorem ev_enumT {xs : List D} : oEnum [.d (.tuple xs)] = .ret (numD 0 xs) := rfl
@[simp] theorem ev_enumL {xs : List D} : oEnum [.d (.list xs)] = .ret (numD 0 xs) := rfl
end
end Wb
set_option Elab.async false
set_option linter.all false
set_option maxRecDepth 100000
set_option maxHeartbeats 4000000
/-! Wb, part 24: dicts. -/
namespace Wb
open PySem PySem.Spec PyProof.Rows L2
/-! ### what a dict holds -/
def keyOf : D → Option Key
  | .int i => some (.inl i)
  | .str x => some (.inr x)
  | _ => none
theorem keyOf_keyD (k : Key) : keyOf (keyD k) = some k := by cases k <;> rfl
def lookK : List (D × D) → Key → Option D
  | [], _ => none
  | p :: r, k => if keyOf p.1 = some k then some p.2 else lookK r k
theorem HasK.look {H : Hp} (k : Key) : ∀ {kvs : List (Key × V)} {ds : List (D × D)}, HasK H kvs ds → (∀ d, lookK ds k = some d → ∃ v, valV kvs k = some v ∧ Has H v d) ∧ (lookK ds k = none → valV kvs k = none)
  | _, _, .nil => ⟨(fun _ z => nomatch z), fun _ => rfl⟩
  | _, _, .cons (k := k') (v := v) (d := d) h r => by
    obtain ⟨i1, i2⟩ := HasK.look k r
    by_cases e : k' = k
    · have e2 : keyOf (keyD k') = some k := by rw [keyOf_keyD, e]
      have e3 : ∀ ds', lookK ((keyD k', d) :: ds') k = some d := fun ds' => if_pos e2
      refine ⟨fun x hx => ?_, fun z => ?_⟩
      · rw [e3] at hx
        cases hx
        exact ⟨v, valV_pos e, h⟩
      · rw [e3] at z
        cases z
    · have e2 : ¬ keyOf (keyD k') = some k := fun z => by
        rw [keyOf_keyD] at z
        exact e (Option.some.inj z)
      have e3 : ∀ ds', lookK ((keyD k', d) :: ds') k = lookK ds' k := fun ds' => if_neg e2
      refine ⟨fun x hx => ?_, fun z => ?_⟩
      · rw [e3] at hx
        obtain ⟨u, h1, h2⟩ := i1 x hx
        exact ⟨u, by rw [valV_neg e]; exact h1, h2⟩
      · rw [e3] at z
        rw [valV_neg e]
        exact i2 z
theorem has_key {H0 : Hp} {v : V} {d : D} {k : Key} (h : Has H0 v d) (e : keyOf d = some k) : v = kV k := by
  cases h with
  | int i =>
    cases e
    rfl
  | str x =>
    cases e
    rfl
  | _ => cases e
/-- d[k] -/
def oDGet : D → D → T D
  | .dict kvs, x => match keyOf x with
    | some k => match lookK kvs k with
      | some v => .ret v
      | none => .bad
    | none => .bad
  | _, _ => .bad
section
variable {X : Cx} {g : Ct} {a b : Expr} {f h : Env' → T D} {pos : Pos}
theorem r_dget (hu : X.A.units + 1 < cLine) (ha : PE X a (tE g f)) (hb : PE X b (tE g h)) (hs : NoSl b) : PE X (.Subscript a b pos) (tE g (eBin oDGet f h)) :=
  (pe_dget hu ha hb hs).imp fun σ H Q ⟨β, H0, ρ, rr, q⟩ => tE_then rr q fun d v H1 H2 st hv q1 => by
    have rr1 := rr.step st
    refine tE_then rr1 (wp_out st q1) fun d' v' H3 H4 st2 hv' q2 => ?_
    have q3 := wp_out st2 q2
    have hv2 := hv.mono st2.grow
    cases hv2 with
    | @dct p kvs ds h1 h2 =>
      have q4 : (match keyOf d' with
        | some k => match lookK ds k with
          | some v => T.ret v
          | none => .bad
        | none => .bad).wp (Out β H3 H4 Q) (g.X β H3 H4 σ) := q3
      split at q4
      · next k ek =>
        split at q4
        · next z ez =>
          obtain ⟨u, e1, e2⟩ := (h2.look k).1 z ez
          have ev := has_key hv' ek
          subst ev
          have dg := DGet.k (k := k) (st2.ext _ _ h1)
          rw [e1] at dg
          exact ⟨p, u, rfl, dg, out_ret st2.ext st2.ok st2.boxf e2 q4⟩
        · exact q4.elim
      · exact q4.elim
    | _ => exact q3.elim
end
/-! ### a dict is written -/
def fsOf : List (Str × (Env' → T D)) → Env' → T (List Ar)
  | [] => aNil
  | p :: r => aCons p.2 (fsOf r)
def trsOf (g : Ct) : List (Str × (Env' → T D)) → List (TE × TE)
  | [] => []
  | p :: r => (tC (.str p.1), tE g p.2) :: trsOf g r
def mkDct (ks : List Str) : Option (List D) → T D
  | some ds => if ds.length = ks.length ∧ ks.Nodup ∧ ks.length ≤ 15 then .ret (.dict ((ks.map PyData.str).zip ds)) else .bad
  | none => .bad
def eDct (l : List (Str × (Env' → T D))) : Env' → T D := fun ρ => (fsOf l ρ).bind fun as => mkDct (l.map (·.1)) (dsOf as)
theorem pairs_of {g : Ct} : ∀ (l : List (Str × (Env' → T D))) {σ : L2.St} {H H0 : Hp} {β : Box} {ρ : Env'} {Q : List (V × V) → Hp → Prop}, Rel g.cad β g.ξ H0 ρ σ H →
    (fsOf l ρ).wp (fun as => ∀ vs H0' H', Stp β H0 H H0' H' → HasAs β H0' vs as → Q ((l.map fun p => V.str p.1).zip vs) H') (g.X β H0 H σ) → tPairs (trsOf g l) σ H Q
  | [], _, _, _, _, _, _, rr, q => q [] _ _ rr.refl .nil
  | p :: l, σ, H, H0, β, ρ, Q, rr, q => by
    show tE g p.2 σ H fun y H2 => tPairs (trsOf g l) σ H2 fun ps H3 => Q ((V.str p.1, y) :: ps) H3
    have q' : ((p.2 ρ).bind fun d => (fsOf l ρ).bind fun r => T.ret (Ar.d d :: r)).wp (fun as => ∀ vs H0' H', Stp β H0 H H0' H' → HasAs β H0' vs as → Q (((p :: l).map fun p => V.str p.1).zip vs) H') (g.X β H0 H σ) := q
    refine tE_then rr q' fun d v H1 H2 st hv q1 => ?_
    have q2 := T.wp_mono (fun (as : List Ar) (h : ∀ vs H0' H', Stp β H0 H H0' H' → HasAs β H0' vs as → Q (((p :: l).map fun p => V.str p.1).zip vs) H') vs H0' H' s e => h vs H0' H' (st.trans s) e) (fun x (h : g.X β H0 H σ x) => h.step st) _ q1
    refine pairs_of l (rr.step st) (T.wp_mono (fun as h vs H0' H' s e => ?_) (fun _ z => z) _ ((T.wp_bind _ _).mp q2))
    exact h (v :: vs) H0' H' s (.cons (hv.mono s.grow) e)
theorem mergeK_nodup : ∀ (kvs acc : List (Key × V)), (acc.map (·.1) ++ kvs.map (·.1)).Nodup → mergeK acc kvs = acc ++ kvs
  | [], acc, _ => by simp [mergeK]
  | kv :: r, acc, h => by
    have e : putK acc kv.1 kv.2 = acc ++ [kv] := by
      unfold putK
      rw [if_neg]
      intro z
      obtain ⟨p, hp, hk⟩ := List.any_eq_true.mp z
      rw [List.nodup_append] at h
      exact h.2.2 p.1 (List.mem_map.mpr ⟨p, hp, rfl⟩) kv.1 (by simp) (of_decide_eq_true hk)
    show mergeK (putK acc kv.1 kv.2) r = _
    rw [e, mergeK_nodup r (acc ++ [kv]) (by simpa using h)]
    simp
theorem hasK_zip {H : Hp} : ∀ {ks : List Str} {vs : List V} {ds : List D}, HasL H vs ds → HasK H ((ks.map Sum.inr).zip vs) ((ks.map PyData.str).zip ds)
  | [], _, _, _ => by simpa using HasK.nil
  | _ :: _, _, _, .nil => by simpa using HasK.nil
  | k :: ks, _, _, .cons h r => HasK.cons (k := .inr k) h (hasK_zip (ks := ks) r)
theorem zip_keys : ∀ (ks : List Str) (vs : List V), (ks.map V.str).zip vs = ((ks.map Sum.inr).zip vs).map (fun kv : Key × V => (kV kv.1, kv.2))
  | [], _ => rfl
  | _ :: _, [] => rfl
  | k :: ks, v :: vs => by
    have ih := zip_keys ks vs
    simp only [List.map_cons, List.zip_cons_cons] at ih ⊢
    rw [ih]
    rfl
theorem r_dct {X : Cx} {g : Ct} {keys : List (Option Expr)} {values : List Expr} {pos : Pos} {l : List (Str × (Env' → T D))} (h : PPs X pos keys values (trsOf g l)) (hall : keys.all (·.isSome) = true) (hl : keys.length = values.length) (h0 : keys ≠ [])
    (h15 : keys.length ≤ 15) : PE X (.Dict keys values pos) (tE g (eDct l)) := (pe_disp h hall hl h0 h15).imp fun σ H Q ⟨β, H0, ρ, rr, q⟩ p hp => by
  have hp0 : H0 p = none := rr.ext.free hp
  have nS : ¬ β.S p := fun z => by
    obtain ⟨u, w⟩ := β.here H p rr.ok z
    rw [hp] at w
    cases w
  have jk : Stp β H0 H H0 (upd H p (.dK [])) := rr.junk hp
  refine pairs_of l (rr.step jk) (T.wp_mono (fun as z vs H1 H2 st hv => ?_) (fun _ z => z.step jk) _ ((T.wp_bind _ _).mp q))
  obtain ⟨n1, k1⟩ := st.priv p _ upd_same hp0
  have hD := k1 nS
  refine ⟨hD, ?_⟩
  unfold mkDct at z
  split at z
  · next ds e =>
    split at z
    · next c =>
      have hd := hv.ds (dsOf_some e)
      have lv : vs.length = (l.map (·.1)).length := by rw [hd.length]; exact c.1
      refine ⟨((l.map (·.1)).map Sum.inr).zip vs, ?_, ?_, ?_⟩
      · rw [← zip_keys, List.map_map]
        rfl
      · rw [List.length_zip, List.length_map]
        have := c.2.2
        omega
      · have em : mergeK [] (((l.map (·.1)).map Sum.inr).zip vs) = ((l.map (·.1)).map Sum.inr).zip vs := by
          have := mergeK_nodup (((l.map (·.1)).map Sum.inr).zip vs) [] (by
            rw [List.map_nil, List.nil_append, List.map_fst_zip (by rw [List.length_map, lv]; exact Nat.le_refl _)]
            exact List.Pairwise.map _ (fun a b hab e => hab (Sum.inr.inj e)) c.2.1)
          simpa using this
        rw [em]
        have s1 : Stp β H0 H H1 H2 := jk.trans st
        have s2 := (s1.mine (o := .dK (((l.map (·.1)).map Sum.inr).zip vs)) hp n1 nS (ncS hD ncDK)).known hp n1 nS upd_same
        exact z (.ref p) _ _ s2 (.dct upd_same (HasK.mono (fun b u w => by
          rw [upd_ne (ne_of_none w n1)]
          exact w) (hasK_zip hd)))
    · exact z.elim
  · exact z.elim
end Wb
set_option Elab.async false
set_option linter.all false
set_option maxRecDepth 100000
set_option maxHeartbeats 4000000
/-! Wb, part 25: calls without arguments, reversed, isinstance of the error that is handled. -/
namespace Wb
open PySem PySem.Spec PyProof.Rows L2 RT
section
variable {β : Box} {ρ : Env'} {l : List (Str × (Env' → T D))} {p : Str × (Env' → T D)} {x : D} {ds : List D}
@[simp] theorem ev_dct : eDct l ρ = (fsOf l ρ).bind fun as => mkDct (l.map (·.1)) (dsOf as) := rfl
@[simp] theorem ev_fs0 : fsOf [] ρ = .ret [] := rfl
@[simp] theorem ev_fsS : fsOf (p :: l) ρ = (p.2 ρ).bind fun d => (fsOf l ρ).bind fun r => .ret (.d d :: r) := rfl
@[simp] theorem ev_mkd {ks : List Str} : mkDct ks (some ds) = if ds.length = ks.length ∧ ks.Nodup ∧ ks.length ≤ 15 then .ret (.dict ((ks.map PyData.str).zip ds)) else .bad := rfl
end
theorem r_cal0 {X : Cx} {g : Ct} {x : Str} {p pos : Pos} {j k n : Nat} {m : List Ar → T D} (C : Cal X.prog X.w X.K X.mg X.base g.cad x j n m) (hr : Room k X.A) (hjk : j ≤ k) (hgu : X.A.guards = some []) (hg : Gl X x) (tk : Takes X g.W)
    (hdb : (x == ("__debug__" : Str)) = false := by decide) : PE X (.Call (.Name x p) [] [] pos) (tE g (eCall n m aNil)) := by
  obtain ⟨fa, fd, ps, F, h1, h2, h3⟩ := C.ex
  exact r_call0 F (hr.mono hjk) hgu hg h1 h2 h3 tk hdb
/-! ### reversed -/
def oRev : D → T (List D)
  | .list ds => .ret ds.reverse
  | .tuple ds => .ret ds.reverse
  | _ => .bad
def iRev (f : Env' → T D) : Env' → T (List D) := fun ρ => (f ρ).bind oRev
@[simp] theorem ev_iRev {f : Env' → T D} {ρ : Env'} : Wb.iRev f ρ = (f ρ).bind oRev := rfl
@[simp] theorem ev_revT {ds : List D} : oRev (.tuple ds) = .ret ds.reverse := rfl
@[simp] theorem ev_revL {ds : List D} : oRev (.list ds) = .ret ds.reverse := rfl
/-! ### isinstance(e, C), isinstance(e, (C, ..)), e the error that is handled -/
/-- a def that is not called -/
theorem FnG.none {P : Program} {w : World} {K : PySem.W.Frag} {mg : Str → Option Value} {base : Heap} {cad : Cad} {k : Nat} {fa : Addr} {fd : FuncData} {ps : List Str} : FnG P w K mg base k fa fd ps (spD cad ps.length fun _ => .bad) :=
  ⟨fun _ _ _ _ h => h.1, fun _ _ _ _ _ _ _ _ _ _ _ _ _ _ h => by
    obtain ⟨_, _, _, _, _, _, _, _, _, q⟩ := h
    exact q.elim⟩
end Wb
set_option Elab.async false
set_option linter.all false
set_option maxRecDepth 100000
set_option maxHeartbeats 4000000
/-! Wb, part 26: x[::-1] of a tuple or a list. -/
namespace Wb
open PySem PySem.Spec PyProof.Rows L2 HT
def oRevS : D → T D
  | .list xs => .ret (.list xs.reverse)
  | .tuple xs => .ret (.tuple xs.reverse)
  | _ => .bad
def eRevS (f : Env' → T D) : Env' → T D := fun ρ => (f ρ).bind oRevS
@[simp] theorem ev_revS {f : Env' → T D} {ρ : Env'} : eRevS f ρ = (f ρ).bind oRevS := rfl
@[simp] theorem oRevS_list {xs : List D} : oRevS (.list xs) = .ret (.list xs.reverse) := rfl
@[simp] theorem oRevS_tup {xs : List D} : oRevS (.tuple xs) = .ret (.tuple xs.reverse) := rfl
/-! ### list.count -/
def oCnt (x y : D) : T D := match x with
  | .list ds => if (cEq y && cEq (.list ds)) = true then .ret (.int ((ds.countP fun z => PyData.eqv z y : Nat) : Int)) else .bad
  | _ => .bad
def kCnt (h : Env' → T D) (ρ : Env') : D → T D
  | .list ds => (h ρ).bind fun y => oCnt (.list ds) y
  | _ => .bad
def eCnt (f h : Env' → T D) : Env' → T D := fun ρ => (f ρ).bind fun x => kCnt h ρ x
@[simp] theorem ev_cnt {f h : Env' → T D} {ρ : Env'} : eCnt f h ρ = (f ρ).bind fun x => kCnt h ρ x := rfl
@[simp] theorem kCnt_list {h : Env' → T D} {ρ : Env'} {ds : List D} : kCnt h ρ (.list ds) = (h ρ).bind fun y => oCnt (.list ds) y := rfl
@[simp] theorem oCnt_list {ds : List D} {y : D} : oCnt (.list ds) y = if (cEq y && cEq (.list ds)) = true then .ret (.int ((ds.countP fun z => PyData.eqv z y : Nat) : Int)) else .bad := rfl
end Wb
set_option Elab.async false
set_option linter.all false
set_option maxRecDepth 100000
set_option maxHeartbeats 4000000
/-! Wb, part 27: a list of one's own out of two lists; dicts of the module, texts to numbers. -/
namespace Wb
open PySem PySem.Spec PyProof.Rows L2
def oCatL (x y : D) : T (List D) := match x with
  | .list xs => match y with
    | .list ys => if xs.length + ys.length ≤ 1000000 then .ret (xs ++ ys) else .bad
    | _ => .bad
  | _ => .bad
def lAdd (f h : Env' → T D) : Env' → T (List D) := fun ρ => (f ρ).bind fun x => (h ρ).bind fun y => oCatL x y
@[simp] theorem oCatL_list {xs ys : List D} : oCatL (.list xs) (.list ys) = if xs.length + ys.length ≤ 1000000 then .ret (xs ++ ys) else .bad := rfl
@[simp] theorem ev_lAdd {f h : Env' → T D} {ρ : Env'} : lAdd f h ρ = (f ρ).bind fun x => (h ρ).bind fun y => oCatL x y := rfl
/-! ### a dict of the module -/
def EntI : List DictEntry → List (Str × Int) → Prop
  | [], [] => True
  | e :: r, p :: s => (∃ t, e.key = .str p.1 t) ∧ (∃ t, e.val = .int p.2 t) ∧ EntI r s
  | _, _ => False
structure KdI (K : PySem.W.Frag) (w : World) (d : Addr) (kvs : List (Str × Int)) : Prop where
  ex : ∃ es n, K.lookup d = some ⟨.type "dict", none, .dict es n, #[]⟩ ∧ PySem.W.KeysLit w.params es.toList ∧ EntI es.toList kvs
  low : (d == sysModules) = false
theorem EntI.find (z : Str) : ∀ {es : List DictEntry} {kvs : List (Str × Int)}, EntI es kvs →
    (match es.find? (·.key.isStr z) with
      | some e => (some (some e.val) : Option (Option Value))
      | none => if es.any (·.refKey) then none else some none) = (match kvs.lookup z with
      | some i => (match es.find? (·.key.isStr z) with | some e => some (some e.val) | none => none)
      | none => some none) ∧ (∀ i, kvs.lookup z = some i → ∃ e t, es.find? (·.key.isStr z) = some e ∧ e.val = .int i t) ∧ es.any (·.refKey) = false
  | [], [], _ => ⟨rfl, (fun _ h => by cases h), rfl⟩
  | e :: r, p :: s, ⟨⟨t, h1⟩, ⟨u, h2⟩, h3⟩ => by
    obtain ⟨i1, i2, i3⟩ := EntI.find z h3
    have ek : e.key.isStr z = (z == p.1) := by
      rw [h1]
      show (p.1 == z) = (z == p.1)
      exact Bool.eq_iff_iff.mpr ⟨fun q => by rw [beq_iff_eq] at q ⊢; exact q.symm, fun q => by rw [beq_iff_eq] at q ⊢; exact q.symm⟩
    have rk : e.refKey = false := by
      unfold DictEntry.refKey
      rw [h1]
    have an : (e :: r).any (·.refKey) = false := by simp [rk, i3]
    cases hz : z == p.1 with
    | true =>
      have ek' : e.key.isStr z = true := ek.trans hz
      have f1 : (e :: r).find? (·.key.isStr z) = some e := by simp [List.find?, ek']
      have f2 : (p :: s).lookup z = some p.2 := by
        obtain ⟨p1, p2⟩ := p
        simp only [List.lookup]
        simp only at hz
        rw [hz]
      refine ⟨by rw [f1, f2], fun i hi => ?_, an⟩
      rw [f2] at hi
      cases hi
      exact ⟨e, u, f1, h2⟩
    | false =>
      have ek' : e.key.isStr z = false := ek.trans hz
      have f1 : (e :: r).find? (·.key.isStr z) = r.find? (·.key.isStr z) := by simp [List.find?, ek']
      have f2 : (p :: s).lookup z = s.lookup z := by
        obtain ⟨p1, p2⟩ := p
        simp only [List.lookup]
        simp only at hz
        rw [hz]
      rw [f1, f2, an]
      rw [i3] at i1
      exact ⟨i1, i2, rfl⟩
theorem KdI.ns {K : PySem.W.Frag} {w : World} {d : Addr} {kvs : List (Str × Int)} (h : KdI K w d kvs) (z : Str) :
    (kvs.lookup z = none → PySem.W.nsIn K d z = some none) ∧ ∀ i, kvs.lookup z = some i → ∃ t, PySem.W.nsIn K d z = some (some (.int i t)) := by
  obtain ⟨es, n, h1, h2, h3⟩ := h.ex
  obtain ⟨i1, i2, i3⟩ := EntI.find z h3
  have e : PySem.W.nsIn K d z = (match es.toList.find? (·.key.isStr z) with
      | some e => some (some e.val)
      | none => if es.toList.any (·.refKey) then none else some none) := by
    unfold PySem.W.nsIn
    simp only [h1]
    cases es.toList.find? (·.key.isStr z) <;> rfl
  refine ⟨fun q => ?_, fun i q => ?_⟩
  · rw [e, i1, q]
    all_goals rfl
  · obtain ⟨en, t, f1, f2⟩ := i2 i q
    refine ⟨t, ?_⟩
    rw [e, f1]
    show some (some en.val) = _
    rw [f2]
/-- x in the dict -/
def oKIn (kvs : List (Str × Int)) : D → T D
  | .str z => .ret (.bool (kvs.lookup z).isSome)
  | _ => .bad
def oKNotIn (kvs : List (Str × Int)) : D → T D
  | .str z => .ret (.bool (!(kvs.lookup z).isSome))
  | _ => .bad
/-- d[x] -/
def oKGet (kvs : List (Str × Int)) : D → T D
  | .str z => match kvs.lookup z with
    | some i => .ret (.int i)
    | none => .bad
  | _ => .bad
section
variable {X : Cx} {g : Ct} {a b : Expr} {f h : Env' → T D} {pos p : Pos} {x : Str} {d : Addr} {kvs : List (Str × Int)}
theorem KdI.kd (h : KdI X.K X.w d kvs) : ∃ es n, L2.KDict X.K X.w d es n := by
  obtain ⟨es, n, h1, h2, h3⟩ := h.ex
  exact ⟨es, n, h1, h2, h.low⟩
theorem r_kin (D : KdI X.K X.w d kvs) (hg : Gl X x) (hm : X.mg x = some (.ref d)) (ha : PE X a (tE g f)) (hdb : (x == ("__debug__" : Str)) = false := by decide) : PE X (.Compare a [.In] [.Name x p] pos) (tE g (eUn (oKIn kvs) f)) := by
  obtain ⟨es, n, K⟩ := D.kd
  refine (pe_cmpR (op_in_kd K) ha (pe_glob (v := .ref d) hg hm rfl hdb) rfl).imp fun σ H Q ⟨β, H0, ρ, rr, q⟩ => tE_then rr q fun dd v H1 H2 st hv q1 => ?_
  cases hv with
  | str z =>
    obtain ⟨n1, n2⟩ := D.ns z
    have q1 : (T.ret (PyData.bool (kvs.lookup z).isSome)).wp (Out β H0 H Q) (g.X β H0 H σ) := q1
    cases e : kvs.lookup z with
    | none =>
      rw [e] at q1
      exact ⟨z, none, rfl, rfl, n1 e, q1 (.bl false) H1 H2 st (.bl _)⟩
    | some i =>
      rw [e] at q1
      obtain ⟨t, n3⟩ := n2 i e
      exact ⟨z, _, rfl, rfl, n3, q1 (.bl true) H1 H2 st (.bl _)⟩
  | _ => exact q1.elim
theorem r_kget (D : KdI X.K X.w d kvs) (hg : Gl X x) (hm : X.mg x = some (.ref d)) (ha : PE X a (tE g f)) (hs : PlainIx a) (hdb : (x == ("__debug__" : Str)) = false := by decide) : PE X (.Subscript (.Name x p) a pos) (tE g (eUn (oKGet kvs) f)) := by
  obtain ⟨es, n, h1, h2, h3⟩ := D.ex
  refine (pe_ix ix_kdict (pe_glob (v := .ref d) hg hm rfl hdb) ha hs).imp fun σ H Q ⟨β, H0, ρ, rr, q⟩ => tE_then rr q fun dd v H1 H2 st hv q1 => ?_
  cases hv with
  | str z =>
    have q1 : (match kvs.lookup z with | some i => T.ret (PyData.int i) | none => .bad).wp (Out β H0 H Q) (g.X β H0 H σ) := q1
    cases e : kvs.lookup z with
    | none =>
      rw [e] at q1
      exact q1.elim
    | some i =>
      rw [e] at q1
      obtain ⟨t, n3⟩ := (D.ns z).2 i e
      exact ⟨d, z, .int i, rfl, rfl, ⟨es, n, _, h1, h2, n3, ⟨_, rfl⟩⟩, q1 (.int i) H1 H2 st (.int _)⟩
  | _ => exact q1.elim
end
@[simp] theorem oKIn_str {kvs : List (Str × Int)} {z : Str} : oKIn kvs (.str z) = .ret (.bool (kvs.lookup z).isSome) := rfl
@[simp] theorem oKGet_str {kvs : List (Str × Int)} {z : Str} : oKGet kvs (.str z) = (match kvs.lookup z with | some i => .ret (.int i) | none => .bad) := rfl
end Wb
set_option Elab.async false
set_option linter.all false
set_option maxRecDepth 100000
set_option maxHeartbeats 4000000
/-! Wb, part 28: == and != with an empty tuple or list, whatever the other one holds. -/
namespace Wb
open PySem PySem.Spec PyProof.Rows L2
def oEqN (x y : D) : T D := match x, y with
  | .tuple xs, .tuple [] => .ret (.bool xs.isEmpty)
  | .list xs, .list [] => .ret (.bool xs.isEmpty)
  | x, y => oEq x y
def oNeN (x y : D) : T D := match x, y with
  | .tuple xs, .tuple [] => .ret (.bool (!xs.isEmpty))
  | .list xs, .list [] => .ret (.bool (!xs.isEmpty))
  | x, y => oNe x y
@[simp] theorem oEqN_tup {xs : List D} : oEqN (.tuple xs) (.tuple []) = .ret (.bool xs.isEmpty) := rfl
@[simp] theorem oEqN_lst {xs : List D} : oEqN (.list xs) (.list []) = .ret (.bool xs.isEmpty) := rfl
@[simp] theorem oNeN_tup {xs : List D} : oNeN (.tuple xs) (.tuple []) = .ret (.bool (!xs.isEmpty)) := rfl
@[simp] theorem oNeN_lst {xs : List D} : oNeN (.list xs) (.list []) = .ret (.bool (!xs.isEmpty)) := rfl
end Wb
set_option Elab.async false
set_option linter.all false
set_option maxRecDepth 100000
set_option maxHeartbeats 4000000
/-! Wb, part 29: a tuple many times, also the empty one and not at all. -/
namespace Wb
open PySem PySem.Spec PyProof.Rows L2
def oMulE : D → D → T D
  | .tuple xs, .int k => if xs = [] ∨ k = 1 then (if -(2 ^ 63) ≤ k ∧ k < 2 ^ 63 then .ret (.tuple xs) else .bad)
    else if k ≤ 0 then (if -(2 ^ 63) ≤ k then .ret (.tuple []) else .bad) else oMul (.tuple xs) (.int k)
  | x, y => oMul x y
@[simp] theorem oMulE_int {i j : Int} : oMulE (.int i) (.int j) = oMul (.int i) (.int j) := rfl
@[simp] theorem oMulE_lst {xs : List D} {y : D} : oMulE (.list xs) y = oMul (.list xs) y := rfl
end Wb
set_option Elab.async false
set_option linter.all false
set_option maxRecDepth 100000
set_option maxHeartbeats 4000000
/-! Wb, part 30: data by depth and bulk, dicts too: what bending does. -/
namespace Wb
open PySem PySem.Spec PyProof.Rows L2
/-- all is short, of depth k and bulk b at most -/
structure Ti (k b : Nat) (d : D) : Prop where
  tid : tid d = true
  dep : d.depth ≤ k
  blk : d.bulk ≤ b
structure TiL (k b : Nat) (xs : List D) : Prop where
  tid : xs.all Wb.tid = true
  dep : PyData.depthAll xs ≤ k
  blk : PyData.bulkAll xs ≤ b
theorem Ti.mono {k b k' b' : Nat} {d : D} (h : Ti k b d) (hk : k ≤ k') (hb : b ≤ b') : Ti k' b' d := ⟨h.tid, Nat.le_trans h.dep hk, Nat.le_trans h.blk hb⟩
theorem TiL.mono {k b k' b' : Nat} {d : List D} (h : TiL k b d) (hk : k ≤ k') (hb : b ≤ b') : TiL k' b' d := ⟨h.tid, Nat.le_trans h.dep hk, Nat.le_trans h.blk hb⟩
def tiB (k b : Nat) (d : D) : Bool := tid d && decide (d.depth ≤ k) && decide (d.bulk ≤ b)
theorem ti_by {k b : Nat} {d : D} (h : tiB k b d = true) : Ti k b d := by
  unfold tiB at h
  simp only [Bool.and_eq_true, decide_eq_true_eq] at h
  exact ⟨h.1.1, h.1.2, h.2⟩
theorem ti_int {i : Int} (h : i.natAbs < 10 ^ 50) : Ti 0 0 (.int i) := ⟨tid_int h, Nat.le_refl _, Nat.le_refl _⟩
theorem Ti.rep {k b : Nat} {d : D} (h : Ti k b d) (hk : k ≤ 60) (hb : b ≤ 100000) : okRep d = true := okRep_of h.tid (Nat.le_trans h.blk hb) (Nat.le_trans h.dep hk)
theorem ti_tuple {k b : Nat} {xs : List D} (h : TiL k b xs) : Ti (k + 1) b (.tuple xs) := ⟨by rw [tid_tuple]; exact h.tid, by have := h.dep; simp only [PyData.depth]; omega, by simp only [PyData.bulk]; exact h.blk⟩
theorem ti_list {k b : Nat} {xs : List D} (h : TiL k b xs) : Ti (k + 1) b (.list xs) := ⟨by rw [tid_list]; exact h.tid, by have := h.dep; simp only [PyData.depth]; omega, by simp only [PyData.bulk]; exact h.blk⟩
theorem tiL_nil {k b : Nat} : TiL k b [] := ⟨rfl, by simp [PyData.depthAll], by simp [PyData.bulkAll]⟩
theorem TiL.cons {k b k' b' : Nat} {x : D} {xs : List D} (h : Ti k b x) (r : TiL k' b' xs) : TiL (max k k') (b + 1 + b') (x :: xs) := by
  obtain ⟨h1, h2, h3⟩ := h
  obtain ⟨r1, r2, r3⟩ := r
  refine ⟨by simp [h1, r1], ?_, ?_⟩
  · simp only [PyData.depthAll]
    omega
  · simp only [PyData.bulkAll]
    omega
theorem TiL.head {k b : Nat} {x : D} {xs : List D} (h : TiL k b (x :: xs)) : Ti k b x ∧ TiL k b xs ∧ x.bulk + 1 + PyData.bulkAll xs ≤ b := by
  obtain ⟨h1, h2, h3⟩ := h
  simp only [List.all_cons, Bool.and_eq_true] at h1
  simp only [PyData.depthAll] at h2
  simp only [PyData.bulkAll] at h3
  exact ⟨⟨h1.1, by omega, by omega⟩, ⟨h1.2, by omega, by omega⟩, h3⟩
theorem TiL.one {k b : Nat} {x : D} (h : Ti k b x) : TiL k (b + 1) [x] := (TiL.cons h (tiL_nil (k := 0) (b := 0))).mono (by omega) (by omega)
theorem bulkAll_append : ∀ xs ys : List D, PyData.bulkAll (xs ++ ys) = PyData.bulkAll xs + PyData.bulkAll ys
  | [], ys => by simp [PyData.bulkAll]
  | x :: r, ys => by
    simp only [List.cons_append, PyData.bulkAll, bulkAll_append r ys]
    omega
theorem depthAll_append : ∀ xs ys : List D, PyData.depthAll (xs ++ ys) = max (PyData.depthAll xs) (PyData.depthAll ys)
  | [], ys => by simp [PyData.depthAll]
  | x :: r, ys => by
    simp only [List.cons_append, PyData.depthAll, depthAll_append r ys]
    omega
theorem TiL.of_app {k b : Nat} {xs ys : List D} (h : TiL k b (xs ++ ys)) : TiL k b xs ∧ TiL k b ys ∧ PyData.bulkAll xs + PyData.bulkAll ys ≤ b := by
  obtain ⟨h1, h2, h3⟩ := h
  rw [List.all_append, Bool.and_eq_true] at h1
  rw [depthAll_append] at h2
  rw [bulkAll_append] at h3
  exact ⟨⟨h1.1, by omega, by omega⟩, ⟨h1.2, by omega, by omega⟩, h3⟩
theorem TiL.take {k b : Nat} {xs : List D} (n : Nat) (h : TiL k b xs) : TiL k b (xs.take n) := by
  have e := List.take_append_drop n xs
  rw [← e] at h
  exact h.of_app.1
theorem TiL.drop {k b : Nat} {xs : List D} (n : Nat) (h : TiL k b xs) : TiL k b (xs.drop n) := by
  have e := List.take_append_drop n xs
  rw [← e] at h
  exact h.of_app.2.1
theorem TiL.cut {k b : Nat} {xs : List D} {lo hi : Option Int} (h : TiL k b xs) : TiL k b (cutD xs lo hi) := by
  unfold cutD
  exact (h.drop _).take _
theorem TiL.len {k b : Nat} : ∀ {xs : List D}, TiL k b xs → xs.length ≤ b
  | [], _ => Nat.zero_le _
  | x :: r, h => by
    obtain ⟨_, h2, h3⟩ := h.head
    have : TiL k (PyData.bulkAll r) r := ⟨h2.tid, h2.dep, Nat.le_refl _⟩
    have := this.len
    simp only [List.length_cons]
    omega
/-- an item and what stands around it -/
theorem TiL.split {k b : Nat} {xs : List D} (h : TiL k b xs) {j : Nat} (hj : j < xs.length) : ∃ b1 b2 b3, TiL k b1 (xs.take j) ∧ Ti k b2 xs[j] ∧ TiL k b3 (xs.drop (j + 1)) ∧ b1 + b2 + 1 + b3 ≤ b := by
  have e : xs = xs.take j ++ xs[j] :: xs.drop (j + 1) := by
    rw [← List.drop_eq_getElem_cons hj, List.take_append_drop]
  rw [e] at h
  obtain ⟨h1, h2, h3⟩ := h.of_app
  obtain ⟨h4, h5, h6⟩ := h2.head
  simp only [PyData.bulkAll] at h3
  exact ⟨_, _, _, ⟨h1.tid, h1.dep, Nat.le_refl _⟩, ⟨h4.tid, h4.dep, Nat.le_refl _⟩, ⟨h5.tid, h5.dep, Nat.le_refl _⟩, by omega⟩
theorem TiL.ints {ns : List Int} (h : ∀ n ∈ ns, n.natAbs < 10 ^ 50) : TiL 0 ns.length (ns.map PyData.int) := by
  induction ns with
  | nil => exact tiL_nil
  | cons n r ih =>
    have h1 := ti_int (h n (List.mem_cons_self ..))
    have h2 := ih fun m hm => h m (List.mem_cons_of_mem _ hm)
    exact (TiL.cons h1 h2).mono (by omega) (by simp only [List.length_cons]; omega)
theorem cutD_suf {xs : List D} {j : Nat} (h : j ≤ xs.length) : cutD xs (some (j : Nat)) none = xs.drop j := by
  unfold cutD
  have e : HT.sIx xs.length 0 (some ((j : Nat) : Int)) = j := by
    simp only [HT.sIx]
    rw [if_neg (by omega)]
    omega
  have e0 : HT.sIx xs.length xs.length none = xs.length := rfl
  rw [e, e0]
  exact List.take_of_length_le (by simp)
@[simp] theorem oTruth_tup {xs : List D} : oTruth (.tuple xs) = .ret (.bool (!xs.isEmpty)) := rfl
@[simp] theorem oTruth_lst {xs : List D} : oTruth (.list xs) = .ret (.bool (!xs.isEmpty)) := rfl
@[simp] theorem oTruth_none : oTruth .none = .ret (.bool false) := rfl
@[simp] theorem oTruth_bool {b : Bool} : oTruth (.bool b) = .ret (.bool b) := rfl
@[simp] theorem oTruth_int {i : Int} : oTruth (.int i) = .ret (.bool (i != 0)) := rfl
@[simp] theorem isaX_tuple_none  : isaD "tuple" (.none) = false := rfl
@[simp] theorem isaX_tuple_bool {b : Bool} : isaD "tuple" (.bool b) = false := rfl
@[simp] theorem isaX_tuple_int {i : Int} : isaD "tuple" (.int i) = false := rfl
@[simp] theorem isaX_tuple_str {z : Str} : isaD "tuple" (.str z) = false := rfl
@[simp] theorem isaX_tuple_list {xs : List D} : isaD "tuple" (.list xs) = false := rfl
@[simp] theorem isaX_tuple_tuple {xs : List D} : isaD "tuple" (.tuple xs) = true := rfl
@[simp] theorem isaX_tuple_dict {kvs : List (D × D)} : isaD "tuple" (.dict kvs) = false := rfl
@[simp] theorem isaX_str_none  : isaD "str" (.none) = false := rfl
@[simp] theorem isaX_str_bool {b : Bool} : isaD "str" (.bool b) = false := rfl
@[simp] theorem isaX_str_int {i : Int} : isaD "str" (.int i) = false := rfl
@[simp] theorem isaX_str_str {z : Str} : isaD "str" (.str z) = true := rfl
@[simp] theorem isaX_str_list {xs : List D} : isaD "str" (.list xs) = false := rfl
@[simp] theorem isaX_str_tuple {xs : List D} : isaD "str" (.tuple xs) = false := rfl
@[simp] theorem isaX_str_dict {kvs : List (D × D)} : isaD "str" (.dict kvs) = false := rfl
@[simp] theorem isaX_int_none  : isaD "int" (.none) = false := rfl
@[simp] theorem isaX_int_bool {b : Bool} : isaD "int" (.bool b) = true := rfl
@[simp] theorem isaX_int_int {i : Int} : isaD "int" (.int i) = true := rfl
@[simp] theorem isaX_int_str {z : Str} : isaD "int" (.str z) = false := rfl
@[simp] theorem isaX_int_list {xs : List D} : isaD "int" (.list xs) = false := rfl
@[simp] theorem isaX_int_tuple {xs : List D} : isaD "int" (.tuple xs) = false := rfl
@[simp] theorem isaX_int_dict {kvs : List (D × D)} : isaD "int" (.dict kvs) = false := rfl
@[simp] theorem isaX_bool_none  : isaD "bool" (.none) = false := rfl
@[simp] theorem isaX_bool_bool {b : Bool} : isaD "bool" (.bool b) = true := rfl
@[simp] theorem isaX_bool_int {i : Int} : isaD "bool" (.int i) = false := rfl
@[simp] theorem isaX_bool_str {z : Str} : isaD "bool" (.str z) = false := rfl
@[simp] theorem isaX_bool_list {xs : List D} : isaD "bool" (.list xs) = false := rfl
@[simp] theorem isaX_bool_tuple {xs : List D} : isaD "bool" (.tuple xs) = false := rfl
@[simp] theorem isaX_bool_dict {kvs : List (D × D)} : isaD "bool" (.dict kvs) = false := rfl
@[simp] theorem isaX_list_none  : isaD "list" (.none) = false := rfl
@[simp] theorem isaX_list_bool {b : Bool} : isaD "list" (.bool b) = false := rfl
@[simp] theorem isaX_list_int {i : Int} : isaD "list" (.int i) = false := rfl
@[simp] theorem isaX_list_str {z : Str} : isaD "list" (.str z) = false := rfl
@[simp] theorem isaX_list_list {xs : List D} : isaD "list" (.list xs) = true := rfl
@[simp] theorem isaX_list_tuple {xs : List D} : isaD "list" (.tuple xs) = false := rfl
@[simp] theorem isaX_list_dict {kvs : List (D × D)} : isaD "list" (.dict kvs) = false := rfl
@[simp] theorem isaX_dict_none  : isaD "dict" (.none) = false := rfl
@[simp] theorem isaX_dict_bool {b : Bool} : isaD "dict" (.bool b) = false := rfl
@[simp] theorem isaX_dict_int {i : Int} : isaD "dict" (.int i) = false := rfl
@[simp] theorem isaX_dict_str {z : Str} : isaD "dict" (.str z) = false := rfl
@[simp] theorem isaX_dict_list {xs : List D} : isaD "dict" (.list xs) = false := rfl
@[simp] theorem isaX_dict_tuple {xs : List D} : isaD "dict" (.tuple xs) = false := rfl
@[simp] theorem isaX_dict_dict {kvs : List (D × D)} : isaD "dict" (.dict kvs) = true := rfl
@[simp] theorem ev_Unp {bd : D → Env' → Option Env'} {f : Env' → T D} {ρ : Env'} : sUnp bd f ρ = (f ρ).lift ρ fun d => match bd d ρ with
  | some ρ' => .ret (.nx ρ')
  | none => .bad := rfl
@[simp] theorem isN_none  : oIsN (.none) .none = .ret (.bool true) := rfl
@[simp] theorem notN_none  : oNotN (.none) .none = .ret (.bool false) := rfl
@[simp] theorem isN_bool {b : Bool} : oIsN (.bool b) .none = .ret (.bool false) := rfl
@[simp] theorem notN_bool {b : Bool} : oNotN (.bool b) .none = .ret (.bool true) := rfl
@[simp] theorem isN_int {i : Int} : oIsN (.int i) .none = .ret (.bool false) := rfl
@[simp] theorem notN_int {i : Int} : oNotN (.int i) .none = .ret (.bool true) := rfl
@[simp] theorem isN_str {z : Str} : oIsN (.str z) .none = .ret (.bool false) := rfl
@[simp] theorem notN_str {z : Str} : oNotN (.str z) .none = .ret (.bool true) := rfl
@[simp] theorem isN_list {xs : List D} : oIsN (.list xs) .none = .ret (.bool false) := rfl
@[simp] theorem notN_list {xs : List D} : oNotN (.list xs) .none = .ret (.bool true) := rfl
@[simp] theorem isN_tuple {xs : List D} : oIsN (.tuple xs) .none = .ret (.bool false) := rfl
@[simp] theorem notN_tuple {xs : List D} : oNotN (.tuple xs) .none = .ret (.bool true) := rfl
@[simp] theorem isN_dict {kvs : List (D × D)} : oIsN (.dict kvs) .none = .ret (.bool false) := rfl
@[simp] theorem notN_dict {kvs : List (D × D)} : oNotN (.dict kvs) .none = .ret (.bool true) := rfl
theorem rangeD_succ (i n : Nat) : rangeD (i : Nat) (n + 1) = .int (i : Nat) :: rangeD ((i + 1 : Nat) : Int) n := by
  simp [rangeD, List.range_succ_eq_map]
  intro a _
  omega
end Wb
set_option Elab.async false
set_option linter.all false
set_option maxRecDepth 100000
set_option maxHeartbeats 4000000
/-! Wb, part 31: reckoning with lists of one's own. -/
namespace Wb
open PySem PySem.Spec PyProof.Rows L2
section
variable {i : Nat} {f : Env' → T D} {F : Env' → T Fl} {ρ : Env'} {fs : Env' → T (List Ar)} {gs : Env' → T (List D)}
@[simp] theorem ev_Own : sOwn i gs ρ = (gs ρ).lift ρ fun ds => .ret (.nx (ρ.set i (.own ds))) := rfl
def mkOwn : Option (List D) → T (List D)
  | some ds => if ds.length ≤ 1000000 then .ret ds else .bad
  | none => .bad
@[simp] theorem mkOwn_s {ds : List D} : mkOwn (some ds) = if ds.length ≤ 1000000 then .ret ds else .bad := rfl
@[simp] theorem ev_lLst : lLst fs ρ = (fs ρ).bind fun as => mkOwn (dsOf as) := by
  unfold lLst
  congr 1
def frK (i : Nat) (F : Env' → T Fl) (ρ : Env') : Option Sl → T Fl
  | some (.own xs) => F (ρ.set i (.d (.list xs)))
  | _ => F ρ
@[simp] theorem frK_own {xs : List D} : frK i F ρ (some (.own xs)) = F (ρ.set i (.d (.list xs))) := rfl
@[simp] theorem frK_d {x : D} : frK i F ρ (some (.d x)) = F ρ := rfl
@[simp] theorem ev_Frz : sFrz i F ρ = frK i F ρ ρ[i]? := by
  unfold sFrz frK
  rfl
def apK (i : Nat) (f : Env' → T D) (ρ : Env') : Option Sl → T Fl
  | some (.own xs) => (f ρ).lift ρ fun d => if xs.length < 1000000 then .ret (.nx (ρ.set i (.own (xs ++ [d])))) else .bad
  | _ => .bad
@[simp] theorem apK_own {xs : List D} : apK i f ρ (some (.own xs)) = (f ρ).lift ρ fun d => if xs.length < 1000000 then .ret (.nx (ρ.set i (.own (xs ++ [d])))) else .bad := rfl
@[simp] theorem ev_App : sApp i f ρ = apK i f ρ ρ[i]? := by
  unfold sApp apK
  rfl
def exL (i : Nat) (ρ : Env') (xs : List D) : D → T Fl
  | .list ys => if xs.length + ys.length ≤ 1000000 then .ret (.nx (ρ.set i (.own (xs ++ ys)))) else .bad
  | _ => .bad
@[simp] theorem exL_list {xs ys : List D} : exL i ρ xs (.list ys) = if xs.length + ys.length ≤ 1000000 then .ret (.nx (ρ.set i (.own (xs ++ ys)))) else .bad := rfl
def exK (i : Nat) (f : Env' → T D) (ρ : Env') : Option Sl → T Fl
  | some (.own xs) => (f ρ).lift ρ (exL i ρ xs)
  | _ => .bad
@[simp] theorem exK_own {xs : List D} : exK i f ρ (some (.own xs)) = (f ρ).lift ρ (exL i ρ xs) := rfl
@[simp] theorem ev_Ext : sExt i f ρ = exK i f ρ ρ[i]? := by
  unfold sExt exK
  cases ρ[i]? with
  | none => rfl
  | some s => cases s <;> rfl
end
end Wb
set_option Elab.async false
set_option linter.all false
set_option maxRecDepth 100000
set_option maxHeartbeats 4000000
/-! Wb, part 32: zip over three things, each a list or a tuple. -/
namespace Wb
open PySem PySem.Spec PyProof.Rows L2 RZ
def zip3D : List D → List D → List D → List D
  | x :: xs, y :: ys, z :: zs => .tuple [x, y, z] :: zip3D xs ys zs
  | _, _, _ => []
def oZip3 : List Ar → T (List D)
  | [.d x, .d y, .d z] => match seqD x, seqD y, seqD z with
    | some (_, xs), some (_, ys), some (_, zs) => .ret (zip3D xs ys zs)
    | _, _, _ => .bad
  | _ => .bad
@[simp] theorem ev_zip3TTT {xs ys zs : List D} : oZip3 [.d (.tuple xs), .d (.tuple ys), .d (.tuple zs)] = .ret (zip3D xs ys zs) := rfl
@[simp] theorem ev_zip3LTL {xs ys zs : List D} : oZip3 [.d (.list xs), .d (.tuple ys), .d (.list zs)] = .ret (zip3D xs ys zs) := rfl
@[simp] theorem ev_zip3TTL {xs ys zs : List D} : oZip3 [.d (.tuple xs), .d (.tuple ys), .d (.list zs)] = .ret (zip3D xs ys zs) := rfl
@[simp] theorem ev_zip3LTT {xs ys zs : List D} : oZip3 [.d (.list xs), .d (.tuple ys), .d (.tuple zs)] = .ret (zip3D xs ys zs) := rfl
end Wb
set_option Elab.async false
set_option linter.all false
set_option maxRecDepth 100000
set_option maxHeartbeats 4000000
/-! Wb, part 33: xs[i] = v of a list of one's own; min and max of two numbers; range as a list. -/
namespace Wb
open PySem PySem.Spec PyProof.Rows L2
def putI (k : Nat) (ρ : Env') (xs : List D) (d : D) : D → T Fl
  | .int z => match ixN xs.length z with
    | some j => .ret (.nx (ρ.set k (.own (xs.set j d))))
    | none => .bad
  | _ => .bad
def putK (k : Nat) (fi fv : Env' → T D) (ρ : Env') : Option Sl → T Fl
  | some (.own xs) => (fv ρ).lift ρ fun d => (fi ρ).lift ρ (putI k ρ xs d)
  | _ => .bad
def sPut (k : Nat) (fi fv : Env' → T D) : Env' → T Fl := fun ρ => putK k fi fv ρ ρ[k]?
@[simp] theorem ev_Put {k : Nat} {fi fv : Env' → T D} {ρ : Env'} : sPut k fi fv ρ = putK k fi fv ρ ρ[k]? := rfl
@[simp] theorem putK_own {k : Nat} {fi fv : Env' → T D} {ρ : Env'} {xs : List D} : putK k fi fv ρ (some (.own xs)) = (fv ρ).lift ρ fun d => (fi ρ).lift ρ (putI k ρ xs d) := rfl
/-! ### min, max -/
def oMax2 : List Ar → T D
  | [.d (.int i), .d (.int j)] => .ret (.int (if j > i then j else i))
  | _ => .bad
def oMin2 : List Ar → T D
  | [.d (.int i), .d (.int j)] => .ret (.int (if j < i then j else i))
  | _ => .bad
@[simp] theorem oMax2_i {i j : Int} : oMax2 [.d (.int i), .d (.int j)] = .ret (.int (if j > i then j else i)) := rfl
@[simp] theorem oMin2_i {i j : Int} : oMin2 [.d (.int i), .d (.int j)] = .ret (.int (if j < i then j else i)) := rfl
@[simp] theorem ev_Drop {f : Env' → T D} {ρ : Env'} : sDrop f ρ = (f ρ).lift ρ fun _ => .ret (.nx ρ) := rfl
end Wb
set_option Elab.async false
set_option linter.all false
set_option maxRecDepth 100000
set_option maxHeartbeats 4000000
/-! Wb, part 34: what a list of one's own holds is read. -/
namespace Wb
open PySem PySem.Spec PyProof.Rows L2
def oixI (xs : List D) : D → T D
  | .int z => match atI xs z with
    | some d => .ret d
    | none => .bad
  | _ => .bad
def oixK (fi : Env' → T D) (ρ : Env') : Option Sl → T D
  | some (.own xs) => (fi ρ).bind (oixI xs)
  | _ => .bad
/-- xs[i] -/
def eOIx (k : Nat) (fi : Env' → T D) : Env' → T D := fun ρ => oixK fi ρ ρ[k]?
@[simp] theorem ev_OIx {k : Nat} {fi : Env' → T D} {ρ : Env'} : eOIx k fi ρ = oixK fi ρ ρ[k]? := rfl
@[simp] theorem oixK_own {fi : Env' → T D} {ρ : Env'} {xs : List D} : oixK fi ρ (some (.own xs)) = (fi ρ).bind (oixI xs) := rfl
def olenK : Option Sl → T D
  | some (.own xs) => .ret (.int xs.length)
  | _ => .bad
/-- len(xs) -/
def eOLen (k : Nat) : Env' → T D := fun ρ => olenK ρ[k]?
@[simp] theorem ev_OLen {k : Nat} {ρ : Env'} : eOLen k ρ = olenK ρ[k]? := rfl
@[simp] theorem olenK_own {xs : List D} : olenK (some (.own xs)) = .ret (.int xs.length) := rfl
theorem own_rel {cad : Cad} {β : Box} {ξ : Xi} {H0 H : Hp} {ρ : Env'} {σ : L2.St} (r : Rel cad β ξ H0 ρ σ H) {i : Nat} {xs : List D} (hi : ρ[i]? = some (.own xs)) :
    ∃ p vs, σ[i]? = some (some (.ref p)) ∧ H p = some (.lst vs) ∧ HasL H0 vs xs := by
  have hl : i < σ.length := by
    rw [← r.len]
    exact (List.getElem?_eq_some_iff.mp hi).1
  obtain ⟨p, vs, e1, e2, e3, _⟩ := r.sl i _ _ hi (List.getElem?_eq_getElem hl)
  exact ⟨p, vs, by rw [List.getElem?_eq_getElem hl, e1], e2, e3⟩
end Wb
set_option Elab.async false
set_option linter.all false
set_option maxRecDepth 100000
set_option maxHeartbeats 4000000
/-! Wb, part 35: flows as data. -/
namespace Wb
open PySem PySem.Spec PyProof.Rows L2
abbrev Rd := Nat × List Int
abbrev Ru := Str × List Rd
def readD (r : Rd) : D := .tuple [.int (r.1 : Nat), vecD r.2]
def ruleD (r : Ru) : D := .tuple (.str r.1 :: r.2.map readD)
def rulesD (rs : List Ru) : D := .tuple (rs.map ruleD)
def flowD (n : Nat) (rs : List Ru) : D := .tuple [.int (n : Nat), rulesD rs]
theorem flow_0 (n : Nat) (rs : List Ru) : oIx (flowD n rs) (.int 0) = .ret (.int (n : Nat)) := ixT_at (j := 0) rfl
theorem flow_1 (n : Nat) (rs : List Ru) : oIx (flowD n rs) (.int 1) = .ret (rulesD rs) := ixT_at (j := 1) rfl
theorem rule_at {r : Ru} {k : Nat} {x : Rd} (h : r.2[k]? = some x) : oIx (ruleD r) (.int ((k : Int) + 1)) = .ret (readD x) := by
  have e : ((k : Int) + 1) = ((k + 1 : Nat) : Int) := by simp
  rw [e]
  exact ixT_at (by rw [List.getElem?_cons_succ, List.getElem?_map, h]; rfl)
theorem ti_allL {k b : Nat} : ∀ {xs : List D}, (∀ x ∈ xs, Ti k b x) → TiL k ((b + 1) * xs.length) xs
  | [], _ => tiL_nil
  | x :: r, h => by
    have h1 := h x (List.mem_cons_self ..)
    have h2 := ti_allL fun y hy => h y (List.mem_cons_of_mem _ hy)
    refine (TiL.cons h1 h2).mono (by omega) ?_
    rw [List.length_cons, Nat.mul_add, Nat.mul_one]
    omega
/-! ### reads told by plane and operand -/
end Wb
set_option Elab.async false
set_option linter.all false
set_option maxRecDepth 100000
set_option maxHeartbeats 4000000
/-! Wb, part 36: a truth value and a number, added. -/
namespace Wb
open PySem PySem.Spec PyProof.Rows L2
def oAddB : D → D → T D
  | .bool b, .int j => .ret (.int ((if b = true then (1 : Int) else 0) + j))
  | x, y => oAdd x y
@[simp] theorem oAddB_bi {b : Bool} {j : Int} : oAddB (.bool b) (.int j) = .ret (.int ((if b = true then (1 : Int) else 0) + j)) := rfl
@[simp] theorem oAddB_i {i : Int} {y : D} : oAddB (.int i) y = oAdd (.int i) y := rfl
@[simp] theorem oAddB_t {xs : List D} {y : D} : oAddB (.tuple xs) y = oAdd (.tuple xs) y := rfl
@[simp] theorem oAddB_l {xs : List D} {y : D} : oAddB (.list xs) y = oAdd (.list xs) y := rfl
@[simp] theorem oAddB_s {z : Str} {y : D} : oAddB (.str z) y = oAdd (.str z) y := rfl
end Wb
set_option Elab.async false
set_option linter.all false
set_option maxRecDepth 100000
set_option maxHeartbeats 4000000
/-! Wb, part 37: how great the numbers within data are. -/
namespace Wb
open PySem PySem.Spec PyProof.Rows L2
end Wb
set_option Elab.async false
set_option linter.all false
set_option maxRecDepth 100000
set_option maxHeartbeats 4000000
/-! Wb, part 38: the greatest and the least of a list of ints; where an item stands. -/
namespace Wb
open PySem PySem.Spec PyProof.Rows L2
def mxZ : Int → List Int → Int
  | a, [] => a
  | a, b :: r => mxZ (if b > a then b else a) r
def mnZ : Int → List Int → Int
  | a, [] => a
  | a, b :: r => mnZ (if b < a then b else a) r
def oMaxL : D → T D
  | .list xs => match intsOf xs with
    | some (n :: ns) => .ret (.int (mxZ n ns))
    | _ => .bad
  | _ => .bad
def oMinL : D → T D
  | .list xs => match intsOf xs with
    | some (n :: ns) => .ret (.int (mnZ n ns))
    | _ => .bad
  | _ => .bad
@[simp] theorem oMaxL_ints {n : Int} {ns : List Int} : oMaxL (.list (.int n :: ns.map PyData.int)) = .ret (.int (mxZ n ns)) := by
  have e : PyData.int n :: ns.map PyData.int = (n :: ns).map PyData.int := rfl
  rw [e]
  unfold oMaxL
  simp only [intsOf_map]
@[simp] theorem oMinL_ints {n : Int} {ns : List Int} : oMinL (.list (.int n :: ns.map PyData.int)) = .ret (.int (mnZ n ns)) := by
  have e : PyData.int n :: ns.map PyData.int = (n :: ns).map PyData.int := rfl
  rw [e]
  unfold oMinL
  simp only [intsOf_map]
/-! ### xs.index(d) -/
def oIdx (x y : D) : T D := match x with
  | .list ds => if (cEq y && cEq (.list ds)) = true then (match ds.findIdx? fun z => PyData.eqv z y with
    | some j => .ret (.int (j : Nat))
    | none => .bad) else .bad
  | _ => .bad
def kIdx (h : Env' → T D) (ρ : Env') : D → T D
  | .list ds => (h ρ).bind fun y => oIdx (.list ds) y
  | _ => .bad
def eIdx (f h : Env' → T D) : Env' → T D := fun ρ => (f ρ).bind fun x => kIdx h ρ x
@[simp] theorem ev_idx {f h : Env' → T D} {ρ : Env'} : eIdx f h ρ = (f ρ).bind fun x => kIdx h ρ x := rfl
@[simp] theorem kIdx_list {h : Env' → T D} {ρ : Env'} {ds : List D} : kIdx h ρ (.list ds) = (h ρ).bind fun y => oIdx (.list ds) y := rfl
/-! ### a, b = (e, [..]), b a list of one's own -/
def sParOwn (i j : Nat) (f : Env' → T D) (l : Env' → T (List D)) : Env' → T Fl := fun ρ => (f ρ).lift ρ fun d => (l ρ).lift ρ fun ds => .ret (.nx ((ρ.set i (.d d)).set j (.own ds)))
@[simp] theorem ev_ParOwn {i j : Nat} {f : Env' → T D} {l : Env' → T (List D)} {ρ : Env'} : sParOwn i j f l ρ = (f ρ).lift ρ fun d => (l ρ).lift ρ fun ds => .ret (.nx ((ρ.set i (.d d)).set j (.own ds))) := rfl
end Wb
set_option Elab.async false
set_option linter.all false
set_option maxRecDepth 100000
set_option maxHeartbeats 4000000
/-! Wb, part 39: targets within targets. -/
namespace Wb
open PySem PySem.Spec PyProof.Rows L2 RZ
mutual
inductive Tgt where
  | nm (i : Nat)
  | tp (l : Tgts)
inductive Tgts where
  | nil
  | cons (t : Tgt) (l : Tgts)
end
mutual
def bT : Tgt → D → Env' → Option Env'
  | .nm i, d, ρ => some (ρ.set i (.d d))
  | .tp l, d, ρ => match d with
    | .tuple ds => bTs l ds ρ
    | _ => none
def bTs : Tgts → List D → Env' → Option Env'
  | .nil, [], ρ => some ρ
  | .cons t l, d :: ds, ρ => match bT t d ρ with
    | some ρ' => bTs l ds ρ'
    | none => none
  | .nil, _ :: _, _ => none
  | .cons _ _, [], _ => none
end
def Tgts.len : Tgts → Nat
  | .nil => 0
  | .cons _ l => l.len + 1
@[simp] theorem bT_nm {i : Nat} {d : D} {ρ : Env'} : bT (.nm i) d ρ = some (ρ.set i (.d d)) := by simp [bT]
@[simp] theorem bT_tp {l : Tgts} {ds : List D} {ρ : Env'} : bT (.tp l) (.tuple ds) ρ = bTs l ds ρ := by simp [bT]
@[simp] theorem bTs_nil {ρ : Env'} : bTs .nil [] ρ = some ρ := by simp [bTs]
@[simp] theorem bTs_cons {t : Tgt} {l : Tgts} {d : D} {ds : List D} {ρ : Env'} : bTs (.cons t l) (d :: ds) ρ = (bT t d ρ).bind fun ρ' => bTs l ds ρ' := by
  simp only [bTs]
  cases bT t d ρ <;> rfl
end Wb
set_option Elab.async false
set_option linter.all false
set_option maxRecDepth 100000
set_option maxHeartbeats 4000000
/-! Wb, part 40: loops that many programs share: judging each item, a running sum of products. -/
namespace Wb
open PySem PySem.Spec PyProof.Rows L2
theorem bnd_go {mw : List Ar → T D} (hw : ∀ (v : D) (lo hi : Int), mw [.d v, .d (.int lo), .d (.int hi)] = .ret (.bool (inR lo hi v))) {n v : D} {m : Int} : ∀ (xs : List D) (s : Sl),
    (xs.all (inR (-m) m) = true → ∃ s', forGo (bName 3) (sIf (eUn oNot (eCall 3 mw (aCons (eV 3) (aCons (eUn oNeg (eV 2)) (aCons (eV 2) aNil))))) (sRet (eC (.bool false))) sNil) xs [.d n, .d v, .d (.int m), s] = .ret (.nx [.d n, .d v, .d (.int m), s'])) ∧
    (xs.all (inR (-m) m) = false → forGo (bName 3) (sIf (eUn oNot (eCall 3 mw (aCons (eV 3) (aCons (eUn oNeg (eV 2)) (aCons (eV 2) aNil))))) (sRet (eC (.bool false))) sNil) xs [.d n, .d v, .d (.int m), s] = .ret (.ret (.bool false)))
  | [], s => ⟨fun _ => ⟨s, rfl⟩, fun h => by cases h⟩
  | x :: r, s => by
    have ih := bnd_go hw (n := n) (v := v) (m := m) r (.d x)
    have e := hw x (-m) m
    rw [List.all_cons]
    cases hx : inR (-m) m x with
    | true =>
      rw [hx] at e
      simp only [Bool.true_and]
      refine ⟨fun h => ?_, fun h => ?_⟩
      · obtain ⟨s', h'⟩ := ih.1 h
        refine ⟨s', ?_⟩
        unfold forGo
        simp [e, h']
      · have h' := ih.2 h
        unfold forGo
        simp [e, h']
    | false =>
      rw [hx] at e
      refine ⟨fun h => (nomatch h), fun _ => ?_⟩
      unfold forGo
      simp [e]
end Wb
set_option Elab.async false
set_option linter.all false
set_option maxRecDepth 100000
set_option maxHeartbeats 4000000
/-! Wb, part 41: the least and the greatest of a list of alike data (pairs, say). -/
namespace Wb
open PySem PySem.Spec PyProof.Rows L2 RZ
end Wb
set_option Elab.async false
set_option linter.all false
set_option maxRecDepth 100000
set_option maxHeartbeats 4000000
/-! Wb, part 42: texts of reprs as items that are compared. -/
namespace Wb
open PySem PySem.Spec PyProof.Rows L2
/-- the text of this datum holds no sign beyond those that there are -/
def Low (d : D) : Prop := ∀ k : Nat, 1114112 ≤ k → k ∉ d.shown.cps.toList
theorem Low.ok {d : D} (h : Low d) : PyData.strOk d.shown = true := by
  unfold PyData.strOk
  rw [← Array.all_toList, List.all_eq_true]
  intro k hk
  rw [decide_eq_true_eq]
  exact Nat.lt_of_not_le fun z => h k z hk
end Wb
set_option Elab.async false
set_option linter.all false
set_option maxRecDepth 100000
set_option maxHeartbeats 4000000
/-! Wb, part 43: defs whose last parameter takes all that is left (`*rest`), their call. -/
namespace Wb
open PySem PySem.Spec PyProof.Rows L2 RZ
structure FnV (P : Program) (w : World) (K : PySem.W.Frag) (mg : Str → Option Value) (base : Heap) (cad : Cad) (k : Nat) (fa : Addr) (np : Nat) (m : List Ar → T D) : Prop where
  go : ∀ {X : Cx} {pins : List (Addr × Obj)} {s : Shared} {σ : L2.St} {H : Hp} {us : List Value} {vs : List V} {Q : VK} {W : WX}, X.prog = P → X.w = w → X.K = K → X.mg = mg → X.base = base → Room k X.A → X.A.guards = some [] → Takes X W → Inv X pins σ H s → Vals vs us → np ≤ vs.length → vs.length ≤ np + 6 →
    (∀ p o, H p = none → o.dict = none → spD cad (np + 1) m (vs.take np ++ [.ref p]) (upd H p (.frz o (.tup (vs.drop np)))) Q (fun c d H' => W c d σ H')) → wpAny (model X.prog X.w) X.A (call (.ref fa) us) (EP X pins σ Q) X.xe s
theorem FnV.mono {P : Program} {w : World} {K : PySem.W.Frag} {mg : Str → Option Value} {base : Heap} {cad : Cad} {j k : Nat} {fa : Addr} {np : Nat} {m : List Ar → T D} (F : FnV P w K mg base cad j fa np m) (h : j ≤ k) : FnV P w K mg base cad k fa np m :=
  ⟨fun a b c d e hr => F.go a b c d e (hr.mono h)⟩
/-! ### its call -/
def starAs (np : Nat) (as : List Ar) : Option (List Ar) := match dsOf (as.drop np) with
  | some ds => some (as.take np ++ [.d (.tuple ds)])
  | none => none
def starC (np : Nat) (m : List Ar → T D) (as : List Ar) : T D := if np ≤ as.length ∧ as.length ≤ np + 6 then (match starAs np as with
  | some bs => m bs
  | none => .bad) else .bad
def eCallV (np : Nat) (m : List Ar → T D) (fs : Env' → T (List Ar)) : Env' → T D := fun ρ => (fs ρ).bind (starC np m)
@[simp] theorem ev_callV {np : Nat} {m : List Ar → T D} {fs : Env' → T (List Ar)} {ρ : Env'} : eCallV np m fs ρ = (fs ρ).bind (starC np m) := rfl
end Wb
set_option Elab.async false
set_option linter.all false
set_option maxRecDepth 100000
set_option maxHeartbeats 4000000
/-! Wb, part 44: more lists of one's own: list(x), a slice; list(range(n)). -/
namespace Wb
open PySem PySem.Spec PyProof.Rows L2 RZ
def lOf (f : Env' → T D) : Env' → T (List D) := fun ρ => (f ρ).bind itemsD
def oSlL (x : D) (lo hi : Option Int) : T (List D) := match x with
  | .list xs => .ret (cutD xs lo hi)
  | _ => .bad
def lSl (f : Env' → T D) (l u : Env' → T (Option Int)) : Env' → T (List D) := fun ρ => (f ρ).bind fun x => (l ρ).bind fun lo => (u ρ).bind fun hi => oSlL x lo hi
@[simp] theorem oSlL_list {xs : List D} {lo hi : Option Int} : oSlL (.list xs) lo hi = .ret (cutD xs lo hi) := rfl
@[simp] theorem ev_lOf {f : Env' → T D} {ρ : Env'} : lOf f ρ = (f ρ).bind itemsD := rfl
@[simp] theorem ev_lSl {f : Env' → T D} {l u : Env' → T (Option Int)} {ρ : Env'} : lSl f l u ρ = (f ρ).bind fun x => (l ρ).bind fun lo => (u ρ).bind fun hi => oSlL x lo hi := rfl
section
variable {X : Cx} {g : Ct} {a b : Expr} {f h : Env' → T D} {pos : Pos} {st : Stmt} {β : Box} {A B C H0 H : Hp} {ρ : Env'} {σ : L2.St} {E : Ends}
/-! ### xs.insert(k, y) -/
/-! ### list(range(n)) -/
def oListRg (x : D) : T D := match x with
  | .int n => if n ≤ 1000000 ∧ -1000000 ≤ n then .ret (.list (rangeD 0 n.toNat)) else .bad
  | _ => .bad
@[simp] theorem oListRg_i {n : Int} : oListRg (.int n) = if n ≤ 1000000 ∧ -1000000 ≤ n then .ret (.list (rangeD 0 n.toNat)) else .bad := rfl
end
end Wb
set_option Elab.async false
set_option linter.all false
set_option maxRecDepth 100000
set_option maxHeartbeats 4000000
/-! Wb, part 45: sorted(set(xs)) of a list of ints. -/
namespace Wb
open PySem PySem.Spec PyProof.Rows L2 RZ
/-! ### the ints of a list, ascending, each once -/
def insU (k : Int) : List Int → List Int
  | [] => [k]
  | x :: r => if k < x then k :: x :: r else if k = x then x :: r else x :: insU k r
def sortU (ns : List Int) : List Int := ns.foldr insU []
/-! ### set(xs) -/
/-! ### sorted(set(xs)) -/
section
variable {X : Cx} {g : Ct} {a : Expr} {f : Env' → T D} {pos : Pos}
def oSortSet (x : D) : T D := match x with
  | .list ds => match intsOf ds with
    | some ns => if ns.length < 64 then .ret (.list ((sortU ns).map PyData.int)) else .bad
    | none => .bad
  | _ => .bad
@[simp] theorem oSortSet_i {ns : List Int} : oSortSet (.list (ns.map PyData.int)) = if ns.length < 64 then .ret (.list ((sortU ns).map PyData.int)) else .bad := by
  unfold oSortSet
  simp only [intsOf_map]
end
end Wb
set_option Elab.async false
set_option linter.all false
set_option maxRecDepth 100000
set_option maxHeartbeats 4000000
/-! Wb, part 46: x in xs, xs a list or a tuple of data. -/
namespace Wb
open PySem PySem.Spec PyProof.Rows L2
def rInLT (K : PySem.W.Frag) : R2 := fun x y H Q => rInD K x y H Q ∨ ∃ d ds, Dp K H x d ∧ Dp K H y (.tuple ds) ∧ SeqAt.shaped d = true ∧ SeqAt.shaped (.tuple ds) = true ∧ Q (.bl (ds.any fun z => PyData.eqv z d)) H
theorem op_inLT {X : Cx} (hu : X.A.units + 65 < cLine) : OpR X (compareOp .In) (rInLT X.K) := by
  intro pins s σ H x y v u Q I rx ry h
  rcases h with h | ⟨d, ds, hd, he, sd, se, q⟩
  · exact op_inD hu pins s σ H x y v u Q I rx ry h
  · obtain ⟨as, r1⟩ := Dp.reads I d x v hd rx
    obtain ⟨bs, r2⟩ := Dp.reads I (.tuple ds) y u he ry
    have lay : PyData.canLayAll0 ds = true := SeqAt.canLay_of_shaped (d := .tuple ds) se
    exact SeqAt.in_tuple_reads r2 r1 lay (SeqAt.canLay_of_shaped sd) (room_in_shaped sd hu) ⟨.bl _, H, I, rfl, q⟩
def oInT (x y : D) : T D := match y with
  | .tuple ds => if (cEq x && cEq (.tuple ds)) = true then .ret (.bool (ds.any fun z => PyData.eqv z x)) else .bad
  | _ => oIn x y
theorem d_inT {K : PySem.W.Frag} : OpD (rInLT K) oInT := by
  intro β H0 H v w x y Q E e ok bf hv hw q
  have other : (oIn x y).wp (Out β H0 H Q) E → rInLT K v w H Q := fun q => .inl (d_in e ok bf hv hw q)
  cases y with
  | tuple ds =>
    have q : (if (cEq x && cEq (.tuple ds)) = true then T.ret (PyData.bool (ds.any fun z => PyData.eqv z x)) else .bad).wp (Out β H0 H Q) E := q
    split at q
    · next c =>
      rw [Bool.and_eq_true] at c
      obtain ⟨a1, a2⟩ := cEq_of c.1
      obtain ⟨b1, b2⟩ := cEq_of c.2
      exact .inr ⟨x, ds, hv.dp e a1, hw.dp e b1, a2, b2, out_ret e ok bf (.bl _) q⟩
    · exact q.elim
  | _ => exact other q
/-! ints -/
end Wb
set_option Elab.async false
set_option linter.all false
set_option maxRecDepth 100000
set_option maxHeartbeats 4000000
/-! Wb, part 47: sorted(set(xs)) of many ints; min, max of a list or tuple of ints; x.index(k) for a list or tuple of ints. -/
namespace Wb
open PySem PySem.Spec PyProof.Rows L2 RZ
section
variable {X : Cx} {g : Ct} {a : Expr} {f : Env' → T D} {pos : Pos}
def oSortSetN (x : D) : T D := match x with
  | .list ds => match intsOf ds with
    | some ns => if ns.length < 4000 then .ret (.list ((sortU ns).map PyData.int)) else .bad
    | none => .bad
  | _ => .bad
@[simp] theorem oSortSetN_i {ns : List Int} : oSortSetN (.list (ns.map PyData.int)) = if ns.length < 4000 then .ret (.list ((sortU ns).map PyData.int)) else .bad := by
  unfold oSortSetN
  simp only [intsOf_map]
end
/-! ### min, max of a tuple of ints -/
def CallR.or {X : Cx} {c : Value} {r r' : List V → Hp → VK → Prop} (h : CallR X c r) (h' : CallR X c r') : CallR X c (fun xs H Q => r xs H Q ∨ r' xs H Q) := fun pins s σ H xs us Q I rv z => z.elim (h pins s σ H xs us Q I rv) (h' pins s σ H xs us Q I rv)
def oMinS : D → T D
  | .tuple xs => match intsOf xs with
    | some (n :: ns) => .ret (.int (mnZ n ns))
    | _ => .bad
  | d => oMinL d
def oMaxS : D → T D
  | .tuple xs => match intsOf xs with
    | some (n :: ns) => .ret (.int (mxZ n ns))
    | _ => .bad
  | d => oMaxL d
@[simp] theorem oMinS_list {xs : List D} : oMinS (.list xs) = oMinL (.list xs) := rfl
@[simp] theorem oMaxS_list {xs : List D} : oMaxS (.list xs) = oMaxL (.list xs) := rfl
@[simp] theorem oMinS_tuple {n : Int} {ns : List Int} : oMinS (.tuple (.int n :: ns.map PyData.int)) = .ret (.int (mnZ n ns)) := by
  have e : PyData.int n :: ns.map PyData.int = (n :: ns).map PyData.int := rfl
  rw [e]
  unfold oMinS
  simp only [intsOf_map]
@[simp] theorem oMaxS_tuple {n : Int} {ns : List Int} : oMaxS (.tuple (.int n :: ns.map PyData.int)) = .ret (.int (mxZ n ns)) := by
  have e : PyData.int n :: ns.map PyData.int = (n :: ns).map PyData.int := rfl
  rw [e]
  unfold oMaxS
  simp only [intsOf_map]
end Wb
set_option Elab.async false
set_option linter.all false
set_option maxRecDepth 100000
set_option maxHeartbeats 4000000
/-! Wb, part 48: for i, (x, y) in enumerate(zip(a, b)); a, b each a list or a tuple. -/
namespace Wb
open PySem PySem.Spec PyProof.Rows L2 RZ
def oEnumZ : List Ar → T (List D)
  | [.d x, .d y] => match seqD x, seqD y with
    | some (_, xs), some (_, ys) => .ret (numD 0 ((xs.zip ys).map fun p => .tuple [p.1, p.2]))
    | _, _ => .bad
  | _ => .bad
section
variable {X : Cx} {g : Ct} {a b : Expr} {pos pos2 : Pos} {fs : Env' → T (List Ar)}
@[simp] theorem ev_enumZT {xs ys : List D} : oEnumZ [.d (.tuple xs), .d (.tuple ys)] = .ret (numD 0 ((xs.zip ys).map fun p => .tuple [p.1, p.2])) := rfl
end
end Wb
set_option Elab.async false
set_option linter.all false
set_option maxRecDepth 100000
set_option maxHeartbeats 4000000
/-! Wb, part 49: bool(x) of an int or a bool. -/
namespace Wb
open PySem PySem.Spec PyProof.Rows L2 RZ
def oBool : D → T D
  | .int i => .ret (.bool (i != 0))
  | .bool b => .ret (.bool b)
  | _ => .bad
@[simp] theorem oBool_int {i : Int} : oBool (.int i) = .ret (.bool (i != 0)) := rfl
@[simp] theorem oBool_bool {b : Bool} : oBool (.bool b) = .ret (.bool b) := rfl
end Wb
set_option Elab.async false
set_option linter.all false
set_option maxRecDepth 100000
set_option maxHeartbeats 4000000
/-! Wb, part 50: range with a step, a = b = c = e, a, b, c = x, y, z. -/
namespace Wb
open PySem PySem.Spec PyProof.Rows L2 RZ
variable {X : Cx} {g : Ct} {a b c : Expr} {f h t : Env' → T D} {pos : Pos} {st : Stmt} {tg : Expr} {fs : Env' → T (List Ar)}
def stepN (l n c : Int) : Nat := if l < n then ((n - l - 1) / c + 1).toNat else 0
def rangeS (lo c : Int) (n : Nat) : List D := (List.range n).map fun i => .int (lo + (i : Nat) * c)
def oRng3 : List Ar → T (List D)
  | [.d (.int l), .d (.int n), .d (.int c)] => if l.natAbs < 1000000000000 ∧ n.natAbs < 1000000000000 ∧ 0 < c ∧ c < 1000000 then .ret (rangeS l c (stepN l n c)) else .bad
  | _ => .bad
@[simp] theorem oRng3_ok {l n c : Int} (h : l.natAbs < 1000000000000 ∧ n.natAbs < 1000000000000 ∧ 0 < c ∧ c < 1000000) : oRng3 [.d (.int l), .d (.int n), .d (.int c)] = .ret (rangeS l c (stepN l n c)) := if_pos h
/-- a = b = c = e -/
def sSet3 (i j k : Nat) (f : Env' → T D) : Env' → T Fl := fun ρ => (f ρ).lift ρ fun d => .ret (.nx (((ρ.set i (.d d)).set j (.d d)).set k (.d d)))
@[simp] theorem ev_Set3 {i j k : Nat} {ρ : Env'} : sSet3 i j k f ρ = (f ρ).lift ρ fun d => .ret (.nx (((ρ.set i (.d d)).set j (.d d)).set k (.d d))) := rfl
/-- a, b, c = x, y, z -/
def threeN (i j k : Nat) (ρ : Env') : List Ar → T Fl
  | [.d x, .d y, .d z] => .ret (.nx (((ρ.set i (.d x)).set j (.d y)).set k (.d z)))
  | _ => .bad
@[simp] theorem threeN_3 {i j k : Nat} {ρ : Env'} {x y z : D} : threeN i j k ρ [.d x, .d y, .d z] = .ret (.nx (((ρ.set i (.d x)).set j (.d y)).set k (.d z))) := rfl
def sPar3 (i j k : Nat) (fs : Env' → T (List Ar)) : Env' → T Fl := fun ρ => (fs ρ).lift ρ (threeN i j k ρ)
@[simp] theorem ev_Par3 {i j k : Nat} {ρ : Env'} : sPar3 i j k fs ρ = (fs ρ).lift ρ (threeN i j k ρ) := rfl
end Wb
set_option Elab.async false
set_option linter.all false
set_option maxRecDepth 100000
set_option maxHeartbeats 4000000
/-! Wb, part 51: a list of one's own is walked in a comprehension; while with a fuel that the slots tell. -/
namespace Wb
open PySem PySem.Spec PyProof.Rows L2 RZ
def iownK : Option Sl → T (List D)
  | some (.own xs) => .ret xs
  | _ => .bad
/-- the items of a list of one's own -/
def iOwn (k : Nat) : Env' → T (List D) := fun ρ => iownK ρ[k]?
@[simp] theorem ev_iOwn {k : Nat} {ρ : Env'} : iOwn k ρ = iownK ρ[k]? := rfl
@[simp] theorem iownK_own {xs : List D} : iownK (some (.own xs)) = .ret xs := rfl
section
variable {X : Cx} {g : Ct} {st : Stmt} {vs js : List Nat} {it : Env' → T (List D)} {bd : D → Env' → Option Env'} {t e : Env' → T D} {F : Env' → T Fl}
/-- while, the fuel told by the slots -/
def sWhileF (n : Env' → Nat) (t : Env' → T D) (F : Env' → T Fl) : Env' → T Fl := fun ρ => whGo t F (n ρ) ρ
@[simp] theorem ev_WhileF {n : Env' → Nat} {ρ : Env'} : sWhileF n t F ρ = whGo t F (n ρ) ρ := rfl
end
end Wb
set_option Elab.async false
set_option linter.all false
set_option maxRecDepth 100000
set_option maxHeartbeats 4000000
/-! Wb, part 52: a lambda without parameters is handed to a def that calls it. -/
namespace Wb
open PySem PySem.Spec PyProof.Rows L2 RZ LamX
/-- all is kept but what stands at P -/
def KeepBut (P : Addr) (G G' : Hp) : Prop := ∀ x u, x ≠ P → G x = some u → G' x = some u
theorem KeepBut.refl (P : Addr) (G : Hp) : KeepBut P G G := fun _ _ _ e => e
/-! ### a def that calls what it got -/
/-- the box under another value -/
def Box.at (β : Box) (v : V) : Box := { β with v := v }
theorem Stp.at {β : Box} {v : V} {H0 H H0' H' : Hp} (h : Stp β H0 H H0' H') : Stp (β.at v) H0 H H0' H' := ⟨h.grow, h.ext, h.ok, h.boxf, h.priv⟩
theorem Stp.un {β : Box} {v : V} {H0 H H0' H' : Hp} (h : Stp (β.at v) H0 H H0' H') : Stp β H0 H H0' H' := ⟨h.grow, h.ext, h.ok, h.boxf, h.priv⟩
def askK (t : T D) : Option Sl → T D
  | some .fn => t
  | _ => .bad
/-- a(), a the first parameter -/
def eAsk (t : T D) : Env' → T D := fun ρ => askK t ρ[0]?
@[simp] theorem ev_Ask {t : T D} {ρ : Env'} : eAsk t (.fn :: ρ) = t := rfl
/-- the box knows the table at tA -/
structure BoxT (tA : Addr) (q : Str) (β : Box) : Prop where
  tab : ∀ H, β.ok H → TabS H tA q
  own : β.S tA
  cod : ∀ H c y, β.ok H → H c = some (CodeO c y) → ¬ β.S c
  new : ∀ H H', β.ok H → KeepBut tA H H' → TabS H' tA q → β.ok H'
end Wb
set_option Elab.async false
set_option linter.all false
set_option maxRecDepth 100000
set_option maxHeartbeats 4000000
/-! Wb, part 53: defs that call what they got, by their names; which boxes know their tables. -/
namespace Wb
open PySem PySem.Spec PyProof.Rows L2 RZ LamX
/-- m of what the handed expression does -/
def eLam (m : T D → T D) (fb : Env' → T D) : Env' → T D := fun ρ => m (fb ρ)
@[simp] theorem ev_Lam {m : T D → T D} {fb : Env' → T D} {ρ : Env'} : eLam m fb ρ = m (fb ρ) := rfl
end Wb
set_option Elab.async false
set_option linter.all false
set_option maxRecDepth 100000
set_option maxHeartbeats 4000000
/-! Wb, part 54: the law is called where tables of code objects are tracked. -/
namespace Wb
open PySem PySem.Spec PyProof.Rows L2 RZ LamX
/-- the boxes that know all the tables -/
def BxAll (TB : List (Addr × Str)) (β : Box) : Prop := ∀ r ∈ TB, BoxT r.1 r.2 β
theorem BxAll.one {TB : List (Addr × Str)} {β : Box} {tA : Addr} {q : Str} (h : (tA, q) ∈ TB) (b : BxAll TB β) : BoxT tA q β ∧ ∀ v, BxAll TB (β.at v) :=
  ⟨b _ h, fun v r hr => ⟨(b r hr).tab, (b r hr).own, (b r hr).cod, (b r hr).new⟩⟩
end Wb
set_option Elab.async false
set_option linter.all false
set_option maxRecDepth 100000
set_option maxHeartbeats 4000000
/-! Wb, part 55: the end of a law whose defs make lambdas. -/
namespace Wb
open PySem PySem.Spec PyProof.Rows L2 RZ LamX
theorem all_cons {α : Type} {P : α → Prop} {a : α} {l : List α} (h : P a) (t : ∀ p ∈ l, P p) : ∀ p ∈ a :: l, P p := fun p hp => by
  rcases List.mem_cons.mp hp with rfl | hp'
  · exact h
  · exact t p hp'
end Wb
set_option Elab.async false
set_option linter.all false
set_option maxRecDepth 100000
set_option maxHeartbeats 4000000
/-! Wb, part 56: len(set(xs)) of a list of different ints. -/
namespace Wb
open PySem PySem.Spec PyProof.Rows L2 RZ
end Wb
set_option Elab.async false
set_option linter.all false
set_option maxRecDepth 100000
set_option maxHeartbeats 4000000
/-! Wb, part 57: heights that are raised link by link, and the ring that bars them. -/
namespace Wb
end Wb
set_option Elab.async false
set_option linter.all false
set_option maxRecDepth 100000
set_option maxHeartbeats 4000000
/-! Wb, part 58: x is not True; a, b = (e, [.. for ..]) with b a list of one's own. -/
namespace Wb
open PySem PySem.Spec PyProof.Rows L2 RZ
end Wb
set_option Elab.async false
set_option linter.all false
set_option maxRecDepth 100000
set_option maxHeartbeats 4000000
/-! Wb, part 59: == with a str, whatever the other one is. -/
namespace Wb
open PySem PySem.Spec PyProof PyProof.Rows L2
end Wb
set_option Elab.async false
set_option linter.all false
set_option maxRecDepth 100000
set_option maxHeartbeats 4000000
/-! Wb, part 60: != with a str, whatever the other one is. -/
namespace Wb
open PySem PySem.Spec PyProof PyProof.Rows L2
end Wb
set_option Elab.async false
set_option linter.all false
set_option maxRecDepth 100000
set_option maxHeartbeats 4000000
/-! Wb, part 61: x not in xs, xs a list or a tuple of data. -/
namespace Wb
open PySem PySem.Spec PyProof.Rows L2
def rNotInLT (K : PySem.W.Frag) : R2 := fun x y H Q => rNotInD K x y H Q ∨ ∃ d ds, Dp K H x d ∧ Dp K H y (.tuple ds) ∧ SeqAt.shaped d = true ∧ SeqAt.shaped (.tuple ds) = true ∧ Q (.bl (!ds.any fun z => PyData.eqv z d)) H
theorem op_notInLT {X : Cx} (hu : X.A.units + 65 < cLine) : OpR X (compareOp .NotIn) (rNotInLT X.K) := by
  intro pins s σ H x y v u Q I rx ry h
  rcases h with h | ⟨d, ds, hd, he, sd, se, q⟩
  · exact op_notInD hu pins s σ H x y v u Q I rx ry h
  · obtain ⟨as, r1⟩ := Dp.reads I d x v hd rx
    obtain ⟨bs, r2⟩ := Dp.reads I (.tuple ds) y u he ry
    have lay : PyData.canLayAll0 ds = true := SeqAt.canLay_of_shaped (d := .tuple ds) se
    exact SeqAt.notIn_tuple_reads r2 r1 lay (SeqAt.canLay_of_shaped sd) (room_in_shaped sd hu) ⟨.bl _, H, I, rfl, q⟩
def oNotInT (x y : D) : T D := match y with
  | .tuple ds => if (cEq x && cEq (.tuple ds)) = true then .ret (.bool (!ds.any fun z => PyData.eqv z x)) else .bad
  | _ => oNotIn x y
theorem d_notInT {K : PySem.W.Frag} : OpD (rNotInLT K) oNotInT := by
  intro β H0 H v w x y Q E e ok bf hv hw q
  have other : (oNotIn x y).wp (Out β H0 H Q) E → rNotInLT K v w H Q := fun q => .inl (d_notIn e ok bf hv hw q)
  cases y with
  | tuple ds =>
    have q : (if (cEq x && cEq (.tuple ds)) = true then T.ret (PyData.bool (!ds.any fun z => PyData.eqv z x)) else .bad).wp (Out β H0 H Q) E := q
    split at q
    · next c =>
      rw [Bool.and_eq_true] at c
      obtain ⟨a1, a2⟩ := cEq_of c.1
      obtain ⟨b1, b2⟩ := cEq_of c.2
      exact .inr ⟨x, ds, hv.dp e a1, hw.dp e b1, a2, b2, out_ret e ok bf (.bl _) q⟩
    · exact q.elim
  | _ => exact other q
end Wb
set_option Elab.async false
set_option linter.all false
set_option maxRecDepth 100000
set_option maxHeartbeats 4000000
/-! Wb, part 62: x or y, x None or an int. -/
namespace Wb
open PySem PySem.Spec PyProof.Rows L2
section
variable {X : Cx} {g : Ct} {a b : Expr} {rest : List Expr} {pos : Pos} {ta tb : TE} {f h : Env' → T D}
def eOrV (f h : Env' → T D) : Env' → T D := fun ρ => (f ρ).bind fun x => match x with
  | .none => h ρ
  | .int i => if i = 0 then h ρ else .ret (.int i)
  | _ => .bad
end
@[simp] theorem ev_orV {f h : Env' → T D} {ρ : Env'} : eOrV f h ρ = (f ρ).bind fun x => match x with
  | .none => h ρ
  | .int i => if i = 0 then h ρ else .ret (.int i)
  | _ => .bad := rfl
end Wb
set_option Elab.async false
set_option linter.all false
set_option maxRecDepth 100000
set_option maxHeartbeats 4000000
/-! Wb, part 63: slices of strs. -/
namespace Wb
open PySem PySem.Spec PyProof.Rows L2
section
variable {X : Cx} {g : Ct} {a : Expr} {pos p2 : Pos} {lo hi : Option Expr} {f : Env' → T D} {l u : Env' → T (Option Int)}
def oSlX (x : D) (lo hi : Option Int) : T D := match x with
  | .str z => if z.length ≤ 10000000 then .ret (.str (Txt.slice z lo hi)) else .bad
  | _ => .bad
def eSlX (f : Env' → T D) (l u : Env' → T (Option Int)) : Env' → T D := fun ρ => (f ρ).bind fun x => (l ρ).bind fun lo => (u ρ).bind fun hi => oSlX x lo hi
theorem r_slX (ha : PE X a (tE g f)) (hl : PO X lo (tO g l)) (hu : PO X hi (tO g u)) : PE X (.Subscript a (.Slice lo hi none p2) pos) (tE g (eSlX f l u)) :=
  (pe_slice C8.sl_txt ha hl hu).imp fun σ H Q ⟨β, H0, ρ, rr, q⟩ => tE_then rr q fun d v H1 H2 st hv q1 => by
    have rr1 := rr.step st
    refine tO_then rr1 (wp_out st q1) fun o1 H3 H4 st2 q2 => ?_
    have rr2 := rr1.step st2
    refine tO_then rr2 (wp_out st2 q2) fun o2 H5 H6 st3 q3 => ?_
    have q4 := wp_out st3 q3
    have hv' := (hv.mono st2.grow).mono st3.grow
    cases hv' with
    | str z =>
      have q5 : (if z.length ≤ 10000000 then T.ret (PyData.str (Txt.slice z o1 o2)) else .bad).wp (Out β H5 H6 Q) (g.X β H5 H6 σ) := q4
      by_cases h : z.length ≤ 10000000
      · rw [if_pos h] at q5
        exact ⟨z, rfl, Nat.le_trans h (by decide), q5 (.str _) H5 H6 (Stp.refl st3.ext st3.ok st3.boxf) (.str _)⟩
      · rw [if_neg h] at q5
        exact q5.elim
    | _ => exact q4.elim
end
@[simp] theorem ev_slX {f : Env' → T D} {l u : Env' → T (Option Int)} {ρ : Env'} : eSlX f l u ρ = (f ρ).bind fun x => (l ρ).bind fun lo => (u ρ).bind fun hi => oSlX x lo hi := rfl
end Wb
set_option Elab.async false
set_option linter.all false
set_option maxRecDepth 100000
set_option maxHeartbeats 4000000
/-! Wb, part 64: sorted(xs) of a list of alike data (ints, tuples of them ..). -/
namespace Wb
open PySem PySem.Spec PyProof.Rows L2 RZ
open PySem.W (EachIs AllAlike Sortable dataLe alike)
theorem each_reads {h : Heap} : ∀ {vs : List Value} {ds : List PyData} {as : List Addr}, ReadsAll h vs ds as → EachIs (fun v d => ∃ as, Reads h v d as) vs ds
  | _, _, _, .nil => .nil
  | _, _, _, .cons r rs => .cons ⟨_, r⟩ (each_reads rs)
theorem DpAll.len {K : PySem.W.Frag} {H : Hp} : ∀ {vs : List V} {ds : List D}, DpAll K H vs ds → vs.length = ds.length
  | _, _, .nil => rfl
  | _, _, .cons _ r => by
    have := DpAll.len r
    simp [this]
end Wb
set_option Elab.async false
set_option linter.all false
set_option maxRecDepth 100000
set_option maxHeartbeats 4000000
/-! Wb, part 65: x = xs.pop(), while xs != []: and a, b = ([..], [..]) of lists of one's own. -/
namespace Wb
open PySem PySem.Spec PyProof.Rows L2 RZ
/-! ### x = xs.pop() -/
def popK (i k : Nat) (ρ : Env') : Option Sl → T Fl
  | some (.own xs) => match xs.getLast? with
    | some d => .ret (.nx ((ρ.set k (.own xs.dropLast)).set i (.d d)))
    | none => .bad
  | _ => .bad
def sPop (i k : Nat) : Env' → T Fl := fun ρ => popK i k ρ ρ[k]?
@[simp] theorem ev_Pop {i k : Nat} {ρ : Env'} : sPop i k ρ = popK i k ρ ρ[k]? := rfl
theorem HasL.dropLast {H : Hp} {vs : List V} {ds : List D} (h : HasL H vs ds) : HasL H vs.dropLast ds.dropLast := by
  rw [List.dropLast_eq_take, List.dropLast_eq_take, h.length]
  exact h.take _
section
variable {X : Cx} {g : Ct} {st : Stmt}
/-! ### whether a list of one's own is empty -/
def oneK : Option Sl → T D
  | some (.own xs) => .ret (.bool (!xs.isEmpty))
  | _ => .bad
/-- xs != [], and the truth of xs -/
def eONe (k : Nat) : Env' → T D := fun ρ => oneK ρ[k]?
@[simp] theorem ev_ONe {k : Nat} {ρ : Env'} : eONe k ρ = oneK ρ[k]? := rfl
@[simp] theorem oneK_own {xs : List D} : oneK (some (.own xs)) = .ret (.bool (!xs.isEmpty)) := rfl
def oeqK : Option Sl → T D
  | some (.own xs) => .ret (.bool xs.isEmpty)
  | _ => .bad
/-- xs == [] -/
def eOEq (k : Nat) : Env' → T D := fun ρ => oeqK ρ[k]?
@[simp] theorem ev_OEq {k : Nat} {ρ : Env'} : eOEq k ρ = oeqK ρ[k]? := rfl
@[simp] theorem oeqK_own {xs : List D} : oeqK (some (.own xs)) = .ret (.bool xs.isEmpty) := rfl
variable {x : Str} {p p2 pos : Pos}
theorem q_otruth {k : Nat} (hp : PE X (.Name x p) (tVar k)) (he : ∀ whole, isTrue (.Name x p) X.env whole = (do let v ← whole; standAt (Expr.Name x p).pos; holding [v] (truthy v)) := by intro _; rfl) : PT X (.Name x p) (tT g (eONe k)) :=
  (pt_truth hp he).imp fun σ H Q ⟨β, H0, ρ, r, q⟩ => by
    unfold eONe at q
    cases hx : ρ[k]? with
    | none =>
      rw [hx] at q
      exact q.elim
    | some sl =>
      rw [hx] at q
      cases sl with
      | own xs =>
        obtain ⟨a, vs, e1, e2, e3⟩ := own_rel r hx
        obtain ⟨z, e, hq⟩ := q
        cases e
        exact ⟨.ref a, e1, _, .inl ⟨_, SqL.of e2, by rw [e3.isEmpty]⟩, hq H0 _ r.refl⟩
      | _ => exact q.elim
/-! ### a, b = ([..], [..]) -/
def sParOO (i j : Nat) (l m : Env' → T (List D)) : Env' → T Fl := fun ρ => (l ρ).lift ρ fun xs => (m ρ).lift ρ fun ys => .ret (.nx ((ρ.set i (.own xs)).set j (.own ys)))
@[simp] theorem ev_ParOO {i j : Nat} {l m : Env' → T (List D)} {ρ : Env'} : sParOO i j l m ρ = (l ρ).lift ρ fun xs => (m ρ).lift ρ fun ys => .ret (.nx ((ρ.set i (.own xs)).set j (.own ys))) := rfl
end
end Wb
set_option Elab.async false
set_option linter.all false
set_option maxRecDepth 100000
set_option maxHeartbeats 4000000
/-! Wb, part 66: comprehensions over what is known by its own names. -/
namespace Wb
open PySem PySem.Spec PyProof.Rows L2
section
variable {bd : D → Env' → Option Env'} {t e : Env' → T D} {ρ : Env'}
theorem lc_rows {α : Type} {mk f : α → D} : ∀ (L : List α), (∀ r ∈ L, ∃ ρ1, bd (mk r) ρ = some ρ1 ∧ t ρ1 = .ret (.bool true) ∧ e ρ1 = .ret (f r)) → lcGo bd t e ρ (L.map mk) = .ret (L.map f)
  | [], _ => rfl
  | d :: r, h => by
    obtain ⟨ρ1, e1, e2, e3⟩ := h d (List.mem_cons_self ..)
    rw [List.map_cons]
    unfold lcGo
    rw [e1]
    simp only [e2, e3, T.quiet, T.ret_bind]
    rw [lc_rows r fun d hd => h d (List.mem_cons_of_mem _ hd)]
    rfl
end
end Wb
set_option Elab.async false
set_option linter.all false
set_option maxRecDepth 100000
set_option maxHeartbeats 4000000
/-! Wb, part 67: a list of one's own is lent to an expression: it is data there, and one's own again behind it. -/
namespace Wb
open PySem PySem.Spec PyProof.Rows L2 RZ
/-! ### a value stands for one data -/
mutual
theorem Has.one {H : Hp} : ∀ {v : V} {d d' : D}, Has H v d → Has H v d' → d = d'
  | _, _, _, .non, h => by cases h; rfl
  | _, _, _, .bl b, h => by cases h; rfl
  | _, _, _, .int i, h => by cases h; rfl
  | _, _, _, .str x, h => by cases h; rfl
  | _, _, _, .lst e r, h => by
    cases h with
    | lst e' r' =>
      rw [e] at e'
      cases e'
      rw [HasL.one r r']
    | tup e' _ _ => rw [e] at e'; cases e'
    | dct e' _ => rw [e] at e'; cases e'
  | _, _, _, .tup e _ r, h => by
    cases h with
    | tup e' hdm r' =>
      rw [e] at e'
      cases e'
      rw [HasL.one r r']
    | lst e' _ => rw [e] at e'; cases e'
    | dct e' _ => rw [e] at e'; cases e'
  | _, _, _, .dct e r, h => by
    cases h with
    | dct e' r' =>
      rw [e] at e'
      cases e'
      rw [HasK.one r r']
    | lst e' _ => rw [e] at e'; cases e'
    | tup e' _ _ => rw [e] at e'; cases e'
theorem HasL.one {H : Hp} : ∀ {vs : List V} {ds ds' : List D}, HasL H vs ds → HasL H vs ds' → ds = ds'
  | _, _, _, .nil, h => by cases h; rfl
  | _, _, _, .cons a r, h => by
    cases h with
    | cons a' r' => rw [Has.one a a', HasL.one r r']
theorem HasK.one {H : Hp} : ∀ {vs : List (Key × V)} {ds ds' : List (D × D)}, HasK H vs ds → HasK H vs ds' → ds = ds'
  | _, _, _, .nil, h => by cases h; rfl
  | _, _, _, .cons a r, h => by
    cases h with
    | cons a' r' => rw [Has.one a a', HasK.one r r']
end
def kindD : D → Nat
  | .none => 0
  | .bool _ => 1
  | .int _ => 2
  | .str _ => 3
  | .list _ => 4
  | .tuple _ => 5
  | .dict _ => 6
mutual
/-- no list in it has items of just these kinds -/
def apD (ks : List Nat) : D → Bool
  | .list ys => !decide (ys.map kindD = ks) && apDs ks ys
  | .tuple ys => apDs ks ys
  | .dict _ => false
  | _ => true
def apDs (ks : List Nat) : List D → Bool
  | [] => true
  | y :: r => apD ks y && apDs ks r
end
/-! ### the list is lent -/
def lendK (k : Nat) (f : Env' → T D) (ρ : Env') : Option Sl → T D
  | some (.own xs) => ((f (ρ.set k (.d (.list xs)))).quiet).bind fun d => if apD (xs.map kindD) d = true then .ret d else .bad
  | _ => .bad
def eLend (k : Nat) (f : Env' → T D) : Env' → T D := fun ρ => lendK k f ρ ρ[k]?
@[simp] theorem ev_Lend {k : Nat} {f : Env' → T D} {ρ : Env'} : eLend k f ρ = lendK k f ρ ρ[k]? := rfl
@[simp] theorem lendK_own {k : Nat} {f : Env' → T D} {ρ : Env'} {xs : List D} : lendK k f ρ (some (.own xs)) = ((f (ρ.set k (.d (.list xs)))).quiet).bind fun d => if apD (xs.map kindD) d = true then .ret d else .bad := rfl
end Wb
set_option Elab.async false
set_option linter.all false
set_option maxRecDepth 100000
set_option maxHeartbeats 4000000
/-! Wb, part 68: the sum of a list or a tuple of ints. -/
namespace Wb
open PySem PySem.Spec PyProof.Rows L2 RZ
def oSumS : D → T D
  | .tuple xs => match intsOf xs with
    | some ns => .ret (.int ns.sum)
    | none => .bad
  | d => oSum d
@[simp] theorem oSumS_list {xs : List D} : oSumS (.list xs) = oSum (.list xs) := rfl
end Wb
set_option Elab.async false
set_option linter.all false
set_option maxRecDepth 100000
set_option maxHeartbeats 4000000
/-! Wb, part 69: a == b == c of ints; xs[i] += e of a list of one's own; any(xs), xs a list of ints. -/
namespace Wb
open PySem PySem.Spec PyProof.Rows L2 RZ
/-! ### any -/
/-! ### xs[i] += e -/
def augI (f : Int → Int → Int) (k : Nat) (ρ : Env') (xs : List D) (z : Nat) (a : Int) : D → T Fl
  | .int b => .ret (.nx (ρ.set k (.own (xs.set z (.int (f a b))))))
  | _ => .bad
def augD (f : Int → Int → Int) (k : Nat) (fv : Env' → T D) (ρ : Env') (xs : List D) (z : Nat) : Option D → T Fl
  | some (.int a) => (fv ρ).lift ρ (augI f k ρ xs z a)
  | _ => .bad
def augZ (f : Int → Int → Int) (k : Nat) (fv : Env' → T D) (ρ : Env') (xs : List D) : D → T Fl
  | .int z => if 0 ≤ z then augD f k fv ρ xs z.toNat xs[z.toNat]? else .bad
  | _ => .bad
def augK (f : Int → Int → Int) (k : Nat) (fi fv : Env' → T D) (ρ : Env') : Option Sl → T Fl
  | some (.own xs) => (fi ρ).lift ρ (augZ f k fv ρ xs)
  | _ => .bad
def sPutAug (f : Int → Int → Int) (k : Nat) (fi fv : Env' → T D) : Env' → T Fl := fun ρ => augK f k fi fv ρ ρ[k]?
@[simp] theorem ev_PutAug {f : Int → Int → Int} {k : Nat} {fi fv : Env' → T D} {ρ : Env'} : sPutAug f k fi fv ρ = augK f k fi fv ρ ρ[k]? := rfl
@[simp] theorem augK_own {f : Int → Int → Int} {k : Nat} {fi fv : Env' → T D} {ρ : Env'} {xs : List D} : augK f k fi fv ρ (some (.own xs)) = (fi ρ).lift ρ (augZ f k fv ρ xs) := rfl
@[simp] theorem augI_int {f : Int → Int → Int} {k : Nat} {ρ : Env'} {xs : List D} {j : Nat} {a b : Int} : augI f k ρ xs j a (.int b) = .ret (.nx (ρ.set k (.own (xs.set j (.int (f a b)))))) := rfl
end Wb
set_option Elab.async false
set_option linter.all false
set_option maxRecDepth 100000
set_option maxHeartbeats 4000000
/-! Wb, part 70: a list of lists that are made, each at its turn: they stand apart, and nothing else knows them. -/
namespace Wb
open PySem PySem.Spec PyProof.Rows L2
def OutLL (β : Box) (H0 H : Hp) (Q : VK) (rows : List (List D)) : Prop := ∀ p qs H0' H', Stp β H0 H H0' H' → H p = none → H' p = some (.lst (qs.map V.ref)) → H0' p = none → ¬ β.S p → p ∉ qs → Rws β H0' H' qs rows → (∀ q ∈ qs, H q = none) → Q (.ref p) H'
theorem none_back {β : Box} {H0 H H0' H' : Hp} (st : Stp β H0 H H0' H') {p : Addr} (hn : H' p = none) (hS : ¬ β.S p) : H p = none := by
  cases e : H p with
  | none => rfl
  | some o =>
    exfalso
    cases e0 : H0 p with
    | none =>
      have := (st.priv p o e e0).2 hS
      rw [hn] at this
      cases this
    | some u =>
      have := st.ext p u (st.grow p u e0)
      rw [hn] at this
      cases this
theorem OutLL.step {β : Box} {H0 H H0' H' : Hp} {Q : VK} {rows : List (List D)} (st : Stp β H0 H H0' H') (h : OutLL β H0 H Q rows) : OutLL β H0' H' Q rows := fun p qs H2 H3 s hn h1 h2 h3 h4 hr hq =>
  h p qs H2 H3 (st.trans s) (none_back st hn h3) h1 h2 h3 h4 hr fun q hm => none_back st (hq q hm) (rws_some hr q hm).2.2
end Wb
set_option Elab.async false
set_option linter.all false
set_option maxRecDepth 100000
set_option maxHeartbeats 4000000
/-! Wb, part 71: [..] * k as a list that is made; the comprehension of such lists as an expression. -/
namespace Wb
open PySem PySem.Spec PyProof.Rows L2
def lBin (o : D → D → T (List D)) (f h : Env' → T D) : Env' → T (List D) := fun ρ => (f ρ).bind fun x => (h ρ).bind fun y => o x y
@[simp] theorem ev_lBin {o : D → D → T (List D)} {f h : Env' → T D} {ρ : Env'} : lBin o f h ρ = (f ρ).bind fun x => (h ρ).bind fun y => o x y := rfl
end Wb
set_option Elab.async false
set_option linter.all false
set_option maxRecDepth 100000
set_option maxHeartbeats 4000000
/-! Wb, part 72: a slot for a list of lists of one's own: made, read, put to, appended to, frozen. -/
namespace Wb
open PySem PySem.Spec PyProof.Rows L2
/-! ### a list of lists is made -/
def sRows (i : Nat) (fs : Env' → T (List (List D))) : Env' → T Fl := fun ρ => (fs ρ).lift ρ fun rows => .ret (.nx (ρ.set i (.oth (.rows rows))))
@[simp] theorem ev_Rows {i : Nat} {fs : Env' → T (List (List D))} {ρ : Env'} : sRows i fs ρ = (fs ρ).lift ρ fun rows => .ret (.nx (ρ.set i (.oth (.rows rows)))) := rfl
def sParRD (i j : Nat) (fs : Env' → T (List (List D))) (f : Env' → T D) : Env' → T Fl := fun ρ => (fs ρ).lift ρ fun rows => (f ρ).lift ρ fun d => .ret (.nx ((ρ.set i (.oth (.rows rows))).set j (.d d)))
@[simp] theorem ev_ParRD {i j : Nat} {fs : Env' → T (List (List D))} {f : Env' → T D} {ρ : Env'} : sParRD i j fs f ρ = (fs ρ).lift ρ fun rows => (f ρ).lift ρ fun d => .ret (.nx ((ρ.set i (.oth (.rows rows))).set j (.d d))) := rfl
section
variable {X : Cx} {g : Ct} {st : Stmt} {sts : List Stmt} {fs : Env' → T (List (List D))} {f fi fj fv : Env' → T D} {F : Env' → T Fl}
/-! ### found[i][j] -/
def rowK {α : Type} (rows : List (List D)) (k : Nat → List D → T α) : D → T α
  | .int z => match ixN rows.length z with
    | some i => match rows[i]? with
      | some row => k i row
      | none => .bad
    | none => .bad
  | _ => .bad
def rixK (fi fj : Env' → T D) (ρ : Env') : Option Sl → T D
  | some (.oth (.rows rows)) => (fi ρ).bind (rowK rows fun _ row => (fj ρ).bind (oixI row))
  | _ => .bad
def eRIx (k : Nat) (fi fj : Env' → T D) : Env' → T D := fun ρ => rixK fi fj ρ ρ[k]?
@[simp] theorem ev_RIx {k : Nat} {ρ : Env'} : eRIx k fi fj ρ = rixK fi fj ρ ρ[k]? := rfl
@[simp] theorem rixK_rows {ρ : Env'} {rows : List (List D)} : rixK fi fj ρ (some (.oth (.rows rows))) = (fi ρ).bind (rowK rows fun _ row => (fj ρ).bind (oixI row)) := rfl
/-! ### found[i][j] = e -/
def rputI (k : Nat) (ρ : Env') (rows : List (List D)) (i : Nat) (row : List D) (d : D) : D → T Fl
  | .int z => match ixN row.length z with
    | some j => .ret (.nx (ρ.set k (.oth (.rows (rows.set i (row.set j d))))))
    | none => .bad
  | _ => .bad
def rputK (k : Nat) (fi fj fv : Env' → T D) (ρ : Env') : Option Sl → T Fl
  | some (.oth (.rows rows)) => (fv ρ).lift ρ fun d => (fi ρ).lift ρ (rowK rows fun i row => (fj ρ).lift ρ (rputI k ρ rows i row d))
  | _ => .bad
def sRPut (k : Nat) (fi fj fv : Env' → T D) : Env' → T Fl := fun ρ => rputK k fi fj fv ρ ρ[k]?
@[simp] theorem ev_RPut {k : Nat} {ρ : Env'} : sRPut k fi fj fv ρ = rputK k fi fj fv ρ ρ[k]? := rfl
@[simp] theorem rputK_rows {k : Nat} {ρ : Env'} {rows : List (List D)} : rputK k fi fj fv ρ (some (.oth (.rows rows))) = (fv ρ).lift ρ fun d => (fi ρ).lift ρ (rowK rows fun i row => (fj ρ).lift ρ (rputI k ρ rows i row d)) := rfl
/-! ### found[i].append(e) -/
def rappK (k : Nat) (fi f : Env' → T D) (ρ : Env') : Option Sl → T Fl
  | some (.oth (.rows rows)) => (fi ρ).lift ρ (rowK rows fun i row => (f ρ).lift ρ fun d => if row.length < 1000000 then .ret (.nx (ρ.set k (.oth (.rows (rows.set i (row ++ [d])))))) else .bad)
  | _ => .bad
def sRApp (k : Nat) (fi f : Env' → T D) : Env' → T Fl := fun ρ => rappK k fi f ρ ρ[k]?
@[simp] theorem ev_RApp {k : Nat} {ρ : Env'} : sRApp k fi f ρ = rappK k fi f ρ ρ[k]? := rfl
@[simp] theorem rappK_rows {k : Nat} {ρ : Env'} {rows : List (List D)} : rappK k fi f ρ (some (.oth (.rows rows))) = (fi ρ).lift ρ (rowK rows fun i row => (f ρ).lift ρ fun d => if row.length < 1000000 then .ret (.nx (ρ.set k (.oth (.rows (rows.set i (row ++ [d])))))) else .bad) := rfl
/-! ### from here on it is data -/
def frRK (i : Nat) (F : Env' → T Fl) (ρ : Env') : Option Sl → T Fl
  | some (.oth (.rows rows)) => F (ρ.set i (.d (.list (rows.map PyData.list))))
  | _ => F ρ
def sFrzR (i : Nat) (F : Env' → T Fl) : Env' → T Fl := fun ρ => frRK i F ρ ρ[i]?
@[simp] theorem ev_FrzR {i : Nat} {ρ : Env'} : sFrzR i F ρ = frRK i F ρ ρ[i]? := rfl
@[simp] theorem frRK_rows {i : Nat} {ρ : Env'} {rows : List (List D)} : frRK i F ρ (some (.oth (.rows rows))) = F (ρ.set i (.d (.list (rows.map PyData.list)))) := rfl
end
end Wb
set_option Elab.async false
set_option linter.all false
set_option maxRecDepth 100000
set_option maxHeartbeats 4000000
/-! Wb, part 73: a display as a list that is made. -/
namespace Wb
open PySem PySem.Spec PyProof.Rows L2
/-! ### rows = [[..] for ..] -/
/-! ### rows, e = ([..], e) where a name is captured: a tuple that is unpacked -/
end Wb
set_option Elab.async false
set_option linter.all false
set_option maxRecDepth 100000
set_option maxHeartbeats 4000000
/-! Wb, part 74: enumerate with a start; reversed(range(n)). -/
namespace Wb
open PySem PySem.Spec PyProof.Rows L2 RZ
open PySem.AutoSeq1 (wpAny_loadPart')
def oEnumS (x k : D) : T (List D) := match k with
  | .int n => if 0 ≤ n ∧ n < 1000000000 then (match seqD x with
    | some (_, xs) => .ret (numD n.toNat xs)
    | none => .bad) else .bad
  | _ => .bad
def iEnS (f h : Env' → T D) : Env' → T (List D) := fun ρ => (f ρ).bind fun x => (h ρ).bind fun k => oEnumS x k
@[simp] theorem ev_iEnS {f h : Env' → T D} {ρ : Env'} : iEnS f h ρ = (f ρ).bind fun x => (h ρ).bind fun k => oEnumS x k := rfl
section
variable {X : Cx} {g : Ct} {a b : Expr} {pos : Pos} {f h : Env' → T D}
/-! ### reversed(range(n)) -/
def oRevR : D → T (List D)
  | .int n => if n.natAbs < 1000000000000 then .ret (rangeD 0 n.toNat).reverse else .bad
  | _ => .bad
def iRevR' (f : Env' → T D) : Env' → T (List D) := fun ρ => (f ρ).bind oRevR
@[simp] theorem ev_iRevR {f : Env' → T D} {ρ : Env'} : iRevR' f ρ = (f ρ).bind oRevR := rfl
end
end Wb
set_option Elab.async false
set_option linter.all false
set_option maxRecDepth 100000
set_option maxHeartbeats 4000000
/-! Wb, part 75: methods of tuples: t.index(x) of ints, t.count(x) of data. -/
namespace Wb
open PySem PySem.Spec PyProof.Rows L2
/-! ### count -/
def oTCnt (x y : D) : T D := match x with
  | .tuple ds => if (cEq y && cEq (.tuple ds)) = true then .ret (.int ((ds.countP fun z => PyData.eqv z y : Nat) : Int)) else .bad
  | _ => .bad
def kTCnt (h : Env' → T D) (ρ : Env') : D → T D
  | .tuple ds => (h ρ).bind fun y => oTCnt (.tuple ds) y
  | _ => .bad
def eTCnt (f h : Env' → T D) : Env' → T D := fun ρ => (f ρ).bind fun x => kTCnt h ρ x
@[simp] theorem ev_tcnt {f h : Env' → T D} {ρ : Env'} : eTCnt f h ρ = (f ρ).bind fun x => kTCnt h ρ x := rfl
@[simp] theorem kTCnt_tup {h : Env' → T D} {ρ : Env'} {ds : List D} : kTCnt h ρ (.tuple ds) = (h ρ).bind fun y => oTCnt (.tuple ds) y := rfl
@[simp] theorem oTCnt_tup {ds : List D} {y : D} : oTCnt (.tuple ds) y = if (cEq y && cEq (.tuple ds)) = true then .ret (.int ((ds.countP fun z => PyData.eqv z y : Nat) : Int)) else .bad := rfl
/-! ### index -/
def firstI (z : Int) : List D → Option Nat
  | .int i :: r => if i = z then some 0 else (firstI z r).map (· + 1)
  | _ => none
def isIntD : D → Bool
  | .int _ => true
  | _ => false
def oTIdx : D → D → T D
  | .tuple ds, .int z => if ds.all isIntD = true then (match firstI z ds with
    | some j => .ret (.int (j : Nat))
    | none => .bad) else .bad
  | _, _ => .bad
def kTIdx (h : Env' → T D) (ρ : Env') : D → T D
  | .tuple ds => (h ρ).bind fun y => oTIdx (.tuple ds) y
  | _ => .bad
def eTIdx (f h : Env' → T D) : Env' → T D := fun ρ => (f ρ).bind fun x => kTIdx h ρ x
@[simp] theorem ev_tidx {f h : Env' → T D} {ρ : Env'} : eTIdx f h ρ = (f ρ).bind fun x => kTIdx h ρ x := rfl
@[simp] theorem kTIdx_tup {h : Env' → T D} {ρ : Env'} {ds : List D} : kTIdx h ρ (.tuple ds) = (h ρ).bind fun y => oTIdx (.tuple ds) y := rfl
end Wb
set_option Elab.async false
set_option linter.all false
set_option maxRecDepth 100000
set_option maxHeartbeats 4000000
/-! Wb, part 76: `law` itself makes lambdas. -/
namespace Wb
open PySem PySem.Spec PyProof.Rows L2
end Wb
set_option Elab.async false
set_option linter.all false
set_option maxRecDepth 100000
set_option maxHeartbeats 4000000
/-! Wb, part 77: floor division by any number but 0 of less than 9000 bits. -/
namespace Wb
open PySem PySem.Spec PyProof.Rows L2
end Wb
set_option Elab.async false
set_option linter.all false
set_option maxRecDepth 100000
set_option maxHeartbeats 4000000
/-! Wb, part 78: the source of draws that is a list of a list of numbers and of two numbers. -/
namespace Wb
open PySem PySem.Spec PyProof.Rows L2 RZ LamX
/-- the draw -/
def mGrind : List Ar → T D
  | [.mil, .d (.int m)] => .draw m fun i => .ret (.int i)
  | _ => .bad
@[simp] theorem ev_grind {m : Int} : mGrind [.mil, .d (.int m)] = .draw m fun i => .ret (.int i) := rfl
@[simp] theorem ev_mil0 {fs : Env' → T (List Ar)} {r : Env'} : aBox 0 fs (.mil :: r) = (fs (.mil :: r)).bind fun s => .ret (.mil :: s) := rfl
@[simp] theorem ev_mil1 {fs : Env' → T (List Ar)} {s : Sl} {r : Env'} : aBox 1 fs (s :: .mil :: r) = (fs (s :: .mil :: r)).bind fun q => .ret (.mil :: q) := rfl
@[simp] theorem ev_arM : arSl .mil = .mil := rfl
@[simp] theorem cs_m : clrS .mil = .mil := rfl
/-- the state of the source -/
structure MillAt (p g : Addr) (gs : List Int) (y z : Int) (H : Hp) : Prop where
  hp : H p = some (.lst [.ref g, .int y, .int z])
  hg : H g = some (.lst (gs.map V.int))
  g0 : ∀ x ∈ gs, 0 ≤ x
  y0 : 0 ≤ y
  y1 : y < 2147483563
  z0 : 0 ≤ z
  gl : gs.length ≤ 64
  ne : p ≠ g
theorem MillAt.ok {p g : Addr} {gs : List Int} {y z : Int} {H : Hp} (h : MillAt p g gs y z H) : millOk p g H := ⟨gs, y, z, h.hp, h.hg, h.g0, h.y0, h.y1, h.z0, h.gl, h.ne⟩
end Wb
set_option Elab.async false
set_option linter.all false
set_option maxRecDepth 100000
set_option maxHeartbeats 4000000
/-! Wb, part 79: the source with two numbers, made of the script; the law's own beginning. -/
namespace Wb
open PySem PySem.Spec PyProof.Rows L2 RZ LamX
end Wb
set_option Elab.async false
set_option linter.all false
set_option maxRecDepth 100000
set_option maxHeartbeats 4000000
/-! Wb, part 80: dicts of one's own, whose keys are numbers (dct) or tuples (dtp). -/
namespace Wb
open PySem PySem.Spec PyProof.Rows L2 RZ LamX
/-! ### keys -/
def keqD (a b : D) : Bool := match nkD 3 a, nkD 3 b with
  | some x, some y => decide (x = y)
  | _, _ => false
def dAt (ds : List (D × D)) (k : D) : Option D := (ds.find? fun e => keqD e.1 k).map (·.2)
def dPut (ds : List (D × D)) (k v : D) : List (D × D) := if (ds.any fun e => keqD e.1 k) = true then ds.map (fun e => if keqD e.1 k = true then (e.1, v) else e) else ds ++ [(k, v)]
theorem nkD_int {n : Nat} {i : Int} : nkD n (.int i) = some (.num i) := by
  cases n <;> rfl
theorem keqD_int {i j : Int} : keqD (.int i) (.int j) = decide (i = j) := by
  unfold keqD
  rw [nkD_int, nkD_int]
  by_cases e : i = j
  · subst e
    simp
  · have : ¬ (NestedKey.num i = NestedKey.num j) := fun z => e (by injection z)
    simp [e, this]
/-- no text in it: the same hash in every world -/
def TF (k : NestedKey) : Prop := ∀ w w' : World, k.hash w = k.hash w'
mutual
theorem nkD_depth : ∀ (n : Nat) (d : D) (k : NestedKey), nkD n d = some k → k.depth ≤ n
  | n, .int i, k, h => by
    rw [nkD_int] at h
    cases h
    simp [NestedKey.depth]
  | 0, .tuple ks, k, h => by cases h
  | n + 1, .tuple ks, k, h => by
    have h : (nkL (nkD n) ks).map NestedKey.tup = some k := h
    cases q : nkL (nkD n) ks with
    | none =>
      rw [q] at h
      cases h
    | some xs =>
      rw [q] at h
      cases h
      simp only [NestedKey.depth]
      have := nkL_depth n ks xs q
      omega
  | 0, .none, k, h => by cases h
  | 0, .bool _, k, h => by cases h
  | 0, .str _, k, h => by cases h
  | 0, .list _, k, h => by cases h
  | 0, .dict _, k, h => by cases h
  | _ + 1, .none, k, h => by cases h
  | _ + 1, .bool _, k, h => by cases h
  | _ + 1, .str _, k, h => by cases h
  | _ + 1, .list _, k, h => by cases h
  | _ + 1, .dict _, k, h => by cases h
theorem nkL_depth : ∀ (n : Nat) (ds : List D) (ks : List NestedKey), nkL (nkD n) ds = some ks → NestedKey.depthAll ks ≤ n
  | n, [], ks, h => by
    cases h
    simp [NestedKey.depthAll]
  | n, d :: r, ks, h => by
    unfold nkL at h
    split at h
    · next k ks' h1 h2 =>
      cases h
      simp only [NestedKey.depthAll]
      have := nkD_depth n d k h1
      have := nkL_depth n r ks' h2
      omega
    · cases h
end
mutual
theorem nkD_tf : ∀ (n : Nat) (d : D) (k : NestedKey), nkD n d = some k → TF k
  | n, .int i, k, h => by
    rw [nkD_int] at h
    cases h
    exact fun _ _ => rfl
  | 0, .tuple ks, k, h => by cases h
  | n + 1, .tuple ks, k, h => by
    have h : (nkL (nkD n) ks).map NestedKey.tup = some k := h
    cases q : nkL (nkD n) ks with
    | none =>
      rw [q] at h
      cases h
    | some xs =>
      rw [q] at h
      cases h
      intro w w'
      simp only [NestedKey.hash]
      rw [nkL_tf n ks xs q w w']
  | 0, .none, k, h => by cases h
  | 0, .bool _, k, h => by cases h
  | 0, .str _, k, h => by cases h
  | 0, .list _, k, h => by cases h
  | 0, .dict _, k, h => by cases h
  | _ + 1, .none, k, h => by cases h
  | _ + 1, .bool _, k, h => by cases h
  | _ + 1, .str _, k, h => by cases h
  | _ + 1, .list _, k, h => by cases h
  | _ + 1, .dict _, k, h => by cases h
theorem nkL_tf : ∀ (n : Nat) (ds : List D) (ks : List NestedKey), nkL (nkD n) ds = some ks → ∀ w w' : World, NestedKey.hashes w ks = NestedKey.hashes w' ks
  | n, [], ks, h, w, w' => by
    cases h
    simp [NestedKey.hashes]
  | n, d :: r, ks, h, w, w' => by
    unfold nkL at h
    split at h
    · next k ks' h1 h2 =>
      cases h
      simp only [NestedKey.hashes]
      rw [nkD_tf n d k h1 w w', nkL_tf n r ks' h2 w w']
    · cases h
end
/-- the key k stands at b -/
def KeyAt (H : Hp) (k : NestedKey) (b : Addr) : Prop := ∀ (P : Program) (w : World) (h : Heap), HOk P w H h → NestedIs h k (.ref b) ∧ k.depth ≤ 8
mutual
theorem has_key3 {H : Hp} : ∀ (n : Nat) {v : V} {d : D} {k : NestedKey}, Has H v d → nkD n d = some k → ∀ (P : Program) (w : World) (h : Heap) (u : Value), HOk P w H h → RelV v u → NestedIs h k u
  | n, _, _, _, .int i, e, P, w, h, u, ok, r => by
    rw [nkD_int] at e
    cases e
    obtain ⟨t, rfl⟩ := r
    exact .int i t
  | 0, _, _, _, .tup _ _ _, e, _, _, _, _, _, _ => by cases e
  | n + 1, _, _, k, @Has.tup _ a o xs ds h1 h2 h3, e, P, w, h, u, ok, r => by
    have e : (nkL (nkD n) ds).map NestedKey.tup = some k := e
    cases q : nkL (nkD n) ds with
    | none =>
      rw [q] at e
      cases e
    | some ks =>
      rw [q] at e
      cases e
      cases (show u = Value.ref a from r)
      obtain ⟨_, _, its, rv, ob, hob, hc, nn, hd⟩ := ok _ _ h1
      refine .tup hob hc hd ?_
      exact has_keys3 n h3 q P w h its ok rv
  | 0, _, _, _, .non, e, _, _, _, _, _, _ => by cases e
  | 0, _, _, _, .bl _, e, _, _, _, _, _, _ => by cases e
  | 0, _, _, _, .str _, e, _, _, _, _, _, _ => by cases e
  | 0, _, _, _, .lst _ _, e, _, _, _, _, _, _ => by cases e
  | 0, _, _, _, .dct _ _, e, _, _, _, _, _, _ => by cases e
  | _ + 1, _, _, _, .non, e, _, _, _, _, _, _ => by cases e
  | _ + 1, _, _, _, .bl _, e, _, _, _, _, _, _ => by cases e
  | _ + 1, _, _, _, .str _, e, _, _, _, _, _, _ => by cases e
  | _ + 1, _, _, _, .lst _ _, e, _, _, _, _, _, _ => by cases e
  | _ + 1, _, _, _, .dct _ _, e, _, _, _, _, _, _ => by cases e
theorem has_keys3 {H : Hp} : ∀ (n : Nat) {vs : List V} {ds : List D} {ks : List NestedKey}, HasL H vs ds → nkL (nkD n) ds = some ks → ∀ (P : Program) (w : World) (h : Heap) (us : List Value), HOk P w H h → Vals vs us → NestedAll h ks us
  | n, _, _, _, .nil, e, P, w, h, us, ok, r => by
    cases e
    cases r
    exact .nil
  | n, _, _, ks, @HasL.cons _ v vs d ds h1 h2, e, P, w, h, us, ok, r => by
    unfold nkL at e
    split at e
    · next k ks' e1 e2 =>
      cases e
      cases r with
      | cons r1 r2 => exact .cons (has_key3 n h1 e1 P w h _ ok r1) (has_keys3 n h2 e2 P w h _ ok r2)
    · cases e
end
theorem KeyAt.of {H : Hp} {b : Addr} {d : D} {k : NestedKey} (h : Has H (.ref b) d) (e : nkD 3 d = some k) : KeyAt H k b := fun P w hp ok =>
  ⟨has_key3 3 h e P w hp (.ref b) ok rfl, by
    have := nkD_depth 3 d k e
    omega⟩
/-! ### a dict whose keys are tuples -/
/-- all its keys stand where they are said to -/
def KeysAt (H : Hp) (xs : List (NestedKey × Addr × Value)) : Prop := ∀ x ∈ xs, KeyAt H x.1 x.2.1 ∧ TF x.1
theorem HasN.keys {H : Hp} : ∀ {xs : List (NestedKey × Addr × Value)} {ds : List (D × D)}, HasN H xs ds → KeysAt H xs
  | _, _, .nil => fun _ z => nomatch z
  | _, _, .cons h1 h2 h3 h4 r => fun x hx => by
    rcases List.mem_cons.mp hx with rfl | hx
    · exact ⟨.of h2 h1, nkD_tf 3 _ _ h1⟩
    · exact r.keys x hx
theorem HasN.length {H : Hp} : ∀ {xs : List (NestedKey × Addr × Value)} {ds : List (D × D)}, HasN H xs ds → xs.length = ds.length
  | _, _, .nil => rfl
  | _, _, .cons _ _ _ _ r => by simp [r.length]
theorem keys_ext {H H' : Hp} {xs : List (NestedKey × Addr × Value)} {ds : List (D × D)} (h : HasN H xs ds) (e : Same H H') : KeysAt H' xs := (h.mono e).keys
section
variable {X : Cx} {pins : List (Addr × Obj)} {σ : L2.St} {H : Hp} {s : Shared} {a b : Addr} {k : NestedKey} {xs : List (NestedKey × Addr × Value)} {A : Around} {E : Value → Shared → Prop}
/-- what the dict at a holds at the key y; whether it holds something -/
def NGet (H : Hp) (a : Addr) (y v : V) : Prop := ∃ xs k b p, H a = some (DctN a xs) ∧ y = .ref b ∧ KeyAt H k b ∧ KeysAt H xs ∧ atKey xs k = some p ∧ RelV v p.2
def NHas (H : Hp) (a : Addr) (y : V) (r : Bool) : Prop := ∃ xs k b, H a = some (DctN a xs) ∧ y = .ref b ∧ KeyAt H k b ∧ KeysAt H xs ∧ (a == sysModules) = false ∧ r = (atKey xs k).isSome
def XGet (H : Hp) (a : Addr) (y v : V) : Prop := DGet H a y (some v) ∨ NGet H a y v
def XHas (H : Hp) (a : Addr) (y : V) (r : Bool) : Prop := (∃ o, DGet H a y o ∧ r = o.isSome) ∨ NHas H a y r
end
end Wb
set_option Elab.async false
set_option linter.all false
set_option maxRecDepth 100000
set_option maxHeartbeats 4000000
/-! Wb, part 81: slots for dicts of one's own: made, read, asked, put to. -/
namespace Wb
open PySem PySem.Spec PyProof.Rows L2 RZ LamX
theorem dAt_cons {a d k : D} {ds : List (D × D)} : dAt ((a, d) :: ds) k = if keqD a k = true then some d else dAt ds k := by
  unfold dAt
  rw [List.find?_cons]
  cases keqD a k <;> simp
theorem keqD_str {x : Str} {k : D} : keqD (.str x) k = false := by
  unfold keqD
  rfl
/-! ### keys that are numbers -/
theorem keqK {k : Key} {i : Int} : keqD (keyD k) (.int i) = decide (k = .inl i) := by
  cases k with
  | inl j =>
    rw [show keyD (.inl j) = .int j from rfl, keqD_int]
    by_cases e : j = i
    · simp [e]
    · have : ¬ (Sum.inl j : Key) = .inl i := fun z => e (by injection z)
      simp [e, this]
  | inr x =>
    rw [show keyD (.inr x) = .str x from rfl, keqD_str]
    have : ¬ (Sum.inr x : Key) = .inl i := fun z => by cases z
    simp [this]
theorem hasK_at {H : Hp} {i : Int} : ∀ {kvs : List (Key × V)} {ds : List (D × D)}, HasK H kvs ds →
    (dAt ds (.int i) = none ∧ valV kvs (.inl i) = none) ∨ ∃ d v, dAt ds (.int i) = some d ∧ valV kvs (.inl i) = some v ∧ Has H v d
  | _, _, .nil => .inl ⟨rfl, rfl⟩
  | _, _, @HasK.cons _ k v vs d ds h r => by
    rw [dAt_cons, keqK]
    by_cases e : k = .inl i
    · subst e
      exact .inr ⟨d, v, by simp, valV_pos rfl, h⟩
    · rw [valV_neg (p := (k, v)) e]
      simp only [e, decide_false, Bool.false_eq_true, if_false]
      exact hasK_at r
theorem HasK.length {H : Hp} : ∀ {kvs : List (Key × V)} {ds : List (D × D)}, HasK H kvs ds → kvs.length = ds.length
  | _, _, .nil => rfl
  | _, _, .cons _ r => by simp [HasK.length r]
/-! ### keys that are tuples -/
theorem keqN {x y : D} {k j : NestedKey} (h : nkD 3 x = some k) (h2 : nkD 3 y = some j) : keqD x y = decide (k = j) := by
  unfold keqD
  rw [h, h2]
theorem atKey_cons {k j : NestedKey} {p : Addr × Value} {xs : List (NestedKey × Addr × Value)} : atKey ((k, p) :: xs) j = if k = j then some p else atKey xs j := by
  unfold atKey
  rw [List.find?_cons]
  by_cases e : k = j
  · simp [e]
  · simp [e]
theorem hasN_at {H : Hp} {x : D} {j : NestedKey} (hj : nkD 3 x = some j) : ∀ {xs : List (NestedKey × Addr × Value)} {ds : List (D × D)}, HasN H xs ds →
    (dAt ds x = none ∧ atKey xs j = none) ∨ ∃ d p v, dAt ds x = some d ∧ atKey xs j = some p ∧ RelV v p.2 ∧ Has H v d
  | _, _, .nil => .inl ⟨rfl, rfl⟩
  | _, _, @HasN.cons _ k b u v y d xs ds h1 h2 h3 h4 r => by
    rw [dAt_cons, keqN h1 hj, atKey_cons]
    by_cases e : k = j
    · simp only [e, decide_true, if_true]
      exact .inr ⟨d, (b, u), v, rfl, rfl, h3, h4⟩
    · simp only [e, decide_false, Bool.false_eq_true, if_false]
      exact hasN_at hj r
/-! ### the slot -/
def slD : Bool → List (D × D) → Sl
  | false, ds => .oth (.dct ds)
  | true, ds => .oth (.dtp ds)
/-- a key of the kind that the dict has -/
def kOk : Bool → D → Bool
  | false, .int _ => true
  | true, .tuple ks => (nkD 3 (.tuple ks)).isSome
  | _, _ => false
def withD {α : Type} (k : Bool → List (D × D) → T α) : Option Sl → T α
  | some (.oth (.dct ds)) => k false ds
  | some (.oth (.dtp ds)) => k true ds
  | _ => .bad
@[simp] theorem withD_k {α : Type} {k : Bool → List (D × D) → T α} {b : Bool} {ds : List (D × D)} : withD k (some (slD b ds)) = k b ds := by
  cases b <;> rfl
def xgetI (b : Bool) (ds : List (D × D)) (x : D) : T D := if kOk b x = true then (match dAt ds x with
  | some d => .ret d
  | none => .bad) else .bad
def xinI (o : Bool → Bool) (b : Bool) (ds : List (D × D)) (x : D) : T D := if kOk b x = true then .ret (.bool (o (dAt ds x).isSome)) else .bad
/-- d[x], x in d, x not in d -/
def eXGet (k : Nat) (f : Env' → T D) : Env' → T D := fun ρ => withD (fun b ds => (f ρ).bind (xgetI b ds)) ρ[k]?
def eXIn (o : Bool → Bool) (k : Nat) (f : Env' → T D) : Env' → T D := fun ρ => withD (fun b ds => (f ρ).bind (xinI o b ds)) ρ[k]?
def xputI (k : Nat) (ρ : Env') (b : Bool) (ds : List (D × D)) (d x : D) : T Fl := if kOk b x = true ∧ ds.length < 1000000 then .ret (.nx (ρ.set k (slD b (dPut ds x d)))) else .bad
/-- d[x] = v -/
def sXPutD (k : Nat) (fi fv : Env' → T D) : Env' → T Fl := fun ρ => withD (fun b ds => (fv ρ).lift ρ fun d => (fi ρ).lift ρ (xputI k ρ b ds d)) ρ[k]?
/-- d = {} -/
def sXNew (b : Bool) (i : Nat) : Env' → T Fl := fun ρ => .ret (.nx (ρ.set i (slD b [])))
@[simp] theorem ev_XGet {k : Nat} {f : Env' → T D} {ρ : Env'} : eXGet k f ρ = withD (fun b ds => (f ρ).bind (xgetI b ds)) ρ[k]? := rfl
@[simp] theorem ev_XIn {o : Bool → Bool} {k : Nat} {f : Env' → T D} {ρ : Env'} : eXIn o k f ρ = withD (fun b ds => (f ρ).bind (xinI o b ds)) ρ[k]? := rfl
@[simp] theorem ev_XPut {k : Nat} {fi fv : Env' → T D} {ρ : Env'} : sXPutD k fi fv ρ = withD (fun b ds => (fv ρ).lift ρ fun d => (fi ρ).lift ρ (xputI k ρ b ds d)) ρ[k]? := rfl
@[simp] theorem ev_XNew {b : Bool} {i : Nat} {ρ : Env'} : sXNew b i ρ = .ret (.nx (ρ.set i (slD b []))) := rfl
/-- what stands for a dict's slot -/
def DOk (H0 H : Hp) (p : Addr) : Bool → List (D × D) → Prop
  | false, ds => ∃ kvs, H p = some (.dK kvs) ∧ HasK H0 kvs ds
  | true, ds => ∃ xs, H p = some (DctN p xs) ∧ HasN H0 xs ds ∧ (p == sysModules) = false
theorem kOk_true {x : D} (h : kOk true x = true) : ∃ ks k, x = .tuple ks ∧ nkD 3 x = some k := by
  cases x with
  | tuple ks =>
    obtain ⟨k, hk⟩ := Option.isSome_iff_exists.mp (show (nkD 3 (.tuple ks)).isSome = true from h)
    exact ⟨ks, k, rfl, hk⟩
  | _ => cases h
theorem kOk_false {x : D} (h : kOk false x = true) : ∃ i, x = .int i := by
  cases x with
  | int i => exact ⟨i, rfl⟩
  | _ => cases h
theorem DOk.has {H0 H : Hp} {p : Addr} {b : Bool} {ds : List (D × D)} {x : D} {v : V} (h : DOk H0 H p b ds) (e : Same H0 H) (hk : kOk b x = true) (hv : Has H0 v x) : XHas H p v (dAt ds x).isSome := by
  cases b with
  | false =>
    obtain ⟨kvs, h1, h2⟩ := h
    obtain ⟨i, rfl⟩ := kOk_false hk
    cases hv
    refine .inl ⟨_, DGet.k (k := .inl i) h1, ?_⟩
    rcases hasK_at (i := i) h2 with ⟨a, b⟩ | ⟨d, v, a, b, _⟩ <;> rw [a, b] <;> rfl
  | true =>
    obtain ⟨xs, h1, h2, h3⟩ := h
    obtain ⟨ks, k, rfl, hk⟩ := kOk_true hk
    obtain ⟨a, rfl⟩ : ∃ a, v = .ref a := by
      cases hv
      exact ⟨_, rfl⟩
    refine .inr ⟨xs, k, a, h1, rfl, .of (hv.mono e) hk, keys_ext h2 e, h3, ?_⟩
    rcases hasN_at hk h2 with ⟨a, b⟩ | ⟨d, p, v, a, b, _⟩ <;> rw [a, b] <;> rfl
theorem DOk.get {H0 H : Hp} {p : Addr} {b : Bool} {ds : List (D × D)} {x d : D} {v : V} (h : DOk H0 H p b ds) (e : Same H0 H) (hk : kOk b x = true) (hv : Has H0 v x) (hd : dAt ds x = some d) : ∃ w, XGet H p v w ∧ Has H0 w d := by
  cases b with
  | false =>
    obtain ⟨kvs, h1, h2⟩ := h
    obtain ⟨i, rfl⟩ := kOk_false hk
    cases hv
    rcases hasK_at (i := i) h2 with ⟨a, _⟩ | ⟨d', w, a, b, hw⟩
    · rw [hd] at a
      cases a
    · rw [hd] at a
      cases a
      exact ⟨w, .inl (by rw [← b]; exact DGet.k (k := .inl i) h1), hw⟩
  | true =>
    obtain ⟨xs, h1, h2, h3⟩ := h
    obtain ⟨ks, k, rfl, hk⟩ := kOk_true hk
    obtain ⟨a, rfl⟩ : ∃ a, v = .ref a := by
      cases hv
      exact ⟨_, rfl⟩
    rcases hasN_at hk h2 with ⟨z, _⟩ | ⟨d', q, w, z, b, rw', hw⟩
    · rw [hd] at z
      cases z
    · rw [hd] at z
      cases z
      exact ⟨w, .inr ⟨xs, k, a, q, h1, rfl, .of (hv.mono e) hk, keys_ext h2 e, b, rw'⟩, hw⟩
end Wb
set_option Elab.async false
set_option linter.all false
set_option maxRecDepth 100000
set_option maxHeartbeats 4000000
/-! Wb, part 82: dict comprehensions whose keys are numbers. -/
namespace Wb
open PySem PySem.Spec PyProof.Rows L2 RZ LamX
/-- a new dict, private so far -/
def OutDc (β : Box) (H0 H : Hp) (Q : VK) (ds : List (D × D)) : Prop := ∀ p H0' H' kvs, Stp β H0 H H0' H' → H p = none → H' p = some (.dK kvs) → H0' p = none → ¬ β.S p → HasK H0' kvs ds → Q (.ref p) H'
theorem OutDc.step {β : Box} {H0 H H0' H' : Hp} {Q : VK} {ds : List (D × D)} (st : Stp β H0 H H0' H') (h : OutDc β H0 H Q ds) : OutDc β H0' H' Q ds := fun p H2 H3 kvs s hn h1 h2 h3 h4 => by
  refine h p H2 H3 kvs (st.trans s) ?_ h1 h2 h3 h4
  cases e : H p with
  | none => rfl
  | some o =>
    exfalso
    cases e0 : H0 p with
    | none =>
      have := (st.priv p o e e0).2 h3
      rw [hn] at this
      cases this
    | some u =>
      have := st.ext p u (st.grow p u e0)
      rw [hn] at this
      cases this
/-! ### n = {.. for ..} -/
/-- n = {.. for ..} -/
def sXDc (i : Nat) (f : Env' → T (List (D × D))) : Env' → T Fl := fun ρ => (f ρ).lift ρ fun ds => .ret (.nx (ρ.set i (slD false ds)))
@[simp] theorem ev_XDc {i : Nat} {f : Env' → T (List (D × D))} {ρ : Env'} : sXDc i f ρ = (f ρ).lift ρ fun ds => .ret (.nx (ρ.set i (slD false ds))) := rfl
end Wb
set_option Elab.async false
set_option linter.all false
set_option maxRecDepth 100000
set_option maxHeartbeats 4000000
/-! Wb, part 83: len(set(xs)) of any ints. -/
namespace Wb
open PySem PySem.Spec PyProof.Rows L2 RZ
end Wb
set_option Elab.async false
set_option linter.all false
set_option maxRecDepth 100000
set_option maxHeartbeats 4000000
/-! Wb, part 84: a, b = e where e is a tuple or a list. -/
namespace Wb
open PySem PySem.Spec PyProof.Rows L2 RZ
def bTupQ (is : List Nat) : D → Env' → Option Env' := fun d ρ => match d with
  | .tuple ds => bNames is ds ρ
  | .list ds => bNames is ds ρ
  | _ => none
@[simp] theorem ev_bTQt {is : List Nat} {ds : List D} {ρ : Env'} : bTupQ is (.tuple ds) ρ = bNames is ds ρ := rfl
@[simp] theorem ev_bTQl {is : List Nat} {ds : List D} {ρ : Env'} : bTupQ is (.list ds) ρ = bNames is ds ρ := rfl
end Wb
set_option Elab.async false
set_option linter.all false
set_option maxRecDepth 100000
set_option maxHeartbeats 4000000
/-! Wb, part 85: return [text, a()]. -/
namespace Wb
open PySem PySem.Spec PyProof.Rows L2 RZ LamX
def eAskL (c : Str) (t : T D) : Env' → T D := fun ρ => (eAsk t ρ).bind fun d => .ret (.list [.str c, d])
@[simp] theorem ev_AskL {c : Str} {t : T D} {ρ : Env'} : eAskL c t (.fn :: ρ) = t.bind fun d => .ret (.list [.str c, d]) := rfl
end Wb
set_option Elab.async false
set_option linter.all false
set_option maxRecDepth 100000
set_option maxHeartbeats 4000000
/-! Wb, part 86: any(t), t a tuple of ints. -/
namespace Wb
open PySem PySem.Spec PyProof.Rows L2
end Wb
set_option Elab.async false
set_option linter.all false
set_option maxRecDepth 100000
set_option maxHeartbeats 4000000
/-! Wb, part 87: for i, (x, y) in enumerate(zip(a, b), start=k). -/
namespace Wb
open PySem PySem.Spec PyProof.Rows L2 RZ
end Wb
set_option Elab.async false
set_option linter.all false
set_option maxRecDepth 100000
set_option maxHeartbeats 4000000
/-! Wb, part 88: a, b = ([..], e), a a list of one's own. -/
namespace Wb
open PySem PySem.Spec PyProof.Rows L2
def sParOL (i j : Nat) (l : Env' → T (List D)) (f : Env' → T D) : Env' → T Fl := fun ρ => (l ρ).lift ρ fun ds => (f ρ).lift ρ fun d => .ret (.nx ((ρ.set i (.own ds)).set j (.d d)))
@[simp] theorem ev_ParOL {i j : Nat} {f : Env' → T D} {l : Env' → T (List D)} {ρ : Env'} : sParOL i j l f ρ = (l ρ).lift ρ fun ds => (f ρ).lift ρ fun d => .ret (.nx ((ρ.set i (.own ds)).set j (.d d))) := rfl
end Wb
set_option Elab.async false
set_option linter.all false
set_option maxRecDepth 100000
set_option maxHeartbeats 4000000
/-! Wb, part 89: (a, b), (c, d) = e. -/
namespace Wb
open PySem PySem.Spec PyProof.Rows L2
end Wb
set_option Elab.async false
set_option linter.all false
set_option maxRecDepth 100000
set_option maxHeartbeats 4000000
/-! Wb, part 90: a def gets the error that is handled (asks its class, reads its fields), called in the except suite. -/
namespace Wb
open PySem PySem.Spec PyProof.Rows L2
/-- what such a def promises -/
structure FnX (P : Program) (w : World) (K : PySem.W.Frag) (mg : Str → Option Value) (base : Heap) (cad : Cad) (k : Nat) (f : Addr) (fd : FuncData) (p0 : Str) (m : Exn → T D) : Prop where
  go : ∀ (A : Around) (outer : List Env) (s : Shared) (H : Hp) (args : Args) (a : Addr) (oe : Obj) (cls : Value) (dx : Option Addr) (x : Exn) (β : Box) (H0 : Hp) (Q : VK),
    L2H.RoomH k A → Env0 P w K mg base A outer s H → BindsTo s fd args ([p0].zip [Value.ref a]) → L2H.PinOk outer H s (a, oe) → Zc cls dx oe → (∃ vs, oe.data = .fields vs) →
    Same H0 H → β.ok H → (∀ b, β.S b → H0 b = none) → cad.bx β → ExcIs cad x cls dx H0 → (m x).wp (Out β H0 H Q) noE →
    codeAny (model P w) A (.call (.ref f) args) (CR (L2.CX P w) outer P w H s Q fun _ _ _ => False) s
/-- the body's context -/
abbrev hotX (P : Program) (w : World) (K : PySem.W.Frag) (mg : Str → Option Value) (base : Heap) (N : List Str) (qual : Str) (st : Stmt) (f : Addr) (cdv : Value) (A : Around) (outer : List Env) (s : Shared) (H : Hp) (p : Addr × Obj) : Cx :=
  L2H.cxH (L2.CX P w) P w K mg base N qual (defScope st) f cdv A outer s H (fun _ _ _ => False) p
abbrev hotC (cad : Cad) (a : Addr) (cls : Value) (dx : Option Addr) : Ct := ⟨cad, some (a, cls, dx), fun _ _ _ _ => False, fun _ _ _ => True⟩
theorem ex_start {cad : Cad} {β : Box} {H0 H : Hp} {N : List Str} {a : Addr} {cls : Value} {dx : Option Addr} {x : Exn} (hN : 0 < N.length) (e : Same H0 H) (ok : β.ok H) (bf : ∀ b, β.S b → H0 b = none) (tb : cad.bx β) (he : ExcIs cad x cls dx H0) :
    Rel cad β (some (a, cls, dx)) H0 ([Sl.ex x] ++ List.replicate (N.length - 1) .no) (L2.start N [.ref a]) H := by
  have es : L2.start N [.ref a] = some (.ref a) :: List.replicate (N.length - 1) none := by
    unfold L2.start
    obtain ⟨n, hn⟩ : ∃ n, N.length = n + 1 := ⟨N.length - 1, by omega⟩
    simp [hn]
  rw [es]
  refine ⟨e, by simp, fun i sl o ha hb => ?_, fun i _ xs _ p _ _ ha _ _ _ _ f _ => ?_, ok, bf, tb⟩
  · match i, ha, hb with
    | 0, ha, hb =>
      cases ha
      cases hb
      exact ⟨a, cls, dx, rfl, rfl, he⟩
    | i + 1, ha, hb =>
      have ha' : (List.replicate (N.length - 1) Sl.no)[i]? = some sl := ha
      rw [List.getElem?_replicate] at ha'
      split at ha'
      · cases ha'
        trivial
      · cases ha'
  · match i, ha with
    | 0, ha =>
      cases ha
      exact f.elim
    | i + 1, ha =>
      have ha' : (List.replicate (N.length - 1) Sl.no)[i]? = some xs := ha
      rw [List.getElem?_replicate] at ha'
      split at ha' <;> cases ha'
      exact f.elim
section
variable {P : Program} {w : World} {K : PySem.W.Frag} {mg : Str → Option Value} {base : Heap}
theorem FnX.of {cad : Cad} {x qual p0 : Str} {st : Stmt} {f : Addr} {fd : FuncData} {N : List Str} {k : Nat} {F : Env' → T Fl} (Fu : Fun K x qual st f fd) (S : FnScope N [p0] (defScope st)) (hN : 0 < N.length)
    (hbody : ∀ (cdv : Value) (A : Around) (outer : List Env) (s : Shared) (H : Hp) (a : Addr) (oe : Obj) (cls : Value) (dx : Option Addr), Zc cls dx oe → (∃ vs, oe.data = .fields vs) → L2H.RoomH k (A.deeper (envOfC qual (defScope st) s.heap.objs.size f cdv)) →
      PSs (hotX P w K mg base N qual st f cdv A outer s H (a, oe)) (defBody st) (tS (hotC cad a cls dx) F)) :
    FnX P w K mg base cad (k + 1) f fd p0 fun y => (F ([.ex y] ++ List.replicate (N.length - 1) .no)).run := by
  obtain ⟨oc, od, kV, doc, pm, an, cdv, ct, osl, rfl, lk, hcd⟩ := Fu.ex
  constructor
  intro A outer s H args a oe cls dx y β H0 Q room e0 hbind hpin hz hf se ok bf tb he hq
  have hK : K.In s.heap := e0.mod.kin.keeps (fun b o z => (e0.bs b o z).1)
  have noLim : s.heap.NoLimit := e0.mod.nolimit.keeps (fun b o z => (e0.bs b o z).1)
  have kinds : ∀ z ∈ [p0].zip [Value.ref a], (defScope st).names.lookup z.1 = some .local ∨
      ((defScope st).names.lookup z.1 = some .cell ∧ ((cellsFrom (s.heap.objs.size + 1) (defScope st).names []).lookup z.1).isSome = true) := by
    rintro ⟨n, v⟩ hy
    have hn := (List.of_mem_zip hy).1
    cases S.par n hn with
    | inl q => exact Or.inl q
    | inr q => exact Or.inr ⟨q, PySem.W.cellsFrom_some _ _ _ (Or.inl q)⟩
  apply codeAny_call_function room.depth (hK _ _ lk) rfl S.co S.gen rfl (PySem.W.codeRec_of hK hcd)
  apply hbind
  apply wpAny_newFunctionEnv_cells S.kind kinds
  intro env henv s1 born
  subst henv
  refine ⟨noLim.keeps born.toInCall.keep, codeAny_func ?_⟩
  have ht := hbody cdv A outer s H a oe cls dx hz hf (room.deeper _)
  have I0 := L2H.inv_startH (CX := L2.CX P w) (K := K) (E := fun _ _ _ => False) (vs := [V.ref a]) S hpin e0 rfl (.cons rfl .nil) born
  have start : tS (hotC cad a cls dx) F { nx := fun _ H' => Q .non H', rt := Q } (start N [V.ref a]) H := by
    refine ⟨β, H0, H, H0, H0, _, ⟨ex_start hN se ok bf tb he, Stp.refl se ok bf, fun _ _ z => z, trivial, fun i xs p' _ ha _ g => ?_⟩, T.wp_mono (fun fl z => ?_) (fun x z => z) _ ((T.wp_run _).mp hq)⟩
    · match i, ha with
      | 0, ha =>
        cases ha
        exact g.elim
      | i + 1, ha =>
        have ha' : (List.replicate (N.length - 1) Sl.no)[i]? = some xs := ha
        rw [List.getElem?_replicate] at ha'
        split at ha' <;> cases ha'
        exact g.elim
    · cases fl with
      | nx ρ' => exact fun σ' H0' H' r => z .non H0' H' r.st .non
      | ret d => exact z
      | exc y ρ' => exact z.elim
      | brk _ => exact z.elim
      | cnt _ => exact z.elim
  have done := ht.run [] s1 (L2.start N [V.ref a]) H _ I0 start
  refine wpAny_mono done (fun fl s' res => ?_) (fun e s' res => res)
  cases fl with
  | next =>
    obtain ⟨σ', H', J, q⟩ := res
    exact ⟨V.non, H', J.os, J.bare, J.base, J.hok, rfl, q⟩
  | ret u =>
    obtain ⟨v, σ', H', J, rv, q⟩ := res
    exact ⟨v, H', J.os, J.bare, J.base, J.hok, rv, q⟩
  | brk => exact res.elim fun _ z => z.elim fun _ z => z.2.elim
  | cont => exact res.elim fun _ z => z.elim fun _ z => z.2.elim
end
def hotK (m : Exn → T D) : Option Sl → T D
  | some (.ex x) => (m x).quiet
  | _ => .bad
/-- f(e), e the error that is handled -/
def eHot (i : Nat) (m : Exn → T D) : Env' → T D := fun ρ => hotK m ρ[i]?
end Wb
set_option Elab.async false
set_option linter.all false
set_option maxRecDepth 100000
set_option maxHeartbeats 4000000
/-! Wb, part 91: isinstance of an error that stands in the context, whoever handles it. -/
namespace Wb
open PySem PySem.Spec PyProof.Rows L2
@[simp] theorem hot_S {i : Nat} {m : Exn → T D} {s : Sl} {r : Env'} : eHot (i + 1) m (s :: r) = eHot i m r := rfl
@[simp] theorem hot_0 {m : Exn → T D} {x : Exn} {r : Env'} : eHot 0 m (.ex x :: r) = (m x).quiet := rfl
end Wb
set_option Elab.async false
set_option linter.all false
set_option maxRecDepth 100000
set_option maxHeartbeats 4000000
/-! Wb, part 92: beside the draws' dict the tables are known. -/
namespace Wb
open PySem PySem.Spec PyProof.Rows L2 RZ LamX
end Wb
set_option Elab.async false
set_option linter.all false
set_option maxRecDepth 100000
set_option maxHeartbeats 4000000
/-! Wb, part 93: list(range(a, b)); a field of an error that stands in the context; x, y, z = a, [..], b with y a list of one's own. -/
namespace Wb
open PySem PySem.Spec PyProof.Rows L2
/-! ### list(range(a, b)) -/
def oListRg2 : D → D → T D
  | .int a, .int b => if -1000000 ≤ a ∧ a ≤ 1000000 ∧ -1000000 ≤ b ∧ b ≤ 1000000 then .ret (.list (rangeD a (b - a).toNat)) else .bad
  | _, _ => .bad
section
variable {X : Cx} {g : Ct} {a b : Expr} {f h : Env' → T D} {pos : Pos}
@[simp] theorem oListRg2_i {n m : Int} : oListRg2 (.int n) (.int m) = if -1000000 ≤ n ∧ n ≤ 1000000 ∧ -1000000 ≤ m ∧ m ≤ 1000000 then .ret (.list (rangeD n (m - n).toNat)) else .bad := rfl
end
/-! ### a field of the error -/
/-! ### x, y, z = a, [..], b -/
def sPar3M (i j k : Nat) (f : Env' → T D) (l : Env' → T (List D)) (h : Env' → T D) : Env' → T Fl := fun ρ => (f ρ).lift ρ fun d => (l ρ).lift ρ fun ds => (h ρ).lift ρ fun e => .ret (.nx (((ρ.set i (.d d)).set j (.own ds)).set k (.d e)))
@[simp] theorem ev_Par3M {i j k : Nat} {f h : Env' → T D} {l : Env' → T (List D)} {ρ : Env'} : sPar3M i j k f l h ρ = (f ρ).lift ρ fun d => (l ρ).lift ρ fun ds => (h ρ).lift ρ fun e => .ret (.nx (((ρ.set i (.d d)).set j (.own ds)).set k (.d e))) := rfl
end Wb
set_option Elab.async false
set_option linter.all false
set_option maxRecDepth 100000
set_option maxHeartbeats 4000000
/-! Wb, part 94: x, y, z = a, [..], b by a tuple (a name that a comprehension looks at is a cell), y a list of one's own. -/
namespace Wb
open PySem PySem.Spec PyProof.Rows L2
end Wb
set_option Elab.async false
set_option linter.all false
set_option maxRecDepth 100000
set_option maxHeartbeats 4000000
/-! Wb, part 95: d.get(k, e) of a known dict; x, y, z = [..], a, b with x a list of one's own. -/
namespace Wb
open PySem PySem.Spec PyProof.Rows L2
/-! ### d.get(k, e) -/
def getO (kvs : List (D × D)) (y z : D) : T D := match keyOf y with
  | some k => .ret ((lookK kvs k).getD z)
  | none => .bad
def getD2 (h k : Env' → T D) (ρ : Env') : D → T D
  | .dict kvs => (h ρ).bind fun y => (k ρ).bind fun z => getO kvs y z
  | _ => .bad
def eDGet2 (f h k : Env' → T D) : Env' → T D := fun ρ => (f ρ).bind (getD2 h k ρ)
@[simp] theorem ev_DGet2 {f h k : Env' → T D} {ρ : Env'} : eDGet2 f h k ρ = (f ρ).bind (getD2 h k ρ) := rfl
@[simp] theorem getD2_dict {h k : Env' → T D} {ρ : Env'} {kvs : List (D × D)} : getD2 h k ρ (.dict kvs) = (h ρ).bind fun y => (k ρ).bind fun z => getO kvs y z := rfl
/-! ### x, y, z = [..], a, b -/
def sPar3F (i j k : Nat) (l : Env' → T (List D)) (f h : Env' → T D) : Env' → T Fl := fun ρ => (l ρ).lift ρ fun ds => (f ρ).lift ρ fun d => (h ρ).lift ρ fun e => .ret (.nx (((ρ.set i (.own ds)).set j (.d d)).set k (.d e)))
@[simp] theorem ev_Par3F {i j k : Nat} {f h : Env' → T D} {l : Env' → T (List D)} {ρ : Env'} : sPar3F i j k l f h ρ = (l ρ).lift ρ fun ds => (f ρ).lift ρ fun d => (h ρ).lift ρ fun e => .ret (.nx (((ρ.set i (.own ds)).set j (.d d)).set k (.d e))) := rfl
end Wb
set_option Elab.async false
set_option linter.all false
namespace L2H
open PySem PySem.Spec PyProof.Rows L2 HotX
/-- room for marks beside a handled error -/
theorem RoomH.units {k : Nat} {A : Around} (r : RoomH k A) : A.units + 64 < cLine := by have := r.un; omega
end L2H
set_option Elab.async false
set_option linter.all false
set_option maxRecDepth 100000
set_option maxHeartbeats 4000000
/-! Wb, part 97: x[::e] of a tuple, e being 1 or -1. -/
namespace Wb
open PySem PySem.Spec PyProof.Rows L2 HT
def oStep (x : D) (o : Option Int) : T D := match x, o with
  | .tuple xs, some i => if i = 1 then .ret (.tuple xs) else if i = -1 then .ret (.tuple xs.reverse) else .bad
  | _, _ => .bad
def eStep (f h : Env' → T D) : Env' → T D := fun ρ => (f ρ).bind fun x => (pSome h ρ).bind fun o => oStep x o
@[simp] theorem ev_step {f h : Env' → T D} {ρ : Env'} : eStep f h ρ = (f ρ).bind fun x => (pSome h ρ).bind fun o => oStep x o := rfl
end Wb
set_option Elab.async false
set_option linter.all false
set_option maxRecDepth 100000
set_option maxHeartbeats 4000000
/-! Wb, part 98: a dict of one's own with int keys is data from here on. -/
namespace Wb
open PySem PySem.Spec PyProof.Rows L2
section
variable {X : Cx} {g : Ct} {sts : List Stmt} {F : Env' → T Fl}
def frDK (i : Nat) (F : Env' → T Fl) (ρ : Env') : Option Sl → T Fl
  | some (.oth (.dct ds)) => F (ρ.set i (.d (.dict ds)))
  | _ => F ρ
def sFrzX (i : Nat) (F : Env' → T Fl) : Env' → T Fl := fun ρ => frDK i F ρ ρ[i]?
@[simp] theorem ev_FrzX {i : Nat} {ρ : Env'} : sFrzX i F ρ = frDK i F ρ ρ[i]? := rfl
@[simp] theorem frDK_dct {i : Nat} {ρ : Env'} {ds : List (D × D)} : frDK i F ρ (some (slD false ds)) = F (ρ.set i (.d (.dict ds))) := rfl
end
end Wb
set_option Elab.async false
set_option linter.all false
set_option maxRecDepth 100000
set_option maxHeartbeats 4000000
/-! Wb, part 99: x, y = [..], e by a tuple (a name is a cell), x a list of one's own. -/
namespace Wb
open PySem PySem.Spec PyProof.Rows L2
end Wb
set_option Elab.async false
set_option linter.all false
set_option maxRecDepth 100000
set_option maxHeartbeats 4000000
/-! Wb, part 100: closed calls by the kernel; errors with two fields. -/
namespace Wb
open PySem PySem.Spec PyProof.Rows L2
/-! ### what a closed call gives, told by the kernel -/
def eqL (f : D → D → Bool) : List D → List D → Bool
  | [], [] => true
  | x :: xs, y :: ys => f x y && eqL f xs ys
  | _, _ => false
def eqF : Nat → D → D → Bool
  | 0, _, _ => false
  | _ + 1, .int a, .int b => decide (a = b)
  | _ + 1, .str a, .str b => decide (a = b)
  | _ + 1, .bool a, .bool b => decide (a = b)
  | _ + 1, .none, .none => true
  | n + 1, .tuple xs, .tuple ys => eqL (eqF n) xs ys
  | n + 1, .list xs, .list ys => eqL (eqF n) xs ys
  | _ + 1, _, _ => false
theorem eqL_eq {f : D → D → Bool} (h : ∀ x y, f x y = true → x = y) : ∀ xs ys, eqL f xs ys = true → xs = ys
  | [], [], _ => rfl
  | x :: xs, y :: ys, e => by
    unfold eqL at e
    rw [Bool.and_eq_true] at e
    rw [h x y e.1, eqL_eq h xs ys e.2]
  | [], _ :: _, e => by cases e
  | _ :: _, [], e => by cases e
theorem eqF_eq : ∀ (n : Nat) (x y : D), eqF n x y = true → x = y
  | 0, _, _, h => by cases h
  | n + 1, x, y, h => by
    unfold eqF at h
    split at h
    all_goals first
      | rfl
      | (rw [of_decide_eq_true h])
      | (next he => obtain rfl := Nat.succ.inj he; rw [eqL_eq (eqF_eq n) _ _ h])
      | (cases h)
def retB (n : Nat) (m : T D) (d : D) : Bool := match m with
  | .ret x => eqF n x d
  | _ => false
theorem retB_eq {n : Nat} {m : T D} {d : D} (h : retB n m d = true) : m = .ret d := by
  unfold retB at h
  split at h
  · rw [eqF_eq _ _ _ h]
  · cases h
/-! ### an error class with two fields -/
def sRaise2 (c f1 f2 : Str) (a b : Env' → T D) : Env' → T Fl := fun ρ => (a ρ).lift ρ fun x => (b ρ).lift ρ fun y => .ret (.exc ⟨c, [(f2, y), (f1, x)]⟩ ρ)
@[simp] theorem ev_Raise2 {c f1 f2 : Str} {a b : Env' → T D} {ρ : Env'} : sRaise2 c f1 f2 a b ρ = (a ρ).lift ρ fun x => (b ρ).lift ρ fun y => .ret (.exc ⟨c, [(f2, y), (f1, x)]⟩ ρ) := rfl
end Wb
set_option Elab.async false
set_option linter.all false
set_option maxRecDepth 100000
set_option maxHeartbeats 4000000
/-! Wb, part 101: a text of numbers, words and tuples tells what it is the text of. -/
namespace Wb
namespace Rp
open PySem PySem.Spec PyProof.Rows L2 Wb
/-- the code points of a text -/
def cl (s : Str) : List Nat := s.cps.toList
/-! ### words -/
def word (z : Str) : Bool := (cl z).all fun c => decide (97 ≤ c) && decide (c ≤ 122)
/-! ### all values -/
end Rp
end Wb
set_option Elab.async false
set_option linter.all false
set_option maxRecDepth 100000
set_option maxHeartbeats 4000000
/-! Wb, part 102: a loop that puts one value to a list of one's own at each turn; comprehensions of two clauses, rows by rows. -/
namespace Wb
open PySem PySem.Spec PyProof.Rows L2
end Wb
set_option Elab.async false
set_option linter.all false
set_option maxRecDepth 100000
set_option maxHeartbeats 4000000
/-! Wb, part 103: == of plain data (numbers, words, tuples of them). -/
namespace Wb
open PySem PySem.Spec PyProof.Rows L2
end Wb
set_option Elab.async false
set_option linter.all false
set_option maxRecDepth 100000
set_option maxHeartbeats 4000000
/-! Wb, part 104: texts: join, split, startswith, str(int), int(text), f-strings, the signs of a text. -/
namespace Wb
open PySem PySem.Spec PyProof.Rows L2
/-! ### methods of a text with one argument -/
def kS (o : Str → D → T D) (h : Env' → T D) (ρ : Env') : D → T D
  | .str z => (h ρ).bind fun y => o z y
  | _ => .bad
def eSM (o : Str → D → T D) (f h : Env' → T D) : Env' → T D := fun ρ => (f ρ).bind (kS o h ρ)
@[simp] theorem ev_SM {o : Str → D → T D} {f h : Env' → T D} {ρ : Env'} : eSM o f h ρ = (f ρ).bind (kS o h ρ) := rfl
@[simp] theorem kS_str {o : Str → D → T D} {h : Env' → T D} {ρ : Env'} {z : Str} : kS o h ρ (.str z) = (h ρ).bind fun y => o z y := rfl
def MeD (r : V → List V → Hp → VK → Prop) (o : Str → D → T D) : Prop := ∀ {β : Box} {H0 H : Hp} {w : V} {z : Str} {y : D} {Q : VK} {E : Exn → Prop}, Same H0 H → β.ok H → (∀ a, β.S a → H0 a = none) → Has H0 w y → (o z y).wp (Out β H0 H Q) E → r (.str z) [w] H Q
theorem r_sm {X : Cx} {g : Ct} {f h : Env' → T D} {a e : Expr} {apos pos : Pos} {name id : String} {r : V → List V → Hp → VK → Prop} {o : Str → D → T D} (slot : Slot "str" name id) (hty : typeOf (.builtin id) = pure (.type "method_descriptor")) (hm : MtR X id r) (hd : MeD r o)
    (ha : PE X a (tE g f)) (hb : PE X e (tE g h)) (hbase : attributeBase a name X.env (eval a X.env) = eval a X.env := by rfl)
    (hfew : ((backTo pos (starEach [e] X.env)).all (fun x => !x.1) && (backToKw pos (keywordEach [] X.env)).all (fun x => x.1.isSome)
      && decide ([e].length + ([] : List Keyword).length + (if ([] : List Keyword).isEmpty then 0 else 1) < 30)) = true := by rfl)
    (hline : (apos.endLine == pos.line) = true := by rfl) (hs : starEach [e] X.env = (false, eval e X.env) :: starEach [] X.env := by rfl) (hplain : (backTo pos (starEach [] X.env)).any (·.1) = false := by rfl) :
    PE X (.Call (.Attribute a name apos) [e] [] pos) (tE g (eSM o f h)) :=
  (pe_bm PySem.F.plainAttrs_str slot hty hm ha (pa_cons hb pa_nil hs) hbase hfew hline hs hplain).imp fun σ H Q ⟨β, H0, ρ, rr, q⟩ => tE_then rr q fun d v H1 H2 st hv q1 => by
    have rr1 := rr.step st
    cases hv with
    | str z =>
      refine ⟨?_, ?_⟩
      · first | exact ⟨_, rfl⟩ | exact .inr ⟨rfl, _, rfl⟩ | exact .inl ⟨rfl, _, rfl⟩ | trivial
      · refine tE_then rr1 (wp_out st q1) fun d' v' H3 H4 st2 hv' q2 => ?_
        exact hd st2.ext st2.ok st2.boxf hv' (wp_out st2 q2)
    | _ => exact q1.elim
/-! ### lists of texts -/
def strsOf : List D → Option (List Str)
  | [] => some []
  | .str x :: r => (strsOf r).map (x :: ·)
  | _ => none
theorem strsOf_map : ∀ ys : List Str, strsOf (ys.map PyData.str) = some ys
  | [] => rfl
  | y :: ys => by
    rw [List.map_cons]
    unfold strsOf
    rw [strsOf_map ys]
    rfl
theorem strsOf_eq : ∀ {ds : List D} {ys : List Str}, strsOf ds = some ys → ds = ys.map PyData.str
  | [], ys, h => by
    cases h
    rfl
  | d :: ds, ys, h => by
    unfold strsOf at h
    split at h
    · next heq => cases heq
    · next x r heq =>
      injection heq with e1 e2
      subst e1 e2
      cases q : strsOf ds with
      | none =>
        rw [q] at h
        cases h
      | some zs =>
        rw [q] at h
        cases h
        rw [strsOf_eq q]
        rfl
    · cases h
theorem has_strs {H : Hp} : ∀ {ys : List Str} {vs : List V}, HasL H vs (ys.map PyData.str) → vs = ys.map V.str
  | [], _, h => by
    cases h
    rfl
  | y :: ys, _, h => by
    rw [List.map_cons] at h
    cases h with
    | cons h1 h2 =>
      cases h1
      rw [has_strs h2]
      rfl
theorem strs_has {H : Hp} : ∀ ys : List Str, HasL H (ys.map V.str) (ys.map PyData.str)
  | [] => .nil
  | y :: ys => .cons (.str y) (strs_has ys)
/-! ### sep.join(..) -/
def joinI (z : Str) (ds : List D) : T D := match strsOf ds with
  | some ys => if (ys.map (·.length)).sum + ys.length * z.length ≤ 16777216 then .ret (.str (Txt.join z ys)) else .bad
  | none => .bad
def oJoinS (z : Str) : D → T D
  | .list ds => joinI z ds
  | .tuple ds => joinI z ds
  | _ => .bad
theorem joinI_at {z : Str} {ys : List Str} (h : (ys.map (·.length)).sum + ys.length * z.length ≤ 16777216) : joinI z (ys.map PyData.str) = .ret (.str (Txt.join z ys)) := by
  unfold joinI
  rw [strsOf_map]
  exact if_pos h
theorem m_join {K : PySem.W.Frag} : MeD (fun x xs H Q => ∃ a p, ∃ ys : List Str, x = .str a ∧ xs = [.ref p] ∧ (SqL K H p (ys.map V.str) ∨ SqT K H p (ys.map V.str)) ∧ (ys.map (·.length)).sum + ys.length * a.length ≤ 16777216 ∧ Q (.str (Txt.join a ys)) H) oJoinS := by
  intro β H0 H w z y Q E e ok bf hw q
  have key : ∀ ds : List D, (joinI z ds).wp (Out β H0 H Q) E → ∃ ys : List Str, ds = ys.map PyData.str ∧ (ys.map (·.length)).sum + ys.length * z.length ≤ 16777216 ∧ Q (.str (Txt.join z ys)) H := fun ds q => by
    unfold joinI at q
    split at q
    · next ys hy =>
      split at q
      · next c => exact ⟨ys, strsOf_eq hy, c, out_ret e ok bf (.str _) q⟩
      · exact q.elim
    · exact q.elim
  cases hw with
  | lst h1 h2 =>
    obtain ⟨ys, rfl, c, q2⟩ := key _ q
    rw [has_strs h2] at h1
    exact ⟨z, _, ys, rfl, rfl, .inl (SqL.of (e _ _ h1)), c, q2⟩
  | tup h1 hdn h2 =>
    obtain ⟨ys, rfl, c, q2⟩ := key _ q
    rw [has_strs h2] at h1
    exact ⟨z, _, ys, rfl, rfl, .inr (sqF (e _ _ h1)), c, q2⟩
  | _ => exact q.elim
/-! ### text.split(sep), text.startswith(..) -/
def oSplitS (z : Str) : D → T D
  | .str b => if z.length ≤ 10000000 ∧ (b.length == 0) = false then .ret (.list ((Txt.split z b).map PyData.str)) else .bad
  | _ => .bad
theorem m_split : MeD (fun x xs H Q => ∃ a b, x = .str a ∧ xs = [.str b] ∧ (b.length == 0) = false ∧ a.length + 2 ≤ sizeLine ∧ rNewStrs (Txt.split a b) H Q) oSplitS := by
  intro β H0 H w z y Q E e ok bf hw q
  cases hw with
  | str b =>
    have q : (if z.length ≤ 10000000 ∧ (b.length == 0) = false then T.ret (PyData.list ((Txt.split z b).map PyData.str)) else .bad).wp (Out β H0 H Q) E := q
    split at q
    · next c =>
      refine ⟨z, b, rfl, rfl, c.2, ?_, fun p hp => ?_⟩
      · rw [sizeLine_eq]
        have := c.1
        omega
      · have hp0 : H0 p = none := e.free hp
        exact q (.ref p) _ _ (Stp.new e ok bf hp) (.lst upd_same (upd_has hp0 (strs_has _)))
    · exact q.elim
  | _ => exact q.elim
def oStartS (z : Str) : D → T D
  | .str b => .ret (.bool (Txt.startswith z b))
  | _ => .bad
theorem m_starts : MeD (fun x xs H Q => ∃ a b, x = .str a ∧ xs = [.str b] ∧ Q (.bl (Txt.startswith a b)) H) oStartS := by
  intro β H0 H w z y Q E e ok bf hw q
  cases hw with
  | str b => exact ⟨z, b, rfl, rfl, out_ret e ok bf (.bl _) q⟩
  | _ => exact q.elim
@[simp] theorem oSplitS_str {z b : Str} : oSplitS z (.str b) = if z.length ≤ 10000000 ∧ (b.length == 0) = false then .ret (.list ((Txt.split z b).map PyData.str)) else .bad := rfl
@[simp] theorem oStartS_str {z b : Str} : oStartS z (.str b) = .ret (.bool (Txt.startswith z b)) := rfl
@[simp] theorem oJoinS_list {z : Str} {ds : List D} : oJoinS z (.list ds) = joinI z ds := rfl
/-! ### str(n), int(text), len(text) -/
def oStrI : D → T D
  | .int i => if i.natAbs.log2 < 1920 then .ret (.str (toString i)) else .bad
  | _ => .bad
theorem d_strI : CaD (fun xs H Q => ∃ i : Int, xs = [.int i] ∧ i.natAbs.log2 < 1920 ∧ Q (.str (toString i)) H) (o1 oStrI) := by
  apply d_1
  intro β H0 H v x Q E e ok bf hv q
  cases hv with
  | int i =>
    have q : (if i.natAbs.log2 < 1920 then T.ret (PyData.str (toString i)) else .bad).wp (Out β H0 H Q) E := q
    split at q
    · next c => exact ⟨i, rfl, c, out_ret e ok bf (.str _) q⟩
    · exact q.elim
  | _ => exact q.elim
theorem oStrI_at {i : Int} (h : i.natAbs < 10 ^ 50) : oStrI (.int i) = .ret (.str (toString i)) := by
  refine if_pos ?_
  by_cases z : i.natAbs = 0
  · rw [z]
    decide
  · exact Nat.lt_of_lt_of_le ((Nat.log2_lt z).mpr (Nat.lt_of_lt_of_le h (by decide +kernel : 10 ^ 50 ≤ 2 ^ 200))) (by decide)
def oIntT : D → T D
  | .str z => match PySem.intText? z with
    | some n => if z.length ≤ 640 then .ret (.int n) else .bad
    | none => .bad
  | _ => .bad
theorem d_intT : CaD (fun xs H Q => ∃ a n, xs = [.str a] ∧ PySem.intText? a = some n ∧ a.length ≤ 640 ∧ Q (.int n) H) (o1 oIntT) := by
  apply d_1
  intro β H0 H v x Q E e ok bf hv q
  cases hv with
  | str z =>
    have q : (match PySem.intText? z with
      | some n => if z.length ≤ 640 then T.ret (PyData.int n) else .bad
      | none => .bad).wp (Out β H0 H Q) E := q
    split at q
    · next n hn =>
      split at q
      · next c => exact ⟨z, n, rfl, hn, c, out_ret e ok bf (.int _) q⟩
      · exact q.elim
    · exact q.elim
  | _ => exact q.elim
/-! ### one sign of a text within another text -/
def oInSign (x y : D) : T D := match x, y with
  | .str a, .str b => match a.cps.toList with
    | [c] => .ret (.bool (decide (c ∈ b.cps.toList)))
    | _ => .bad
  | _, _ => .bad
theorem d_inSign : OpD (fun x y H Q => ∃ (c : Nat) (z : Str), x = .str ⟨#[c]⟩ ∧ y = .str z ∧ Q (.bl (decide (c ∈ z.cps.toList))) H) oInSign := by
  intro β H0 H v w x y Q E e ok bf hv hw q
  cases hv with
  | str a =>
    cases hw with
    | str b =>
      have q : (match a.cps.toList with
        | [c] => T.ret (PyData.bool (decide (c ∈ b.cps.toList)))
        | _ => .bad).wp (Out β H0 H Q) E := q
      split at q
      · next c hc =>
        have ea : a = ⟨#[c]⟩ := by
          cases a with
          | mk cps =>
            congr 1
            exact Array.toList_inj.mp hc
        rw [ea]
        exact ⟨c, b, rfl, rfl, out_ret e ok bf (.bl _) q⟩
      · exact q.elim
    | _ => exact q.elim
  | _ => exact q.elim
/-! ### a text, sign by sign -/
def signsD (z : Str) : List D := z.cps.toList.map fun c => .str ⟨#[c]⟩
def strIt : D → T (List D)
  | .str z => .ret (signsD z)
  | _ => .bad
def iStrE (f : Env' → T D) : Env' → T (List D) := fun ρ => (f ρ).bind strIt
@[simp] theorem ev_iStrE {f : Env' → T D} {ρ : Env'} : iStrE f ρ = (f ρ).bind strIt := rfl
@[simp] theorem strIt_str {z : Str} : strIt (.str z) = .ret (signsD z) := rfl
theorem gives_str {H0 : Hp} {z : Str} : Gives (Its z) (signsD z) H0 := by
  have hl : (signsD z).length = z.cps.size := by simp [signsD]
  refine ⟨fun _ => True, fun i H v H' => H' = H ∧ ∃ c, z.cps[i]? = some c ∧ v = .str ⟨#[c]⟩, by rw [hl]; exact walk_str, fun _ _ => trivial, fun i H1 x H2 d H0' hd _ _ y => .inl ⟨y.1, ?_⟩⟩
  obtain ⟨c, hc, rfl⟩ := y.2
  have e2 : (signsD z)[i]? = some (.str ⟨#[c]⟩) := by
    unfold signsD
    rw [List.getElem?_map, Array.getElem?_toList, hc]
    rfl
  rw [hd] at e2
  cases e2
  exact .str _
theorem i_str {X : Cx} {g : Ct} {tg a : Expr} {f : Env' → T D} (ha : PE X a (tE g f)) : PI X tg a (tI g (iStrE f)) := (pi_str ha).imp fun σ H R ⟨β, H0, ρ, rr, q⟩ => tE_then rr q fun d v H1 H2 st hv q1 => by
  cases hv with
  | str z => exact ⟨z, rfl, q1 _ _ _ st gives_str⟩
  | _ => exact q1.elim
/-! ### f-strings -/
def oFmt : D → T D
  | .str y => if y.length ≤ 10000000 then .ret (.str y) else .bad
  | .int i => if i.natAbs.log2 < 1920 then .ret (.str (toString i)) else .bad
  | _ => .bad
theorem r_fmt {X : Cx} {g : Ct} {e : Expr} {f : Env' → T D} {pos : Pos} (he : PE X e (tE g f)) : PE X (.FormattedValue e (-1) none pos) (tE g (eUn oFmt f)) := (pe_fmt he).imp fun σ H Q ⟨β, H0, ρ, rr, q⟩ => tE_then rr q fun d v H1 H2 st hv q1 => by
  cases hv with
  | str y =>
    have q1 : (if y.length ≤ 10000000 then T.ret (PyData.str y) else .bad).wp (Out β H0 H Q) (g.X β H0 H σ) := q1
    split at q1
    · next c => exact .inl ⟨y, rfl, Nat.le_trans c (by decide), q1 (.str y) _ _ st (.str y)⟩
    · exact q1.elim
  | int i =>
    have q1 : (if i.natAbs.log2 < 1920 then T.ret (PyData.str (toString i)) else .bad).wp (Out β H0 H Q) (g.X β H0 H σ) := q1
    split at q1
    · next c => exact .inr ⟨i, rfl, c, q1 (.str (toString i)) _ _ st (.str _)⟩
    · exact q1.elim
  | _ => exact q1.elim
def jF : List (Env' → T D) → Str → Env' → T D
  | [], acc, _ => .ret (.str acc)
  | f :: fs, acc, ρ => (f ρ).bind fun d => match d with
    | .str y => if (acc ++ y).length ≤ 10000000 then jF fs (acc ++ y) ρ else .bad
    | _ => .bad
def eJ (fs : List (Env' → T D)) : Env' → T D := jF fs Str.empty
theorem tJs_of {g : Ct} {σ : L2.St} {Q : VK} : ∀ (fs : List (Env' → T D)) (acc : Str) {β : Box} {H0 H : Hp} {ρ : Env'}, Rel g.cad β g.ξ H0 ρ σ H → (jF fs acc ρ).wp (Out β H0 H Q) (g.X β H0 H σ) → tJs (fs.map (tE g)) acc σ H fun out H1 => Q (.str out) H1
  | [], acc, β, H0, H, ρ, rr, q => q (.str acc) H0 H (Stp.refl rr.ext rr.ok rr.boxf) (.str acc)
  | f :: fs, acc, β, H0, H, ρ, rr, q => by
    show tE g f σ H fun x H1 => ∃ y : Str, x = .str y ∧ (acc ++ y).length ≤ sizeLine ∧ tJs (fs.map (tE g)) (acc ++ y) σ H1 fun out H1 => Q (.str out) H1
    refine tE_then rr q fun d v H1 H2 st hv q1 => ?_
    cases hv with
    | str y =>
      have q1 : (if (acc ++ y).length ≤ 10000000 then jF fs (acc ++ y) ρ else .bad).wp (Out β H0 H Q) (g.X β H0 H σ) := q1
      split at q1
      · next c => exact ⟨y, rfl, Nat.le_trans c (by decide), tJs_of fs (acc ++ y) (rr.step st) (wp_out st q1)⟩
      · exact q1.elim
    | _ => exact q1.elim
theorem r_joined {X : Cx} {g : Ct} {v1 v2 : Expr} {rest : List Expr} {fs : List (Env' → T D)} {pos : Pos} (h : PJ X (v1 :: v2 :: rest) (fs.map (tE g))) : PE X (.JoinedStr (v1 :: v2 :: rest) pos) (tE g (eJ fs)) :=
  (pe_joined h).imp fun σ H Q ⟨β, H0, ρ, rr, q⟩ => tJs_of fs Str.empty rr q
@[simp] theorem ev_J {fs : List (Env' → T D)} {ρ : Env'} : eJ fs ρ = jF fs Str.empty ρ := rfl
@[simp] theorem jF_nil {acc : Str} {ρ : Env'} : jF [] acc ρ = .ret (.str acc) := rfl
theorem jF_cons {f : Env' → T D} {fs : List (Env' → T D)} {acc y : Str} {ρ : Env'} (h : f ρ = .ret (.str y)) (hl : (acc ++ y).length ≤ 10000000) : jF (f :: fs) acc ρ = jF fs (acc ++ y) ρ := by
  show (f ρ).bind _ = _
  rw [h]
  exact if_pos hl
end Wb
set_option Elab.async false
set_option linter.all false
set_option maxRecDepth 100000
set_option maxHeartbeats 4000000
/-! Wb, part 105: len of a text; a text that is no key of a known dict. -/
namespace Wb
open PySem PySem.Spec PyProof.Rows L2
section
variable {X : Cx} {g : Ct} {a b : Expr} {f h : Env' → T D} {pos p : Pos} {x : Str} {d : Addr} {kvs : List (Str × Int)}
theorem q_knotIn (D : KdI X.K X.w d kvs) (hg : Gl X x) (hm : X.mg x = some (.ref d)) (ha : PE X a (tE g f)) (hdb : (x == ("__debug__" : Str)) = false := by decide) : PT X (.Compare a [.NotIn] [.Name x p] pos) (tT g (eUn (oKNotIn kvs) f)) := by
  obtain ⟨es, n, K⟩ := D.kd
  refine (pt_cmpR (op_notIn_kd K) ha (pe_glob (v := .ref d) hg hm rfl hdb) rfl).imp fun σ H Q ⟨β, H0, ρ, rr, q⟩ => tE_then (P := outB β H0 H Q) rr q fun dd v H1 H2 st hv q1 => ?_
  cases hv with
  | str z =>
    obtain ⟨n1, n2⟩ := D.ns z
    have q1 : (T.ret (PyData.bool (!(kvs.lookup z).isSome))).wp (outB β H0 H Q) (g.X β H0 H σ) := q1
    cases e : kvs.lookup z with
    | none =>
      rw [e] at q1
      obtain ⟨b, eb, hq⟩ := q1
      cases eb
      exact ⟨z, none, rfl, rfl, n1 e, _, rfl, hq H1 H2 st⟩
    | some i =>
      rw [e] at q1
      obtain ⟨t, n3⟩ := n2 i e
      obtain ⟨b, eb, hq⟩ := q1
      cases eb
      exact ⟨z, _, rfl, rfl, n3, _, rfl, hq H1 H2 st⟩
  | _ => exact q1.elim
end
@[simp] theorem oKNotIn_str {kvs : List (Str × Int)} {z : Str} : oKNotIn kvs (.str z) = .ret (.bool (!(kvs.lookup z).isSome)) := rfl
def oLenT : D → T D
  | .str z => if z.length ≤ 10000000 then .ret (.int z.length) else .bad
  | _ => .bad
theorem d_lenT : CaD (fun xs H Q => ∃ z, xs = [.str z] ∧ z.length ≤ sizeLine ∧ Q (.int z.length) H) (o1 oLenT) := by
  apply d_1
  intro β H0 H v x Q E e ok bf hv q
  cases hv with
  | str z =>
    have q : (if z.length ≤ 10000000 then T.ret (PyData.int z.length) else .bad).wp (Out β H0 H Q) E := q
    split at q
    · next c => exact ⟨z, rfl, Nat.le_trans c (by decide), out_ret e ok bf (.int _) q⟩
    · exact q.elim
  | _ => exact q.elim
end Wb
set_option Elab.async false
set_option linter.all false
set_option maxRecDepth 100000
set_option maxHeartbeats 4000000
namespace Wk11
open PySem PySem.Spec PyProof.Rows L2 Wb
def topS (i : Nat) : Stmt := PySem.Challenge.pw_wirebeats_k11_texts_of_flows.main.body.getD i (.Pass ⟨0, 0, 0, 0⟩)
def kv_KINDS : List (Str × Int) := [(("copy" : Str), 1), (("neg" : Str), 1), (("add" : Str), 2), (("sub" : Str), 2), (("mul" : Str), 2), (("least" : Str), 2), (("most" : Str), 2), (("madd" : Str), 3)]
/-! is_within -/
abbrev St_is_within : Stmt := topS 7
abbrev N_is_within : List Str := ["value", "low", "high"]
theorem sc_is_within : FnScope N_is_within ["value", "low", "high"] (defScope St_is_within) := ⟨rfl, rfl, rfl, by decide +kernel, rfl, by decide +kernel, by decide +kernel⟩
def F_is_within : Env' → T Fl := (sRet (eAnd (eUn (oIsI "int") (eV 0)) (eAnd (eUn oNot (eUn (oIsI "bool") (eV 0))) (eCh oLe oLe (eV 1) (eV 0) (eV 2)))))
@[irreducible] def m_is_within : List Ar → T D := mkDef 3 F_is_within
theorem mq_is_within : m_is_within = mkDef 3 F_is_within := by
  unfold m_is_within
  rfl
theorem ok_is_within {P : Program} {w : World} {K : PySem.W.Frag} {mg : Str → Option Value} {base : Heap} {cad : Cad} {fa : Addr} {fd : FuncData} (Fu : Fun K "is_within" "is_within" St_is_within fa fd) (b_isinstance : mg "isinstance" = none) (b_int : mg "int" = none) (b_bool : mg "bool" = none) : FnG P w K mg base 2 fa fd ["value", "low", "high"] (spD cad 3 m_is_within) :=
  by
  rw [mq_is_within]
  exact FnG.ofD (F := F_is_within) (N := N_is_within) Fu sc_is_within fun cdv A outer s H E hr hgu => (ss_one (s_ret (r_and (r_isa (by rfl) b_isinstance (pe_bltn (by rfl) b_int (by decide +kernel) rfl) (r_v 0 (pv 0)) kit_int) (r_and (r_not (r_isa (by rfl) b_isinstance (pe_bltn (by rfl) b_bool (by decide +kernel) rfl) (r_v 0 (pv 0)) kit_bool)) (r_one (r_chain op_le op_le u_cmp d_cmp (r_v 1 (pv 1)) (r_v 0 (pv 0)) (r_v 2 (pv 2))))))))
/-! is_tuple_of -/
abbrev St_is_tuple_of : Stmt := topS 8
abbrev N_is_tuple_of : List Str := ["many", "value"]
theorem sc_is_tuple_of : FnScope N_is_tuple_of ["many", "value"] (defScope St_is_tuple_of) := ⟨rfl, rfl, rfl, by decide +kernel, rfl, by decide +kernel, by decide +kernel⟩
def F_is_tuple_of : Env' → T Fl := (sRet (eAnd (eUn (oIsI "tuple") (eV 1)) (eBin oEq (eCb oLen (aCons (eV 1) aNil)) (eV 0))))
@[irreducible] def m_is_tuple_of : List Ar → T D := mkDef 2 F_is_tuple_of
theorem mq_is_tuple_of : m_is_tuple_of = mkDef 2 F_is_tuple_of := by
  unfold m_is_tuple_of
  rfl
theorem ok_is_tuple_of {P : Program} {w : World} {K : PySem.W.Frag} {mg : Str → Option Value} {base : Heap} {cad : Cad} {fa : Addr} {fd : FuncData} (Fu : Fun K "is_tuple_of" "is_tuple_of" St_is_tuple_of fa fd) (b_isinstance : mg "isinstance" = none) (b_tuple : mg "tuple" = none) (b_len : mg "len" = none) : FnG P w K mg base 2 fa fd ["many", "value"] (spD cad 2 m_is_tuple_of) :=
  by
  rw [mq_is_tuple_of]
  exact FnG.ofD (F := F_is_tuple_of) (N := N_is_tuple_of) Fu sc_is_tuple_of fun cdv A outer s H E hr hgu => (ss_one (s_ret (r_and (r_isa (by rfl) b_isinstance (pe_bltn (by rfl) b_tuple (by decide +kernel) rfl) (r_v 1 (pv 1)) kit_tuple) (r_one (r_cmp (op_eqW hr.units) d_eq (r_b call_len_seq d_len (by rfl) b_len (by decide +kernel) (a_cons (r_v 1 (pv 1)) a_nil)) (r_v 0 (pv 0)) (nomark _))))))
/-! is_bounded -/
abbrev St_is_bounded : Stmt := topS 9
abbrev N_is_bounded : List Str := ["dims", "value", "most", "item"]
theorem sc_is_bounded : FnScope N_is_bounded ["dims", "value", "most"] (defScope St_is_bounded) := ⟨rfl, rfl, rfl, by decide +kernel, rfl, by decide +kernel, by decide +kernel⟩
def B0_is_bounded : Env' → T Fl := (sIf (eUn oNot (eCall 3 m_is_within (aCons (eV 3) (aCons (eUn oNeg (eV 2)) (aCons (eV 2) aNil))))) (sRet (eC (.bool false))) sNil)
def F_is_bounded : Env' → T Fl := (sSeq (sIf (eOr (eUn oNot (eUn (oIsI "tuple") (eV 1))) (eBin oNe (eCb oLen (aCons (eV 1) aNil)) (eV 0))) (sRet (eC (.bool false))) sNil) (sSeq (sFor (iSeq (eV 1)) (bName 3) B0_is_bounded) (sRet (eC (.bool true)))))
@[irreducible] def m_is_bounded : List Ar → T D := mkDef 4 F_is_bounded
theorem mq_is_bounded : m_is_bounded = mkDef 4 F_is_bounded := by
  unfold m_is_bounded
  rfl
theorem ok_is_bounded {P : Program} {w : World} {K : PySem.W.Frag} {mg : Str → Option Value} {base : Heap} {cad : Cad} {fa : Addr} {fd : FuncData} (Fu : Fun K "is_bounded" "is_bounded" St_is_bounded fa fd) (C_is_within : Cal P w K mg base cad "is_within" 2 3 m_is_within) (b_isinstance : mg "isinstance" = none) (b_tuple : mg "tuple" = none) (b_len : mg "len" = none) : FnG P w K mg base 3 fa fd ["dims", "value", "most"] (spD cad 3 m_is_bounded) :=
  by
  rw [mq_is_bounded]
  exact FnG.ofD (F := F_is_bounded) (N := N_is_bounded) Fu sc_is_bounded fun cdv A outer s H E hr hgu => (ss_cons (s_if (q_or (q_not (q_val (r_isa (by rfl) b_isinstance (pe_bltn (by rfl) b_tuple (by decide +kernel) rfl) (r_v 1 (pv 1)) kit_tuple))) (q_or1 (q_cmp (op_neW hr.units) d_ne (r_b call_len_seq d_len (by rfl) b_len (by decide +kernel) (a_cons (r_v 1 (pv 1)) a_nil)) (r_v 0 (pv 0)) (nomark _)))).pt (ss_one (s_ret r_bl)) ss_nil) (ss_cons (s_for (b_name (K := K)) (ps_for (passes_of rfl) rfl (i_seq (r_v 1 (pv 1))) (pg_name (i := 3) sc_is_bounded.nd rfl (by first | exact .inl rfl | exact .inr rfl)) (ss_one (s_if (q_not (q_val (r_cal C_is_within hr (by first | decide | omega) hgu (by rfl) (takes_of rfl rfl rfl rfl) (a_cons (r_v 3 (pv 3)) (a_cons (r_un un_neg d_neg (r_v 2 (pv 2))) (a_cons (r_v 2 (pv 2)) a_nil)))))) (ss_one (s_ret r_bl)) ss_nil)))) (ss_one (s_ret r_bl))))
/-! has_form -/
abbrev St_has_form : Stmt := topS 12
abbrev N_has_form : List Str := ["rule", "kind"]
theorem sc_has_form : FnScope N_has_form ["rule"] (defScope St_has_form) := ⟨rfl, rfl, rfl, by decide +kernel, rfl, by decide +kernel, by decide +kernel⟩
def F_has_form : Env' → T Fl := (sSeq (sIf (eOr (eUn oNot (eUn (oIsI "tuple") (eV 0))) (eUn oNot (eUn oTruth (eV 0)))) (sRet (eC (.bool false))) sNil) (sSeq (sSet 1 (eBin oIx (eV 0) (eC (.int 0)))) (sRet (eAnd (eUn (oIsI "str") (eV 1)) (eAnd (eUn (oKIn kv_KINDS) (eV 1)) (eBin oEq (eCb oLen (aCons (eV 0) aNil)) (eBin oAdd (eC (.int 1)) (eUn (oKGet kv_KINDS) (eV 1)))))))))
@[irreducible] def m_has_form : List Ar → T D := mkDef 2 F_has_form
theorem mq_has_form : m_has_form = mkDef 2 F_has_form := by
  unfold m_has_form
  rfl
theorem ok_has_form {P : Program} {w : World} {K : PySem.W.Frag} {mg : Str → Option Value} {base : Heap} {cad : Cad} {fa : Addr} {fd : FuncData} (Fu : Fun K "has_form" "has_form" St_has_form fa fd) (b_isinstance : mg "isinstance" = none) (b_tuple : mg "tuple" = none) (b_str : mg "str" = none) (b_len : mg "len" = none) {dA_KINDS : Addr} (K_KINDS : KdI K w dA_KINDS kv_KINDS) (k_KINDS : mg "KINDS" = some (.ref dA_KINDS)) : FnG P w K mg base 2 fa fd ["rule"] (spD cad 1 m_has_form) :=
  by
  rw [mq_has_form]
  exact FnG.ofD (F := F_has_form) (N := N_has_form) Fu sc_has_form fun cdv A outer s H E hr hgu => (ss_cons (s_if (q_or (q_not (q_val (r_isa (by rfl) b_isinstance (pe_bltn (by rfl) b_tuple (by decide +kernel) rfl) (r_v 0 (pv 0)) kit_tuple))) (q_or1 (q_not (q_truth (r_v 0 (pv 0)))))).pt (ss_one (s_ret r_bl)) ss_nil) (ss_cons (s_set (ps_set (i := 1) sc_has_form.nd rfl (by first | exact .inl rfl | exact .inr rfl) (r_ix ix_seq d_ix (r_v 0 (pv 0)) r_int (fun _ _ => rfl)))) (ss_one (s_ret (r_and (r_isa (by rfl) b_isinstance (pe_bltn (by rfl) b_str (by decide +kernel) rfl) (r_v 1 (pv 1)) kit_str) (r_and (r_kin K_KINDS (by rfl) k_KINDS (r_v 1 (pv 1))) (r_one (r_cmp (op_eqW hr.units) d_eq (r_b call_len_seq d_len (by rfl) b_len (by decide +kernel) (a_cons (r_v 0 (pv 0)) a_nil)) (r_op op_addD d_add r_int (r_kget K_KINDS (by rfl) k_KINDS (r_v 1 (pv 1)) (fun _ _ => rfl))) (nomark _)))))))))
/-! are_rules -/
abbrev St_are_rules : Stmt := topS 13
abbrev N_are_rules : List Str := ["value"]
theorem sc_are_rules : FnScope N_are_rules ["value"] (defScope St_are_rules) := ⟨rfl, rfl, rfl, by decide +kernel, rfl, by decide +kernel, by decide +kernel⟩
def F_are_rules : Env' → T Fl := (sRet (eAnd (eUn (oIsI "tuple") (eV 0)) (eCh oLe oLe (eC (.int 1)) (eCb oLen (aCons (eV 0) aNil)) (eC (.int 6)))))
@[irreducible] def m_are_rules : List Ar → T D := mkDef 1 F_are_rules
theorem mq_are_rules : m_are_rules = mkDef 1 F_are_rules := by
  unfold m_are_rules
  rfl
theorem ok_are_rules {P : Program} {w : World} {K : PySem.W.Frag} {mg : Str → Option Value} {base : Heap} {cad : Cad} {fa : Addr} {fd : FuncData} (Fu : Fun K "are_rules" "are_rules" St_are_rules fa fd) (b_isinstance : mg "isinstance" = none) (b_tuple : mg "tuple" = none) (b_len : mg "len" = none) {tok_MAX_PLANES : Tok} (c_MAX_PLANES : mg "MAX_PLANES" = some (.int 6 tok_MAX_PLANES)) : FnG P w K mg base 2 fa fd ["value"] (spD cad 1 m_are_rules) :=
  by
  rw [mq_are_rules]
  exact FnG.ofD (F := F_are_rules) (N := N_are_rules) Fu sc_are_rules fun cdv A outer s H E hr hgu => (ss_one (s_ret (r_and (r_isa (by rfl) b_isinstance (pe_bltn (by rfl) b_tuple (by decide +kernel) rfl) (r_v 0 (pv 0)) kit_tuple) (r_one (r_chain op_le op_le u_cmp d_cmp r_int (r_b call_len_seq d_len (by rfl) b_len (by decide +kernel) (a_cons (r_v 0 (pv 0)) a_nil)) (r_glob (v := .int 6) (by rfl) c_MAX_PLANES ⟨_, rfl⟩ fun _ => .int 6))))))
/-! read_error -/
abbrev St_read_error : Stmt := topS 14
abbrev N_read_error : List Str := ["dims", "planes", "value", "source", "distance"]
theorem sc_read_error : FnScope N_read_error ["dims", "planes", "value"] (defScope St_read_error) := ⟨rfl, rfl, rfl, by decide +kernel, rfl, by decide +kernel, by decide +kernel⟩
def F_read_error : Env' → T Fl := (sSeq (sIf (eUn oNot (eCall 2 m_is_tuple_of (aCons (eC (.int 2)) (aCons (eV 2) aNil)))) (sRet (eC (.str "read"))) sNil) (sSeq (sUnp (bTup [3, 4]) (eV 2)) (sSeq (sIf (eUn oNot (eCall 3 m_is_within (aCons (eV 3) (aCons (eC (.int 0)) (aCons (eBin oSub (eV 1) (eC (.int 1))) aNil))))) (sRet (eC (.str "source"))) sNil) (sSeq (sIf (eUn oNot (eCall 3 m_is_bounded (aCons (eV 0) (aCons (eV 4) (aCons (eC (.int 4)) aNil))))) (sRet (eC (.str "distance"))) sNil) (sRet (eC .none))))))
@[irreducible] def m_read_error : List Ar → T D := mkDef 5 F_read_error
theorem mq_read_error : m_read_error = mkDef 5 F_read_error := by
  unfold m_read_error
  rfl
theorem ok_read_error {P : Program} {w : World} {K : PySem.W.Frag} {mg : Str → Option Value} {base : Heap} {cad : Cad} {fa : Addr} {fd : FuncData} (Fu : Fun K "read_error" "read_error" St_read_error fa fd) (C_is_tuple_of : Cal P w K mg base cad "is_tuple_of" 2 2 m_is_tuple_of) (C_is_within : Cal P w K mg base cad "is_within" 2 3 m_is_within) (C_is_bounded : Cal P w K mg base cad "is_bounded" 3 3 m_is_bounded) {tok_MAX_DIST : Tok} (c_MAX_DIST : mg "MAX_DIST" = some (.int 4 tok_MAX_DIST)) : FnG P w K mg base 4 fa fd ["dims", "planes", "value"] (spD cad 3 m_read_error) :=
  by
  rw [mq_read_error]
  exact FnG.ofD (F := F_read_error) (N := N_read_error) Fu sc_read_error fun cdv A outer s H E hr hgu => (ss_cons (s_if (q_not (q_val (r_cal C_is_tuple_of hr (by first | decide | omega) hgu (by rfl) (takes_of rfl rfl rfl rfl) (a_cons r_int (a_cons (r_v 2 (pv 2)) a_nil))))) (ss_one (s_ret r_str)) ss_nil) (ss_cons (s_unp (is := [3, 4]) rfl (ps_asg (r_v 2 (pv 2)) (pg_tup rfl (pgs_cons (pg_name (i := 3) sc_read_error.nd rfl (by first | exact .inl rfl | exact .inr rfl)) (pgs_cons (pg_name (i := 4) sc_read_error.nd rfl (by first | exact .inl rfl | exact .inr rfl)) pgs_nil))))) (ss_cons (s_if (q_not (q_val (r_cal C_is_within hr (by first | decide | omega) hgu (by rfl) (takes_of rfl rfl rfl rfl) (a_cons (r_v 3 (pv 3)) (a_cons r_int (a_cons (r_op op_sub d_sub (r_v 1 (pv 1)) r_int) a_nil)))))) (ss_one (s_ret r_str)) ss_nil) (ss_cons (s_if (q_not (q_val (r_cal C_is_bounded hr (by first | decide | omega) hgu (by rfl) (takes_of rfl rfl rfl rfl) (a_cons (r_v 0 (pv 0)) (a_cons (r_v 4 (pv 4)) (a_cons (r_glob (v := .int 4) (by rfl) c_MAX_DIST ⟨_, rfl⟩ fun _ => .int 4) a_nil)))))) (ss_one (s_ret r_str)) ss_nil) (ss_one (s_ret r_non))))))
/-! rule_error -/
abbrev St_rule_error : Stmt := topS 15
abbrev N_rule_error : List Str := ["dims", "planes", "value", "operand", "read", "word"]
theorem sc_rule_error : FnScope N_rule_error ["dims", "planes", "value"] (defScope St_rule_error) := ⟨rfl, rfl, rfl, by decide +kernel, rfl, by decide +kernel, by decide +kernel⟩
def B0_rule_error : Env' → T Fl := (sSeq (sSet 5 (eCall 3 m_read_error (aCons (eV 0) (aCons (eV 1) (aCons (eV 4) aNil))))) (sIf (eBin oNotN (eV 5) (eC .none)) (sRet (eTup (aCons (eV 3) (aCons (eV 5) aNil)))) sNil))
def F_rule_error : Env' → T Fl := (sSeq (sIf (eUn oNot (eCall 1 m_has_form (aCons (eV 2) aNil))) (sRet (eTup (aCons (eC .none) (aCons (eC (.str "rule")) aNil)))) sNil) (sSeq (sFor (iArg oEnum (aCons (eSl (eV 2) (pSome (eC (.int 1))) pNone) aNil)) (bTup [3, 4]) B0_rule_error) (sRet (eC .none))))
@[irreducible] def m_rule_error : List Ar → T D := mkDef 6 F_rule_error
theorem mq_rule_error : m_rule_error = mkDef 6 F_rule_error := by
  unfold m_rule_error
  rfl
theorem ok_rule_error {P : Program} {w : World} {K : PySem.W.Frag} {mg : Str → Option Value} {base : Heap} {cad : Cad} {fa : Addr} {fd : FuncData} (Fu : Fun K "rule_error" "rule_error" St_rule_error fa fd) (C_has_form : Cal P w K mg base cad "has_form" 2 1 m_has_form) (C_read_error : Cal P w K mg base cad "read_error" 4 3 m_read_error) (b_enumerate : mg "enumerate" = none) : FnG P w K mg base 5 fa fd ["dims", "planes", "value"] (spD cad 3 m_rule_error) :=
  by
  rw [mq_rule_error]
  exact FnG.ofD (F := F_rule_error) (N := N_rule_error) Fu sc_rule_error fun cdv A outer s H E hr hgu => (ss_cons (s_if (q_not (q_val (r_cal C_has_form hr (by first | decide | omega) hgu (by rfl) (takes_of rfl rfl rfl rfl) (a_cons (r_v 2 (pv 2)) a_nil)))) (ss_one (s_ret (r_tup (a_cons r_non (a_cons r_str a_nil))))) ss_nil) (ss_cons (s_for (b_tup rfl) (ps_for (passes_of rfl) rfl (i_enum (by rfl) b_enumerate (a_cons (r_sl (r_v 2 (pv 2)) (p_some r_int) p_none) a_nil)) (pg_tup rfl (pgs_cons (pg_name (i := 3) sc_rule_error.nd rfl (by first | exact .inl rfl | exact .inr rfl)) (pgs_cons (pg_name (i := 4) sc_rule_error.nd rfl (by first | exact .inl rfl | exact .inr rfl)) pgs_nil))) (ss_cons (s_set (ps_set (i := 5) sc_rule_error.nd rfl (by first | exact .inl rfl | exact .inr rfl) (r_cal C_read_error hr (by first | decide | omega) hgu (by rfl) (takes_of rfl rfl rfl rfl) (a_cons (r_v 0 (pv 0)) (a_cons (r_v 1 (pv 1)) (a_cons (r_v 4 (pv 4)) a_nil)))))) (ss_one (s_if (q_cmp op_notN d_notN (r_v 5 (pv 5)) r_non (nomark _)) (ss_one (s_ret (r_tup (a_cons (r_v 3 (pv 3)) (a_cons (r_v 5 (pv 5)) a_nil))))) ss_nil))))) (ss_one (s_ret r_non))))
/-! flow_error -/
abbrev St_flow_error : Stmt := topS 16
abbrev N_flow_error : List Str := ["value", "dims", "rules", "plane", "rule", "error", "operand", "word"]
theorem sc_flow_error : FnScope N_flow_error ["value"] (defScope St_flow_error) := ⟨rfl, rfl, rfl, by decide +kernel, rfl, by decide +kernel, by decide +kernel⟩
def B0_flow_error : Env' → T Fl := (sSeq (sSet 5 (eCall 3 m_rule_error (aCons (eV 1) (aCons (eCb oLen (aCons (eV 2) aNil)) (aCons (eV 4) aNil))))) (sIf (eBin oNotN (eV 5) (eC .none)) (sSeq (sUnp (bTup [6, 7]) (eV 5)) (sRet (eTup (aCons (eIf (eBin oIsN (eV 6) (eC .none)) (eV 3) (eTup (aCons (eV 3) (aCons (eV 6) aNil)))) (aCons (eV 7) aNil))))) sNil))
def F_flow_error : Env' → T Fl := (sSeq (sIf (eUn oNot (eCall 2 m_is_tuple_of (aCons (eC (.int 2)) (aCons (eV 0) aNil)))) (sRet (eTup (aCons (eC .none) (aCons (eC (.str "flow")) aNil)))) sNil) (sSeq (sUnp (bTup [1, 2]) (eV 0)) (sSeq (sIf (eUn oNot (eCall 3 m_is_within (aCons (eV 1) (aCons (eC (.int 2)) (aCons (eC (.int 3)) aNil))))) (sRet (eTup (aCons (eC .none) (aCons (eC (.str "dims")) aNil)))) sNil) (sSeq (sIf (eUn oNot (eCall 1 m_are_rules (aCons (eV 2) aNil))) (sRet (eTup (aCons (eC .none) (aCons (eC (.str "rules")) aNil)))) sNil) (sSeq (sFor (iArg oEnum (aCons (eV 2) aNil)) (bTup [3, 4]) B0_flow_error) (sRet (eC .none)))))))
@[irreducible] def m_flow_error : List Ar → T D := mkDef 8 F_flow_error
theorem mq_flow_error : m_flow_error = mkDef 8 F_flow_error := by
  unfold m_flow_error
  rfl
theorem ok_flow_error {P : Program} {w : World} {K : PySem.W.Frag} {mg : Str → Option Value} {base : Heap} {cad : Cad} {fa : Addr} {fd : FuncData} (Fu : Fun K "flow_error" "flow_error" St_flow_error fa fd) (C_is_tuple_of : Cal P w K mg base cad "is_tuple_of" 2 2 m_is_tuple_of) (C_is_within : Cal P w K mg base cad "is_within" 2 3 m_is_within) (C_are_rules : Cal P w K mg base cad "are_rules" 2 1 m_are_rules) (C_rule_error : Cal P w K mg base cad "rule_error" 5 3 m_rule_error) (b_enumerate : mg "enumerate" = none) (b_len : mg "len" = none) : FnG P w K mg base 6 fa fd ["value"] (spD cad 1 m_flow_error) :=
  by
  rw [mq_flow_error]
  exact FnG.ofD (F := F_flow_error) (N := N_flow_error) Fu sc_flow_error fun cdv A outer s H E hr hgu => (ss_cons (s_if (q_not (q_val (r_cal C_is_tuple_of hr (by first | decide | omega) hgu (by rfl) (takes_of rfl rfl rfl rfl) (a_cons r_int (a_cons (r_v 0 (pv 0)) a_nil))))) (ss_one (s_ret (r_tup (a_cons r_non (a_cons r_str a_nil))))) ss_nil) (ss_cons (s_unp (is := [1, 2]) rfl (ps_asg (r_v 0 (pv 0)) (pg_tup rfl (pgs_cons (pg_name (i := 1) sc_flow_error.nd rfl (by first | exact .inl rfl | exact .inr rfl)) (pgs_cons (pg_name (i := 2) sc_flow_error.nd rfl (by first | exact .inl rfl | exact .inr rfl)) pgs_nil))))) (ss_cons (s_if (q_not (q_val (r_cal C_is_within hr (by first | decide | omega) hgu (by rfl) (takes_of rfl rfl rfl rfl) (a_cons (r_v 1 (pv 1)) (a_cons r_int (a_cons r_int a_nil)))))) (ss_one (s_ret (r_tup (a_cons r_non (a_cons r_str a_nil))))) ss_nil) (ss_cons (s_if (q_not (q_val (r_cal C_are_rules hr (by first | decide | omega) hgu (by rfl) (takes_of rfl rfl rfl rfl) (a_cons (r_v 2 (pv 2)) a_nil)))) (ss_one (s_ret (r_tup (a_cons r_non (a_cons r_str a_nil))))) ss_nil) (ss_cons (s_for (b_tup rfl) (ps_for (passes_of rfl) rfl (i_enum (by rfl) b_enumerate (a_cons (r_v 2 (pv 2)) a_nil)) (pg_tup rfl (pgs_cons (pg_name (i := 3) sc_flow_error.nd rfl (by first | exact .inl rfl | exact .inr rfl)) (pgs_cons (pg_name (i := 4) sc_flow_error.nd rfl (by first | exact .inl rfl | exact .inr rfl)) pgs_nil))) (ss_cons (s_set (ps_set (i := 5) sc_flow_error.nd rfl (by first | exact .inl rfl | exact .inr rfl) (r_cal C_rule_error hr (by first | decide | omega) hgu (by rfl) (takes_of rfl rfl rfl rfl) (a_cons (r_v 1 (pv 1)) (a_cons (r_b call_len_seq d_len (by rfl) b_len (by decide +kernel) (a_cons (r_v 2 (pv 2)) a_nil)) (a_cons (r_v 4 (pv 4)) a_nil)))))) (ss_one (s_if (q_cmp op_notN d_notN (r_v 5 (pv 5)) r_non (nomark _)) (ss_cons (s_unp (is := [6, 7]) rfl (ps_asg (r_v 5 (pv 5)) (pg_tup rfl (pgs_cons (pg_name (i := 6) sc_flow_error.nd rfl (by first | exact .inl rfl | exact .inr rfl)) (pgs_cons (pg_name (i := 7) sc_flow_error.nd rfl (by first | exact .inl rfl | exact .inr rfl)) pgs_nil))))) (ss_one (s_ret (r_tup (a_cons (r_if (q_cmp op_isN d_isN (r_v 6 (pv 6)) r_non (nomark _)) (r_v 3 (pv 3)) (r_tup (a_cons (r_v 3 (pv 3)) (a_cons (r_v 6 (pv 6)) a_nil)))) (a_cons (r_v 7 (pv 7)) a_nil)))))) ss_nil))))) (ss_one (s_ret r_non)))))))
/-! vector_text -/
abbrev St_vector_text : Stmt := topS 20
abbrev N_vector_text : List Str := ["vector", "item"]
theorem sc_vector_text : FnScope N_vector_text ["vector"] (defScope St_vector_text) := ⟨rfl, rfl, rfl, by decide +kernel, rfl, by decide +kernel, by decide +kernel⟩
def F_vector_text : Env' → T Fl := (sRet (eSM oJoinS (eC (.str ",")) (eLc [1] (iSeq (eV 0)) (bName 1) tTrue (eCb (o1 oStrI) (aCons (eV 1) aNil)))))
@[irreducible] def m_vector_text : List Ar → T D := mkDef 2 F_vector_text
theorem mq_vector_text : m_vector_text = mkDef 2 F_vector_text := by
  unfold m_vector_text
  rfl
theorem ok_vector_text {P : Program} {w : World} {K : PySem.W.Frag} {mg : Str → Option Value} {base : Heap} {cad : Cad} {fa : Addr} {fd : FuncData} (Fu : Fun K "vector_text" "vector_text" St_vector_text fa fd) (b_str : mg "str" = none) : FnG P w K mg base 2 fa fd ["vector"] (spD cad 1 m_vector_text) :=
  by
  rw [mq_vector_text]
  exact FnG.ofD (F := F_vector_text) (N := N_vector_text) Fu sc_vector_text fun cdv A outer s H E hr hgu => (ss_one (s_ret (r_sm PySem.F.slot_str_join PySem.F.type_str_join mt_join m_join r_str (r_lc (own := [("item", 1)]) rfl sc_vector_text.nd (i_seq (r_v 0 (pv 0))) (blkOk_by (N := N_vector_text) (sc := defScope St_vector_text) (by decide +kernel)) (fun _ _ _ _ _ => (g_name (pg_name (i := 1) sc_vector_text.nd rfl (by first | exact .inl rfl | exact .inr rfl)))) (fun _ _ _ _ _ => pts_yes) (fun _ _ _ _ _ => (r_bt call_str_int d_strI (by rfl) b_str (by decide +kernel) (a_cons (r_v 1 (pv 1)) a_nil))) (by decide)))))
/-! numbers_text -/
abbrev St_numbers_text : Stmt := topS 21
abbrev N_numbers_text : List Str := ["numbers", "number"]
theorem sc_numbers_text : FnScope N_numbers_text ["numbers"] (defScope St_numbers_text) := ⟨rfl, rfl, rfl, by decide +kernel, rfl, by decide +kernel, by decide +kernel⟩
def F_numbers_text : Env' → T Fl := (sRet (eSM oJoinS (eC (.str " ")) (eLc [1] (iSeq (eV 0)) (bName 1) tTrue (eCb (o1 oStrI) (aCons (eV 1) aNil)))))
@[irreducible] def m_numbers_text : List Ar → T D := mkDef 2 F_numbers_text
theorem mq_numbers_text : m_numbers_text = mkDef 2 F_numbers_text := by
  unfold m_numbers_text
  rfl
theorem ok_numbers_text {P : Program} {w : World} {K : PySem.W.Frag} {mg : Str → Option Value} {base : Heap} {cad : Cad} {fa : Addr} {fd : FuncData} (Fu : Fun K "numbers_text" "numbers_text" St_numbers_text fa fd) (b_str : mg "str" = none) : FnG P w K mg base 2 fa fd ["numbers"] (spD cad 1 m_numbers_text) :=
  by
  rw [mq_numbers_text]
  exact FnG.ofD (F := F_numbers_text) (N := N_numbers_text) Fu sc_numbers_text fun cdv A outer s H E hr hgu => (ss_one (s_ret (r_sm PySem.F.slot_str_join PySem.F.type_str_join mt_join m_join r_str (r_lc (own := [("number", 1)]) rfl sc_numbers_text.nd (i_seq (r_v 0 (pv 0))) (blkOk_by (N := N_numbers_text) (sc := defScope St_numbers_text) (by decide +kernel)) (fun _ _ _ _ _ => (g_name (pg_name (i := 1) sc_numbers_text.nd rfl (by first | exact .inl rfl | exact .inr rfl)))) (fun _ _ _ _ _ => pts_yes) (fun _ _ _ _ _ => (r_bt call_str_int d_strI (by rfl) b_str (by decide +kernel) (a_cons (r_v 1 (pv 1)) a_nil))) (by decide)))))
/-! beats_text -/
abbrev St_beats_text : Stmt := topS 22
abbrev N_beats_text : List Str := ["beats"]
theorem sc_beats_text : FnScope N_beats_text ["beats"] (defScope St_beats_text) := ⟨rfl, rfl, rfl, by decide +kernel, rfl, by decide +kernel, by decide +kernel⟩
def F_beats_text : Env' → T Fl := (sRet (eJ [(eUn oFmt (eCall 1 m_vector_text (aCons (eBin oIx (eV 0) (eC (.int 0))) aNil))), (eC (.str " ")), (eUn oFmt (eCall 1 m_numbers_text (aCons (eBin oIx (eV 0) (eC (.int 1))) aNil)))]))
@[irreducible] def m_beats_text : List Ar → T D := mkDef 1 F_beats_text
theorem mq_beats_text : m_beats_text = mkDef 1 F_beats_text := by
  unfold m_beats_text
  rfl
theorem ok_beats_text {P : Program} {w : World} {K : PySem.W.Frag} {mg : Str → Option Value} {base : Heap} {cad : Cad} {fa : Addr} {fd : FuncData} (Fu : Fun K "beats_text" "beats_text" St_beats_text fa fd) (C_vector_text : Cal P w K mg base cad "vector_text" 2 1 m_vector_text) (C_numbers_text : Cal P w K mg base cad "numbers_text" 2 1 m_numbers_text) : FnG P w K mg base 3 fa fd ["beats"] (spD cad 1 m_beats_text) :=
  by
  rw [mq_beats_text]
  exact FnG.ofD (F := F_beats_text) (N := N_beats_text) Fu sc_beats_text fun cdv A outer s H E hr hgu => (ss_one (s_ret (r_joined (fs := [(eUn oFmt (eCall 1 m_vector_text (aCons (eBin oIx (eV 0) (eC (.int 0))) aNil))), (eC (.str " ")), (eUn oFmt (eCall 1 m_numbers_text (aCons (eBin oIx (eV 0) (eC (.int 1))) aNil)))]) (.cons (r_fmt (r_cal C_vector_text hr (by first | decide | omega) hgu (by rfl) (takes_of rfl rfl rfl rfl) (a_cons (r_ix ix_seq d_ix (r_v 0 (pv 0)) r_int (fun _ _ => rfl)) a_nil))) (.cons r_str (.cons (r_fmt (r_cal C_numbers_text hr (by first | decide | omega) hgu (by rfl) (takes_of rfl rfl rfl rfl) (a_cons (r_ix ix_seq d_ix (r_v 0 (pv 0)) r_int (fun _ _ => rfl)) a_nil))) .nil))))))
/-! read_text -/
abbrev St_read_text : Stmt := topS 23
abbrev N_read_text : List Str := ["read"]
theorem sc_read_text : FnScope N_read_text ["read"] (defScope St_read_text) := ⟨rfl, rfl, rfl, by decide +kernel, rfl, by decide +kernel, by decide +kernel⟩
def F_read_text : Env' → T Fl := (sRet (eJ [(eUn oFmt (eBin oIx (eV 0) (eC (.int 0)))), (eC (.str "@")), (eUn oFmt (eCall 1 m_vector_text (aCons (eBin oIx (eV 0) (eC (.int 1))) aNil)))]))
@[irreducible] def m_read_text : List Ar → T D := mkDef 1 F_read_text
theorem mq_read_text : m_read_text = mkDef 1 F_read_text := by
  unfold m_read_text
  rfl
theorem ok_read_text {P : Program} {w : World} {K : PySem.W.Frag} {mg : Str → Option Value} {base : Heap} {cad : Cad} {fa : Addr} {fd : FuncData} (Fu : Fun K "read_text" "read_text" St_read_text fa fd) (C_vector_text : Cal P w K mg base cad "vector_text" 2 1 m_vector_text) : FnG P w K mg base 3 fa fd ["read"] (spD cad 1 m_read_text) :=
  by
  rw [mq_read_text]
  exact FnG.ofD (F := F_read_text) (N := N_read_text) Fu sc_read_text fun cdv A outer s H E hr hgu => (ss_one (s_ret (r_joined (fs := [(eUn oFmt (eBin oIx (eV 0) (eC (.int 0)))), (eC (.str "@")), (eUn oFmt (eCall 1 m_vector_text (aCons (eBin oIx (eV 0) (eC (.int 1))) aNil)))]) (.cons (r_fmt (r_ix ix_seq d_ix (r_v 0 (pv 0)) r_int (fun _ _ => rfl))) (.cons r_str (.cons (r_fmt (r_cal C_vector_text hr (by first | decide | omega) hgu (by rfl) (takes_of rfl rfl rfl rfl) (a_cons (r_ix ix_seq d_ix (r_v 0 (pv 0)) r_int (fun _ _ => rfl)) a_nil))) .nil))))))
/-! rule_text -/
abbrev St_rule_text : Stmt := topS 24
abbrev N_rule_text : List Str := ["rule", "read"]
theorem sc_rule_text : FnScope N_rule_text ["rule"] (defScope St_rule_text) := ⟨rfl, rfl, rfl, by decide +kernel, rfl, by decide +kernel, by decide +kernel⟩
def F_rule_text : Env' → T Fl := (sRet (eSM oJoinS (eC (.str " ")) (eBin oAdd (eLst (aCons (eBin oIx (eV 0) (eC (.int 0))) aNil)) (eLc [1] (iSeq (eSl (eV 0) (pSome (eC (.int 1))) pNone)) (bName 1) tTrue (eCall 1 m_read_text (aCons (eV 1) aNil))))))
@[irreducible] def m_rule_text : List Ar → T D := mkDef 2 F_rule_text
theorem mq_rule_text : m_rule_text = mkDef 2 F_rule_text := by
  unfold m_rule_text
  rfl
theorem ok_rule_text {P : Program} {w : World} {K : PySem.W.Frag} {mg : Str → Option Value} {base : Heap} {cad : Cad} {fa : Addr} {fd : FuncData} (Fu : Fun K "rule_text" "rule_text" St_rule_text fa fd) (C_read_text : Cal P w K mg base cad "read_text" 3 1 m_read_text) : FnG P w K mg base 4 fa fd ["rule"] (spD cad 1 m_rule_text) :=
  by
  rw [mq_rule_text]
  exact FnG.ofD (F := F_rule_text) (N := N_rule_text) Fu sc_rule_text fun cdv A outer s H E hr hgu => (ss_one (s_ret (r_sm PySem.F.slot_str_join PySem.F.type_str_join mt_join m_join r_str (r_op op_addD d_add (r_lst (a_cons (r_ix ix_seq d_ix (r_v 0 (pv 0)) r_int (fun _ _ => rfl)) a_nil)) (r_lc (own := [("read", 1)]) rfl sc_rule_text.nd (i_seq (r_sl (r_v 0 (pv 0)) (p_some r_int) p_none)) (blkOk_by (N := N_rule_text) (sc := defScope St_rule_text) (by decide +kernel)) (fun _ _ _ _ _ => (g_name (pg_name (i := 1) sc_rule_text.nd rfl (by first | exact .inl rfl | exact .inr rfl)))) (fun _ _ _ _ _ => pts_yes) (fun _ _ _ _ _ => (r_cal C_read_text hr (by first | decide | omega) hgu (by rfl) takes0 (a_cons (r_v 1 (pv 1)) a_nil))) (by decide))))))
/-! flow_text -/
abbrev St_flow_text : Stmt := topS 25
abbrev N_flow_text : List Str := ["flow", "rule"]
theorem sc_flow_text : FnScope N_flow_text ["flow"] (defScope St_flow_text) := ⟨rfl, rfl, rfl, by decide +kernel, rfl, by decide +kernel, by decide +kernel⟩
def F_flow_text : Env' → T Fl := (sRet (eSM oJoinS (eC (.str " ")) (eBin oAdd (eLst (aCons (eCb (o1 oStrI) (aCons (eBin oIx (eV 0) (eC (.int 0))) aNil)) aNil)) (eLc [1] (iSeq (eBin oIx (eV 0) (eC (.int 1)))) (bName 1) tTrue (eJ [(eC (.str "/ ")), (eUn oFmt (eCall 1 m_rule_text (aCons (eV 1) aNil)))])))))
@[irreducible] def m_flow_text : List Ar → T D := mkDef 2 F_flow_text
theorem mq_flow_text : m_flow_text = mkDef 2 F_flow_text := by
  unfold m_flow_text
  rfl
theorem ok_flow_text {P : Program} {w : World} {K : PySem.W.Frag} {mg : Str → Option Value} {base : Heap} {cad : Cad} {fa : Addr} {fd : FuncData} (Fu : Fun K "flow_text" "flow_text" St_flow_text fa fd) (C_rule_text : Cal P w K mg base cad "rule_text" 4 1 m_rule_text) (b_str : mg "str" = none) : FnG P w K mg base 5 fa fd ["flow"] (spD cad 1 m_flow_text) :=
  by
  rw [mq_flow_text]
  exact FnG.ofD (F := F_flow_text) (N := N_flow_text) Fu sc_flow_text fun cdv A outer s H E hr hgu => (ss_one (s_ret (r_sm PySem.F.slot_str_join PySem.F.type_str_join mt_join m_join r_str (r_op op_addD d_add (r_lst (a_cons (r_bt call_str_int d_strI (by rfl) b_str (by decide +kernel) (a_cons (r_ix ix_seq d_ix (r_v 0 (pv 0)) r_int (fun _ _ => rfl)) a_nil)) a_nil)) (r_lc (own := [("rule", 1)]) rfl sc_flow_text.nd (i_seq (r_ix ix_seq d_ix (r_v 0 (pv 0)) r_int (fun _ _ => rfl))) (blkOk_by (N := N_flow_text) (sc := defScope St_flow_text) (by decide +kernel)) (fun _ _ _ _ _ => (g_name (pg_name (i := 1) sc_flow_text.nd rfl (by first | exact .inl rfl | exact .inr rfl)))) (fun _ _ _ _ _ => pts_yes) (fun _ _ _ _ _ => (r_joined (fs := [(eC (.str "/ ")), (eUn oFmt (eCall 1 m_rule_text (aCons (eV 1) aNil)))]) (.cons r_str (.cons (r_fmt (r_cal C_rule_text hr (by first | decide | omega) hgu (by rfl) takes0 (a_cons (r_v 1 (pv 1)) a_nil))) .nil)))) (by decide))))))
/-! parse_integer -/
abbrev St_parse_integer : Stmt := topS 26
abbrev N_parse_integer : List Str := ["text", "digits", "number", "sign"]
theorem sc_parse_integer : FnScope N_parse_integer ["text"] (defScope St_parse_integer) := ⟨rfl, rfl, rfl, by decide +kernel, rfl, by decide +kernel, by decide +kernel⟩
def F_parse_integer : Env' → T Fl := (sSeq (sSet 1 (eIf (eSM oStartS (eV 0) (eC (.str "-"))) (eSlX (eV 0) (pSome (eC (.int 1))) pNone) (eV 0))) (sSeq (sIf (eOr (eUn oNot (eCh oLe oLe (eC (.int 1)) (eCb (o1 oLenT) (aCons (eV 1) aNil)) (eC (.int 12)))) (eUn oNot (eCb (o1 oAll) (aCons (eLc [3] (iStrE (eV 1)) (bName 3) tTrue (eBin oInSign (eV 3) (eC (.str "0123456789")))) aNil)))) (sRet (eC .none)) sNil) (sSeq (sSet 2 (eCb (o1 oIntT) (aCons (eV 0) aNil))) (sRet (eIf (eBin oEq (eCb (o1 oStrI) (aCons (eV 2) aNil)) (eV 0)) (eV 2) (eC .none))))))
@[irreducible] def m_parse_integer : List Ar → T D := mkDef 4 F_parse_integer
theorem mq_parse_integer : m_parse_integer = mkDef 4 F_parse_integer := by
  unfold m_parse_integer
  rfl
theorem ok_parse_integer {P : Program} {w : World} {K : PySem.W.Frag} {mg : Str → Option Value} {base : Heap} {cad : Cad} {fa : Addr} {fd : FuncData} (Fu : Fun K "parse_integer" "parse_integer" St_parse_integer fa fd) (b_len : mg "len" = none) (b_all : mg "all" = none) (b_int : mg "int" = none) (b_str : mg "str" = none) {tok_MAX_DIGITS : Tok} (c_MAX_DIGITS : mg "MAX_DIGITS" = some (.int 12 tok_MAX_DIGITS)) {tok_DIGITS : Tok} (c_DIGITS : mg "DIGITS" = some (.str "0123456789" tok_DIGITS)) : FnG P w K mg base 2 fa fd ["text"] (spD cad 1 m_parse_integer) :=
  by
  rw [mq_parse_integer]
  exact FnG.ofD (F := F_parse_integer) (N := N_parse_integer) Fu sc_parse_integer fun cdv A outer s H E hr hgu => (ss_cons (s_set (ps_set (i := 1) sc_parse_integer.nd rfl (by first | exact .inl rfl | exact .inr rfl) (r_if (q_val (r_sm PySem.F.slot_str_startswith PySem.F.type_str_startswith mt_startswith m_starts (r_v 0 (pv 0)) r_str)) (r_slX (r_v 0 (pv 0)) (p_some r_int) p_none) (r_v 0 (pv 0))))) (ss_cons (s_if (q_or (q_not (q_chain op_le op_le u_cmp d_cmp r_int (r_b call_len_str d_lenT (by rfl) b_len (by decide +kernel) (a_cons (r_v 1 (pv 1)) a_nil)) (r_glob (v := .int 12) (by rfl) c_MAX_DIGITS ⟨_, rfl⟩ fun _ => .int 12))) (q_or1 (q_not (q_val (r_b (cr_all rfl) d_all (by rfl) b_all (by decide +kernel) (a_cons (r_lc (own := [("sign", 3)]) rfl sc_parse_integer.nd (i_str (r_v 1 (pv 1))) (blkOk_by (N := N_parse_integer) (sc := defScope St_parse_integer) (by decide +kernel)) (fun _ _ _ _ _ => (g_name (pg_name (i := 3) sc_parse_integer.nd rfl (by first | exact .inl rfl | exact .inr rfl)))) (fun _ _ _ _ _ => pts_yes) (fun _ _ _ _ _ => (r_cmp op_in_sign d_inSign (r_v 3 (pv 3)) (r_glob (v := .str "0123456789") (by rfl) c_DIGITS ⟨_, rfl⟩ fun _ => .str _) rfl)) (by decide)) a_nil)))))).pt (ss_one (s_ret r_non)) ss_nil) (ss_cons (s_set (ps_set (i := 2) sc_parse_integer.nd rfl (by first | exact .inl rfl | exact .inr rfl) (r_bt call_int_str d_intT (by rfl) b_int (by decide +kernel) (a_cons (r_v 0 (pv 0)) a_nil)))) (ss_one (s_ret (r_if (q_cmp (op_eqW hr.units) d_eq (r_bt call_str_int d_strI (by rfl) b_str (by decide +kernel) (a_cons (r_v 2 (pv 2)) a_nil)) (r_v 0 (pv 0)) (nomark _)) (r_v 2 (pv 2)) r_non))))))
/-! parse_vector -/
abbrev St_parse_vector : Stmt := topS 27
abbrev N_parse_vector : List Str := ["dims", "text", "items", "item"]
theorem sc_parse_vector : FnScope N_parse_vector ["dims", "text"] (defScope St_parse_vector) := ⟨rfl, rfl, rfl, by decide +kernel, rfl, by decide +kernel, by decide +kernel⟩
def F_parse_vector : Env' → T Fl := (sSeq (sSet 2 (eLc [3] (iSeq (eSM oSplitS (eV 1) (eC (.str ",")))) (bName 3) tTrue (eCall 1 m_parse_integer (aCons (eV 3) aNil)))) (sRet (eIf (eOr (eBin oInT (eC .none) (eV 2)) (eBin oNe (eCb oLen (aCons (eV 2) aNil)) (eV 0))) (eC .none) (eCb (o1 oTupleOf) (aCons (eV 2) aNil)))))
@[irreducible] def m_parse_vector : List Ar → T D := mkDef 4 F_parse_vector
theorem mq_parse_vector : m_parse_vector = mkDef 4 F_parse_vector := by
  unfold m_parse_vector
  rfl
theorem ok_parse_vector {P : Program} {w : World} {K : PySem.W.Frag} {mg : Str → Option Value} {base : Heap} {cad : Cad} {fa : Addr} {fd : FuncData} (Fu : Fun K "parse_vector" "parse_vector" St_parse_vector fa fd) (C_parse_integer : Cal P w K mg base cad "parse_integer" 2 1 m_parse_integer) (b_len : mg "len" = none) (b_tuple : mg "tuple" = none) : FnG P w K mg base 3 fa fd ["dims", "text"] (spD cad 2 m_parse_vector) :=
  by
  rw [mq_parse_vector]
  exact FnG.ofD (F := F_parse_vector) (N := N_parse_vector) Fu sc_parse_vector fun cdv A outer s H E hr hgu => (ss_cons (s_setLc (ps_setLc (i := 2) (own := [("item", 3)]) rfl sc_parse_vector.nd rfl rfl (by rfl) (i_seq (r_sm PySem.F.slot_str_split PySem.F.type_str_split mt_split m_split (r_v 1 (pv 1)) r_str)) (blkOk_by (N := N_parse_vector) (sc := defScope St_parse_vector) (by decide +kernel)) (fun _ _ _ _ _ => (g_name (pg_name (i := 3) sc_parse_vector.nd rfl (by first | exact .inl rfl | exact .inr rfl)))) (fun _ _ _ _ _ => pts_yes) (fun _ _ _ _ _ => (r_cal C_parse_integer hr (by first | decide | omega) hgu (by rfl) takes0 (a_cons (r_v 3 (pv 3)) a_nil)))) (by decide)) (ss_one (s_ret (r_if (q_or (q_cmp (op_inLT (un65 hr)) d_inT r_non (r_v 2 (pv 2)) rfl) (q_or1 (q_cmp (op_neW hr.units) d_ne (r_b call_len_seq d_len (by rfl) b_len (by decide +kernel) (a_cons (r_v 2 (pv 2)) a_nil)) (r_v 0 (pv 0)) (nomark _)))).pt r_non (r_bt call_tuple_S d_tuple (by rfl) b_tuple (by decide +kernel) (a_cons (r_v 2 (pv 2)) a_nil))))))
/-! parse_read -/
abbrev St_parse_read : Stmt := topS 28
abbrev N_parse_read : List Str := ["dims", "text", "parts", "plane", "vector"]
theorem sc_parse_read : FnScope N_parse_read ["dims", "text"] (defScope St_parse_read) := ⟨rfl, rfl, rfl, by decide +kernel, rfl, by decide +kernel, by decide +kernel⟩
def F_parse_read : Env' → T Fl := (sSeq (sSet 2 (eSM oSplitS (eV 1) (eC (.str "@")))) (sSeq (sIf (eBin oNe (eCb oLen (aCons (eV 2) aNil)) (eC (.int 2))) (sRet (eC .none)) sNil) (sSeq (sSet 3 (eCall 1 m_parse_integer (aCons (eBin oIx (eV 2) (eC (.int 0))) aNil))) (sSeq (sSet 4 (eCall 2 m_parse_vector (aCons (eV 0) (aCons (eBin oIx (eV 2) (eC (.int 1))) aNil)))) (sRet (eIf (eOr (eBin oIsN (eV 3) (eC .none)) (eOr (eBin oLt (eV 3) (eC (.int 0))) (eBin oIsN (eV 4) (eC .none)))) (eC .none) (eTup (aCons (eV 3) (aCons (eV 4) aNil)))))))))
@[irreducible] def m_parse_read : List Ar → T D := mkDef 5 F_parse_read
theorem mq_parse_read : m_parse_read = mkDef 5 F_parse_read := by
  unfold m_parse_read
  rfl
theorem ok_parse_read {P : Program} {w : World} {K : PySem.W.Frag} {mg : Str → Option Value} {base : Heap} {cad : Cad} {fa : Addr} {fd : FuncData} (Fu : Fun K "parse_read" "parse_read" St_parse_read fa fd) (C_parse_integer : Cal P w K mg base cad "parse_integer" 2 1 m_parse_integer) (C_parse_vector : Cal P w K mg base cad "parse_vector" 3 2 m_parse_vector) (b_len : mg "len" = none) : FnG P w K mg base 4 fa fd ["dims", "text"] (spD cad 2 m_parse_read) :=
  by
  rw [mq_parse_read]
  exact FnG.ofD (F := F_parse_read) (N := N_parse_read) Fu sc_parse_read fun cdv A outer s H E hr hgu => (ss_cons (s_set (ps_set (i := 2) sc_parse_read.nd rfl (by first | exact .inl rfl | exact .inr rfl) (r_sm PySem.F.slot_str_split PySem.F.type_str_split mt_split m_split (r_v 1 (pv 1)) r_str))) (ss_cons (s_if (q_cmp (op_neW hr.units) d_ne (r_b call_len_seq d_len (by rfl) b_len (by decide +kernel) (a_cons (r_v 2 (pv 2)) a_nil)) r_int (nomark _)) (ss_one (s_ret r_non)) ss_nil) (ss_cons (s_set (ps_set (i := 3) sc_parse_read.nd rfl (by first | exact .inl rfl | exact .inr rfl) (r_cal C_parse_integer hr (by first | decide | omega) hgu (by rfl) (takes_of rfl rfl rfl rfl) (a_cons (r_ix ix_seq d_ix (r_v 2 (pv 2)) r_int (fun _ _ => rfl)) a_nil)))) (ss_cons (s_set (ps_set (i := 4) sc_parse_read.nd rfl (by first | exact .inl rfl | exact .inr rfl) (r_cal C_parse_vector hr (by first | decide | omega) hgu (by rfl) (takes_of rfl rfl rfl rfl) (a_cons (r_v 0 (pv 0)) (a_cons (r_ix ix_seq d_ix (r_v 2 (pv 2)) r_int (fun _ _ => rfl)) a_nil))))) (ss_one (s_ret (r_if (q_or (q_cmp op_isN d_isN (r_v 3 (pv 3)) r_non (nomark _)) (q_or (q_cmp op_lt d_cmp (r_v 3 (pv 3)) r_int (nomark _)) (q_or1 (q_cmp op_isN d_isN (r_v 4 (pv 4)) r_non (nomark _))))).pt r_non (r_tup (a_cons (r_v 3 (pv 3)) (a_cons (r_v 4 (pv 4)) a_nil))))))))))
/-! parse_rule -/
abbrev St_parse_rule : Stmt := topS 29
abbrev N_parse_rule : List Str := ["dims", "words", "at", "kind", "reads", "index", "read"]
theorem sc_parse_rule : FnScope N_parse_rule ["dims", "words", "at"] (defScope St_parse_rule) := ⟨rfl, rfl, rfl, by decide +kernel, rfl, by decide +kernel, by decide +kernel⟩
def B0_parse_rule : Env' → T Fl := (sSeq (sSet 6 (eIf (eBin oLt (eV 5) (eCb oLen (aCons (eV 1) aNil))) (eCall 2 m_parse_read (aCons (eV 0) (aCons (eBin oIx (eV 1) (eV 5)) aNil))) (eC .none))) (sSeq (sIf (eBin oIsN (eV 6) (eC .none)) (sRaise1 "BadText" "index" (eV 5)) sNil) (sApp 4 (eV 6))))
def F_parse_rule : Env' → T Fl := (sSeq (sIf (eOr (eBin oEq (eV 2) (eCb oLen (aCons (eV 1) aNil))) (eBin oNe (eBin oIx (eV 1) (eV 2)) (eC (.str "/")))) (sRaise1 "BadText" "index" (eV 2)) sNil) (sSeq (sIf (eOr (eBin oEq (eBin oAdd (eV 2) (eC (.int 1))) (eCb oLen (aCons (eV 1) aNil))) (eUn (oKNotIn kv_KINDS) (eBin oIx (eV 1) (eBin oAdd (eV 2) (eC (.int 1)))))) (sRaise1 "BadText" "index" (eBin oAdd (eV 2) (eC (.int 1)))) sNil) (sSeq (sSet 3 (eBin oIx (eV 1) (eBin oAdd (eV 2) (eC (.int 1))))) (sSeq (sOwn 4 (lLst aNil)) (sSeq (sFor (iArg oRng2 (aCons (eBin oAdd (eV 2) (eC (.int 2))) (aCons (eBin oAdd (eBin oAdd (eV 2) (eC (.int 2))) (eUn (oKGet kv_KINDS) (eV 3))) aNil))) (bName 5) B0_parse_rule) (sFrz 4 (sRet (eBin oAdd (eTup (aCons (eV 3) aNil)) (eCb (o1 oTupleOf) (aCons (eV 4) aNil))))))))))
@[irreducible] def m_parse_rule : List Ar → T D := mkDef 7 F_parse_rule
theorem mq_parse_rule : m_parse_rule = mkDef 7 F_parse_rule := by
  unfold m_parse_rule
  rfl
theorem ok_parse_rule {P : Program} {w : World} {K : PySem.W.Frag} {mg : Str → Option Value} {base : Heap} {cad : Cad} {fa : Addr} {fd : FuncData} (Fu : Fun K "parse_rule" "parse_rule" St_parse_rule fa fd) (C_parse_read : Cal P w K mg base cad "parse_read" 4 2 m_parse_read) (b_len : mg "len" = none) (b_range : mg "range" = none) (b_tuple : mg "tuple" = none) {dA_KINDS : Addr} (K_KINDS : KdI K w dA_KINDS kv_KINDS) (k_KINDS : mg "KINDS" = some (.ref dA_KINDS)) (E_BadText : Err1 P w K mg base cad "BadText" "index") : FnG P w K mg base 5 fa fd ["dims", "words", "at"] (spD cad 3 m_parse_rule) :=
  by
  rw [mq_parse_rule]
  exact FnG.ofD (F := F_parse_rule) (N := N_parse_rule) Fu sc_parse_rule fun cdv A outer s H E hr hgu => (ss_cons (s_if (q_or (q_cmp (op_eqW hr.units) d_eq (r_v 2 (pv 2)) (r_b call_len_seq d_len (by rfl) b_len (by decide +kernel) (a_cons (r_v 1 (pv 1)) a_nil)) (nomark _)) (q_or1 (q_cmp (op_neW hr.units) d_ne (r_ix ix_seq d_ix (r_v 1 (pv 1)) (r_v 2 (pv 2)) (fun _ _ => rfl)) r_str (nomark _)))).pt (ss_one (s_raiseE E_BadText rfl (takes_of rfl rfl rfl rfl) hr (by first | decide | omega) (by rfl) (r_v 2 (pv 2)))) ss_nil) (ss_cons (s_if (q_or (q_cmp (op_eqW hr.units) d_eq (r_op op_addD d_add (r_v 2 (pv 2)) r_int) (r_b call_len_seq d_len (by rfl) b_len (by decide +kernel) (a_cons (r_v 1 (pv 1)) a_nil)) (nomark _)) (q_or1 (q_knotIn K_KINDS (by rfl) k_KINDS (r_ix ix_seq d_ix (r_v 1 (pv 1)) (r_op op_addD d_add (r_v 2 (pv 2)) r_int) (fun _ _ => rfl))))).pt (ss_one (s_raiseE E_BadText rfl (takes_of rfl rfl rfl rfl) hr (by first | decide | omega) (by rfl) (r_op op_addD d_add (r_v 2 (pv 2)) r_int))) ss_nil) (ss_cons (s_set (ps_set (i := 3) sc_parse_rule.nd rfl (by first | exact .inl rfl | exact .inr rfl) (r_ix ix_seq d_ix (r_v 1 (pv 1)) (r_op op_addD d_add (r_v 2 (pv 2)) r_int) (fun _ _ => rfl)))) (ss_cons (s_own (ps_set (i := 4) sc_parse_rule.nd rfl (by first | exact .inl rfl | exact .inr rfl) (pe_lst a_nil))) (ss_cons (s_for (b_name (K := K)) (ps_for (passes_of rfl) rfl (i_rng2 (by rfl) b_range (a_cons (r_op op_addD d_add (r_v 2 (pv 2)) r_int) (a_cons (r_op op_addD d_add (r_op op_addD d_add (r_v 2 (pv 2)) r_int) (r_kget K_KINDS (by rfl) k_KINDS (r_v 3 (pv 3)) (fun _ _ => rfl))) a_nil))) (pg_name (i := 5) sc_parse_rule.nd rfl (by first | exact .inl rfl | exact .inr rfl)) (ss_cons (s_set (ps_set (i := 6) sc_parse_rule.nd rfl (by first | exact .inl rfl | exact .inr rfl) (r_if (q_cmp op_lt d_cmp (r_v 5 (pv 5)) (r_b call_len_seq d_len (by rfl) b_len (by decide +kernel) (a_cons (r_v 1 (pv 1)) a_nil)) (nomark _)) (r_cal C_parse_read hr (by first | decide | omega) hgu (by rfl) (takes_of rfl rfl rfl rfl) (a_cons (r_v 0 (pv 0)) (a_cons (r_ix ix_seq d_ix (r_v 1 (pv 1)) (r_v 5 (pv 5)) (fun _ _ => rfl)) a_nil))) r_non))) (ss_cons (s_if (q_cmp op_isN d_isN (r_v 6 (pv 6)) r_non (nomark _)) (ss_one (s_raiseE E_BadText rfl (takes_of rfl rfl rfl rfl) hr (by first | decide | omega) (by rfl) (r_v 5 (pv 5)))) ss_nil) (ss_one (s_app (ps_expr (pe_bm PySem.F.plainAttrs_list PySem.F.slot_list_append PySem.F.type_list_append mt_append (pv 4) (pa_cons (r_v 6 (pv 6)) pa_nil))))))))) (ss_frz (i := 4) (ss_one (s_ret (r_op op_addD d_add (r_tup (a_cons (r_v 3 (pv 3)) a_nil)) (r_bt call_tuple_S d_tuple (by rfl) b_tuple (by decide +kernel) (a_cons (r_v 4 (pv 4)) a_nil)))))))))))
/-! parse_flow -/
abbrev St_parse_flow : Stmt := topS 30
abbrev N_parse_flow : List Str := ["value", "words", "dims", "rules", "at", "rule", "flow", "error"]
theorem sc_parse_flow : FnScope N_parse_flow ["value"] (defScope St_parse_flow) := ⟨rfl, rfl, rfl, by decide +kernel, rfl, by decide +kernel, by decide +kernel⟩
def F_parse_flow : Env' → T Fl := (sSeq (sIf (eUn oNot (eUn (oIsI "str") (eV 0))) (sRaise1 "BadText" "index" (eC .none)) sNil) (sSeq (sSet 1 (eSM oSplitS (eV 0) (eC (.str " ")))) (sSeq (sIf (eBin oNotInT (eBin oIx (eV 1) (eC (.int 0))) (eTup (aCons (eC (.str "2")) (aCons (eC (.str "3")) aNil)))) (sRaise1 "BadText" "index" (eC (.int 0))) sNil) (sSeq (sSet 2 (eCb (o1 oIntT) (aCons (eBin oIx (eV 1) (eC (.int 0))) aNil))) (sSeq (sOwn 3 (lLst aNil)) (sSeq (sSet 4 (eC (.int 1))) (sSeq (sWhile 200 (eOr (eBin oLt (eV 4) (eCb oLen (aCons (eV 1) aNil))) (eUn oNot (eONe 3))) (sSeq (sSet 5 (eCall 3 m_parse_rule (aCons (eV 2) (aCons (eV 1) (aCons (eV 4) aNil))))) (sSeq (sApp 3 (eV 5)) (sSet 4 (eBin oAdd (eBin oAdd (eV 4) (eC (.int 1))) (eCb oLen (aCons (eV 5) aNil))))))) (sFrz 3 (sSeq (sSet 6 (eTup (aCons (eV 2) (aCons (eCb (o1 oTupleOf) (aCons (eV 3) aNil)) aNil)))) (sSeq (sSet 7 (eCall 1 m_flow_error (aCons (eV 6) aNil))) (sSeq (sIf (eBin oNotN (eV 7) (eC .none)) (sRaise1 "BadFlow" "error" (eV 7)) sNil) (sRet (eV 6)))))))))))))
@[irreducible] def m_parse_flow : List Ar → T D := mkDef 8 F_parse_flow
theorem mq_parse_flow : m_parse_flow = mkDef 8 F_parse_flow := by
  unfold m_parse_flow
  rfl
theorem ok_parse_flow {P : Program} {w : World} {K : PySem.W.Frag} {mg : Str → Option Value} {base : Heap} {cad : Cad} {fa : Addr} {fd : FuncData} (Fu : Fun K "parse_flow" "parse_flow" St_parse_flow fa fd) (C_parse_rule : Cal P w K mg base cad "parse_rule" 5 3 m_parse_rule) (C_flow_error : Cal P w K mg base cad "flow_error" 6 1 m_flow_error) (b_isinstance : mg "isinstance" = none) (b_str : mg "str" = none) (b_int : mg "int" = none) (b_len : mg "len" = none) (b_tuple : mg "tuple" = none) (E_BadText : Err1 P w K mg base cad "BadText" "index") (E_BadFlow : Err1 P w K mg base cad "BadFlow" "error") : FnG P w K mg base 7 fa fd ["value"] (spD cad 1 m_parse_flow) :=
  by
  rw [mq_parse_flow]
  exact FnG.ofD (F := F_parse_flow) (N := N_parse_flow) Fu sc_parse_flow fun cdv A outer s H E hr hgu => (ss_cons (s_if (q_not (q_val (r_isa (by rfl) b_isinstance (pe_bltn (by rfl) b_str (by decide +kernel) rfl) (r_v 0 (pv 0)) kit_str))) (ss_one (s_raiseE E_BadText rfl (takes_of rfl rfl rfl rfl) hr (by first | decide | omega) (by rfl) r_non)) ss_nil) (ss_cons (s_set (ps_set (i := 1) sc_parse_flow.nd rfl (by first | exact .inl rfl | exact .inr rfl) (r_sm PySem.F.slot_str_split PySem.F.type_str_split mt_split m_split (r_v 0 (pv 0)) r_str))) (ss_cons (s_if (q_cmp (op_notInLT (un65 hr)) d_notInT (r_ix ix_seq d_ix (r_v 1 (pv 1)) r_int (fun _ _ => rfl)) (r_tup (a_cons r_str (a_cons r_str a_nil))) rfl) (ss_one (s_raiseE E_BadText rfl (takes_of rfl rfl rfl rfl) hr (by first | decide | omega) (by rfl) r_int)) ss_nil) (ss_cons (s_set (ps_set (i := 2) sc_parse_flow.nd rfl (by first | exact .inl rfl | exact .inr rfl) (r_bt call_int_str d_intT (by rfl) b_int (by decide +kernel) (a_cons (r_ix ix_seq d_ix (r_v 1 (pv 1)) r_int (fun _ _ => rfl)) a_nil)))) (ss_cons (s_own (ps_set (i := 3) sc_parse_flow.nd rfl (by first | exact .inl rfl | exact .inr rfl) (pe_lst a_nil))) (ss_cons (s_set (ps_set (i := 4) sc_parse_flow.nd rfl (by first | exact .inl rfl | exact .inr rfl) r_int)) (ss_cons (s_while (n := 200) (ps_while (passes_of rfl) (q_or (q_cmp op_lt d_cmp (r_v 4 (pv 4)) (r_b call_len_seq d_len (by rfl) b_len (by decide +kernel) (a_cons (r_v 1 (pv 1)) a_nil)) (nomark _)) (q_or1 (q_not (q_otruth (pv 3))))).pt (ss_cons (s_set (ps_set (i := 5) sc_parse_flow.nd rfl (by first | exact .inl rfl | exact .inr rfl) (r_cal C_parse_rule hr (by first | decide | omega) hgu (by rfl) (takes_of rfl rfl rfl rfl) (a_cons (r_v 2 (pv 2)) (a_cons (r_v 1 (pv 1)) (a_cons (r_v 4 (pv 4)) a_nil)))))) (ss_cons (s_app (ps_expr (pe_bm PySem.F.plainAttrs_list PySem.F.slot_list_append PySem.F.type_list_append mt_append (pv 3) (pa_cons (r_v 5 (pv 5)) pa_nil)))) (ss_one (s_set (ps_set (i := 4) sc_parse_flow.nd rfl (by first | exact .inl rfl | exact .inr rfl) (r_op op_addD d_add (r_op op_addD d_add (r_v 4 (pv 4)) r_int) (r_b call_len_seq d_len (by rfl) b_len (by decide +kernel) (a_cons (r_v 5 (pv 5)) a_nil)))))))))) (ss_frz (i := 3) (ss_cons (s_set (ps_set (i := 6) sc_parse_flow.nd rfl (by first | exact .inl rfl | exact .inr rfl) (r_tup (a_cons (r_v 2 (pv 2)) (a_cons (r_bt call_tuple_S d_tuple (by rfl) b_tuple (by decide +kernel) (a_cons (r_v 3 (pv 3)) a_nil)) a_nil))))) (ss_cons (s_set (ps_set (i := 7) sc_parse_flow.nd rfl (by first | exact .inl rfl | exact .inr rfl) (r_cal C_flow_error hr (by first | decide | omega) hgu (by rfl) (takes_of rfl rfl rfl rfl) (a_cons (r_v 6 (pv 6)) a_nil)))) (ss_cons (s_if (q_cmp op_notN d_notN (r_v 7 (pv 7)) r_non (nomark _)) (ss_one (s_raiseE E_BadFlow rfl (takes_of rfl rfl rfl rfl) hr (by first | decide | omega) (by rfl) (r_v 7 (pv 7)))) ss_nil) (ss_one (s_ret (r_v 6 (pv 6)))))))))))))))
/-! _law_opened -/
abbrev St_law_opened : Stmt := topS 32
abbrev N_law_opened : List Str := ["_law_script", "_law_cells", "_law_small", "_law_great", "_law_cell"]
theorem sc_law_opened : FnScope N_law_opened ["_law_script"] (defScope St_law_opened) := ⟨rfl, rfl, rfl, by decide +kernel, rfl, by decide +kernel, by decide +kernel⟩
theorem ok_law_opened {P : Program} {w : World} {K : PySem.W.Frag} {mg : Str → Option Value} {base : Heap} {cad : Cad} {fa : Addr} {fd : FuncData} (Fu : Fun K "_law_opened" "_law_opened" St_law_opened fa fd) (b_int : mg "int" = none) (b_abs : mg "abs" = none) : FnG P w K mg base 1 fa fd ["_law_script"] (spOpened K) :=
  FnG.of Fu sc_law_opened (fun vs H Q E h => by
    obtain ⟨a, ns, rfl, _⟩ := h
    rfl) fun cdv A outer s H vs Q E hr hg h => by
    refine ⟨_, pss_cons (ps_setLc (i := 1) (own := [("_law_cell", 4)]) rfl sc_law_opened.nd rfl rfl (by rfl) (pi_list (pe_slice sl_list (pv 0) po_none (po_some pe_int))) (blkOk_by (N := N_law_opened) (sc := defScope St_law_opened) (by decide +kernel)) (fun _ _ _ _ _ => pg_name (i := 4) sc_law_opened.nd rfl (by first | exact .inl rfl | exact .inr rfl)) (fun _ _ _ _ _ => pts_nil) (fun _ _ _ _ _ => pe_callB call_abs (by rfl) b_abs (by decide +kernel) (pa_cons (pv 4) pa_nil)))
      (pss_cons (ps_setLc (i := 2) (own := [("_law_cell", 4)]) rfl sc_law_opened.nd rfl rfl (by rfl) (pi_list (pv 1)) (blkOk_by (N := N_law_opened) (sc := defScope St_law_opened) (by decide +kernel)) (fun _ _ _ _ _ => pg_name (i := 4) sc_law_opened.nd rfl (by first | exact .inl rfl | exact .inr rfl)) (fun _ _ _ _ _ => pts_one (pt_cmpR op_lt (pv 4) (pe_op op_pow pe_int pe_int) (nomark _))) (fun _ _ _ _ _ => (pv 4)))
      (pss_cons (ps_setLc (i := 3) (own := [("_law_cell", 4)]) rfl sc_law_opened.nd rfl rfl (by rfl) (pi_list (pv 1)) (blkOk_by (N := N_law_opened) (sc := defScope St_law_opened) (by decide +kernel)) (fun _ _ _ _ _ => pg_name (i := 4) sc_law_opened.nd rfl (by first | exact .inl rfl | exact .inr rfl)) (fun _ _ _ _ _ => pts_one (pt_cmpR op_ge (pv 4) (pe_op op_pow pe_int pe_int) (nomark _))) (fun _ _ _ _ _ => (pv 4)))
      (pss_one (ps_ret (pe_disp (pps_cons pe_str (pv 3) (pps_cons pe_str (pe_op op_cat (pv 2) (pe_op op_rep (pe_lst (pa_cons pe_int pa_nil)) (pe_callTy call_int1 (by rfl) b_int (by decide +kernel) (pa_cons (pe_cmpR (op_eqD hr.units) (pv 2) (pe_lst pa_nil) (nomark _)) pa_nil)))) (pps_cons pe_str pe_int pps_nil))) (by rfl) (by rfl) (fun z => by cases z) (by decide)))))), ?_⟩
    exact opened_reads (c := 89) (by decide) (by decide) rfl h
/-! _law_draw -/
abbrev St_law_draw : Stmt := topS 33
abbrev N_law_draw : List Str := ["_law_box", "_law_many", "_law_great", "_law_digit", "_law_cell", "_law_mixed"]
theorem sc_law_draw : FnScope N_law_draw ["_law_box", "_law_many"] (defScope St_law_draw) := ⟨rfl, rfl, rfl, by decide +kernel, rfl, by decide +kernel, by decide +kernel⟩
abbrev m_law_draw := mDraw
theorem ok_law_draw {P : Program} {w : World} {K : PySem.W.Frag} {mg : Str → Option Value} {base : Heap} {cad : Cad} {fa : Addr} {fd : FuncData} (Fu : Fun K "_law_draw" "_law_draw" St_law_draw fa fd) (b_int : mg "int" = none) (b_len : mg "len" = none) : FnG P w K mg base 1 fa fd ["_law_box", "_law_many"] (spD cad 2 mDraw) :=
  FnG.of Fu sc_law_draw (fun vs H Q E h => h.1) fun cdv A outer s H vs Q E hr hg h => by
    refine ⟨_, pss_cons (ps_set (i := 2) sc_law_draw.nd rfl (by first | exact .inl rfl | exact .inr rfl) (pe_dget (un1 hr) (pv 0) pe_str (fun _ _ => rfl)))
      (pss_cons (ps_while (passes_of rfl) (pt_cmpR (op_neD hr.units) (pv 2) (pe_lst pa_nil) (nomark _))
        (pss_cons (ps_if (pt_cmpR op_gt (pe_ix ix_list (pv 2) (pe_un un_neg pe_int) (fun _ _ => rfl)) pe_int (nomark _))
            (pss_cons (ps_set (i := 3) sc_law_draw.nd rfl (by first | exact .inl rfl | exact .inr rfl) (pe_op op_modN (pe_callTy call_int1 (by rfl) b_int (by decide +kernel) (pa_cons (pe_ix ix_list (pv 2) (pe_un un_neg pe_int) (fun _ _ => rfl)) pa_nil)) (pv 1))) (pss_cons (ps_asg (pe_op op_fdivD (pe_callTy call_int1 (by rfl) b_int (by decide +kernel) (pa_cons (pe_ix ix_list (pv 2) (pe_un un_neg pe_int) (fun _ _ => rfl)) pa_nil)) (pv 1)) (pg_sub (pv 2) (pe_un un_neg pe_int) set_list)) (pss_one (ps_ret (pv 3))))) pss_nil)
          (pss_one (ps_expr (pe_bm0 PySem.F.plainAttrs_list PySem.F.slot_list_pop PySem.F.type_list_pop mt_pop (pv 2))))))
      (pss_cons (ps_dput (un1 hr) (pv 0) pe_str (pe_op op_add (pe_dget (un1 hr) (pv 0) pe_str (fun _ _ => rfl)) pe_int) rfl)
      (pss_cons (ps_set (i := 4) sc_law_draw.nd rfl (by first | exact .inl rfl | exact .inr rfl) (pe_ix ix_list (pe_dget (un1 hr) (pv 0) pe_str (fun _ _ => rfl)) (pe_op op_modN (pe_callTy call_int1 (by rfl) b_int (by decide +kernel) (pa_cons (pe_dget (un1 hr) (pv 0) pe_str (fun _ _ => rfl)) pa_nil)) (pe_callB call_len_seq (by rfl) b_len (by decide +kernel) (pa_cons (pe_dget (un1 hr) (pv 0) pe_str (fun _ _ => rfl)) pa_nil))) (fun _ _ => rfl)))
      (pss_cons (ps_set (i := 5) sc_law_draw.nd rfl (by first | exact .inl rfl | exact .inr rfl) (pe_op op_add (pe_op op_mul (pv 4) pe_int) (pe_op op_mul (pe_dget (un1 hr) (pv 0) pe_str (fun _ _ => rfl)) pe_int))) (pss_cons (ps_set (i := 5) sc_law_draw.nd rfl (by first | exact .inl rfl | exact .inr rfl) (pe_op op_modN (pe_callTy call_int1 (by rfl) b_int (by decide +kernel) (pa_cons (pv 5) pa_nil)) pe_int)) (pss_cons (ps_set (i := 5) sc_law_draw.nd rfl (by first | exact .inl rfl | exact .inr rfl) (pe_op op_modN (pe_callTy call_int1 (by rfl) b_int (by decide +kernel) (pa_cons (pe_op op_mul (pv 5) (pe_op op_add (pe_op op_fdivD (pv 5) pe_int) pe_int)) pa_nil)) pe_int)) (pss_one (ps_ret (pe_op op_modN (pe_callTy call_int1 (by rfl) b_int (by decide +kernel) (pa_cons (pe_op op_fdivD (pv 5) pe_int) pa_nil)) (pv 1)))))))))), ?_⟩
    exact drawn_reads true restA rfl h fun b gr m cell t H' hd m0 m1 q => restA_reads _ b gr m cell t H' hd m0 q
/-! _law_one -/
abbrev St_law_one : Stmt := topS 34
abbrev N_law_one : List Str := ["_law_box", "_law_items"]
theorem sc_law_one : FnScope N_law_one ["_law_box", "_law_items"] (defScope St_law_one) := ⟨rfl, rfl, rfl, by decide +kernel, rfl, by decide +kernel, by decide +kernel⟩
def F_law_one : Env' → T Fl := (sRet (eBin oIx (eV 1) (eCall 2 m_law_draw (aBox 0 (aCons (eCb oLen (aCons (eV 1) aNil)) aNil)))))
@[irreducible] def m_law_one : List Ar → T D := mkDef 2 F_law_one
theorem mq_law_one : m_law_one = mkDef 2 F_law_one := by
  unfold m_law_one
  rfl
theorem ok_law_one {P : Program} {w : World} {K : PySem.W.Frag} {mg : Str → Option Value} {base : Heap} {cad : Cad} {fa : Addr} {fd : FuncData} (Fu : Fun K "_law_one" "_law_one" St_law_one fa fd) (C_law_draw : Cal P w K mg base cad "_law_draw" 1 2 m_law_draw) (b_len : mg "len" = none) : FnG P w K mg base 2 fa fd ["_law_box", "_law_items"] (spD cad 2 m_law_one) :=
  by
  rw [mq_law_one]
  exact FnG.ofD (F := F_law_one) (N := N_law_one) Fu sc_law_one fun cdv A outer s H E hr hgu => (ss_one (s_ret (r_ix ix_seq d_ix (r_v 1 (pv 1)) (r_cal C_law_draw hr (by first | decide | omega) hgu (by rfl) (takes_of rfl rfl rfl rfl) (a_box (i := 0) (pv 0) (a_cons (r_b call_len_seq d_len (by rfl) b_len (by decide +kernel) (a_cons (r_v 1 (pv 1)) a_nil)) a_nil))) (fun _ _ => rfl))))
/-! _law_kinds -/
abbrev St_law_kinds : Stmt := topS 35
abbrev N_law_kinds : List Str := []
theorem sc_law_kinds : FnScope N_law_kinds [] (defScope St_law_kinds) := ⟨rfl, rfl, rfl, by decide +kernel, rfl, by decide +kernel, by decide +kernel⟩
def F_law_kinds : Env' → T Fl := (sRet (eDct [("copy", (eC (.int 1))), ("neg", (eC (.int 1))), ("add", (eC (.int 2))), ("sub", (eC (.int 2))), ("mul", (eC (.int 2))), ("least", (eC (.int 2))), ("most", (eC (.int 2))), ("madd", (eC (.int 3)))]))
@[irreducible] def m_law_kinds : List Ar → T D := mkDef 0 F_law_kinds
theorem mq_law_kinds : m_law_kinds = mkDef 0 F_law_kinds := by
  unfold m_law_kinds
  rfl
theorem ok_law_kinds {P : Program} {w : World} {K : PySem.W.Frag} {mg : Str → Option Value} {base : Heap} {cad : Cad} {fa : Addr} {fd : FuncData} (Fu : Fun K "_law_kinds" "_law_kinds" St_law_kinds fa fd)  : FnG P w K mg base 2 fa fd [] (spD cad 0 m_law_kinds) :=
  by
  rw [mq_law_kinds]
  exact FnG.ofD (F := F_law_kinds) (N := N_law_kinds) Fu sc_law_kinds fun cdv A outer s H E hr hgu => (ss_one (s_ret (r_dct (l := [("copy", (eC (.int 1))), ("neg", (eC (.int 1))), ("add", (eC (.int 2))), ("sub", (eC (.int 2))), ("mul", (eC (.int 2))), ("least", (eC (.int 2))), ("most", (eC (.int 2))), ("madd", (eC (.int 3)))]) (pps_cons pe_str r_int (pps_cons pe_str r_int (pps_cons pe_str r_int (pps_cons pe_str r_int (pps_cons pe_str r_int (pps_cons pe_str r_int (pps_cons pe_str r_int (pps_cons pe_str r_int pps_nil)))))))) (by rfl) (by rfl) (fun z => by cases z) (by decide))))
/-! _law_vector -/
abbrev St_law_vector : Stmt := topS 36
abbrev N_law_vector : List Str := ["_law_box", "_law_dims", "_law_most", "_law_k"]
theorem sc_law_vector : FnScope N_law_vector ["_law_box", "_law_dims", "_law_most"] (defScope St_law_vector) := ⟨rfl, rfl, rfl, by decide +kernel, rfl, by decide +kernel, by decide +kernel⟩
def F_law_vector : Env' → T Fl := (sRet (eCb (o1 oTupleOf) (aCons (eLc [3] (iArg oRng1 (aCons (eV 1) aNil)) (bName 3) tTrue (eBin oSub (eCall 2 m_law_draw (aBox 0 (aCons (eBin oAdd (eBin oMul (eC (.int 2)) (eV 2)) (eC (.int 1))) aNil))) (eV 2))) aNil)))
@[irreducible] def m_law_vector : List Ar → T D := mkDef 4 F_law_vector
theorem mq_law_vector : m_law_vector = mkDef 4 F_law_vector := by
  unfold m_law_vector
  rfl
theorem ok_law_vector {P : Program} {w : World} {K : PySem.W.Frag} {mg : Str → Option Value} {base : Heap} {cad : Cad} {fa : Addr} {fd : FuncData} (Fu : Fun K "_law_vector" "_law_vector" St_law_vector fa fd) (C_law_draw : Cal P w K mg base cad "_law_draw" 1 2 m_law_draw) (b_tuple : mg "tuple" = none) (b_range : mg "range" = none) : FnG P w K mg base 2 fa fd ["_law_box", "_law_dims", "_law_most"] (spD cad 3 m_law_vector) :=
  by
  rw [mq_law_vector]
  exact FnG.ofD (F := F_law_vector) (N := N_law_vector) Fu sc_law_vector fun cdv A outer s H E hr hgu => (ss_one (s_ret (r_bt call_tuple_S d_tuple (by rfl) b_tuple (by decide +kernel) (a_cons (r_lc (own := [("_law_k", 3)]) rfl sc_law_vector.nd (i_rng1 (by rfl) b_range (a_cons (r_v 1 (pv 1)) a_nil)) (blkOk_by (N := N_law_vector) (sc := defScope St_law_vector) (by decide +kernel)) (fun _ _ _ _ _ => (g_name (pg_name (i := 3) sc_law_vector.nd rfl (by first | exact .inl rfl | exact .inr rfl)))) (fun _ _ _ _ _ => pts_yes) (fun _ _ _ _ _ => (r_op op_sub d_sub (r_cal C_law_draw hr (by first | decide | omega) hgu (by rfl) takes0 (a_box (i := 0) (pv 0) (a_cons (r_op op_addD d_add (r_op op_mulD d_mul r_int (r_v 2 (pv 2))) r_int) a_nil))) (r_v 2 (pv 2)))) (by decide)) a_nil))))
/-! _law_rule -/
abbrev St_law_rule : Stmt := topS 37
abbrev N_law_rule : List Str := ["_law_box", "_law_dims", "_law_many", "_law_kind", "_law_k"]
theorem sc_law_rule : FnScope N_law_rule ["_law_box", "_law_dims", "_law_many"] (defScope St_law_rule) := ⟨rfl, rfl, rfl, by decide +kernel, rfl, by decide +kernel, by decide +kernel⟩
def F_law_rule : Env' → T Fl := (sSeq (sSet 3 (eCall 2 m_law_one (aBox 0 (aCons (eLst (aCons (eC (.str "copy")) (aCons (eC (.str "neg")) (aCons (eC (.str "add")) (aCons (eC (.str "sub")) (aCons (eC (.str "mul")) (aCons (eC (.str "least")) (aCons (eC (.str "most")) (aCons (eC (.str "madd")) aNil))))))))) aNil)))) (sRet (eBin oAdd (eTup (aCons (eV 3) aNil)) (eCb (o1 oTupleOf) (aCons (eLc [4] (iArg oRng1 (aCons (eBin oDGet (eCall 0 m_law_kinds aNil) (eV 3)) aNil)) (bName 4) tTrue (eTup (aCons (eCall 2 m_law_draw (aBox 0 (aCons (eV 2) aNil))) (aCons (eCall 3 m_law_vector (aBox 0 (aCons (eV 1) (aCons (eC (.int 4)) aNil)))) aNil)))) aNil)))))
@[irreducible] def m_law_rule : List Ar → T D := mkDef 5 F_law_rule
theorem mq_law_rule : m_law_rule = mkDef 5 F_law_rule := by
  unfold m_law_rule
  rfl
theorem ok_law_rule {P : Program} {w : World} {K : PySem.W.Frag} {mg : Str → Option Value} {base : Heap} {cad : Cad} {fa : Addr} {fd : FuncData} (Fu : Fun K "_law_rule" "_law_rule" St_law_rule fa fd) (C_law_one : Cal P w K mg base cad "_law_one" 2 2 m_law_one) (C_law_kinds : Cal P w K mg base cad "_law_kinds" 2 0 m_law_kinds) (C_law_vector : Cal P w K mg base cad "_law_vector" 2 3 m_law_vector) (C_law_draw : Cal P w K mg base cad "_law_draw" 1 2 m_law_draw) (b_tuple : mg "tuple" = none) (b_range : mg "range" = none) : FnG P w K mg base 3 fa fd ["_law_box", "_law_dims", "_law_many"] (spD cad 3 m_law_rule) :=
  by
  rw [mq_law_rule]
  exact FnG.ofD (F := F_law_rule) (N := N_law_rule) Fu sc_law_rule fun cdv A outer s H E hr hgu => (ss_cons (s_set (ps_set (i := 3) sc_law_rule.nd rfl (by first | exact .inl rfl | exact .inr rfl) (r_cal C_law_one hr (by first | decide | omega) hgu (by rfl) (takes_of rfl rfl rfl rfl) (a_box (i := 0) (pv 0) (a_cons (r_lst (a_cons r_str (a_cons r_str (a_cons r_str (a_cons r_str (a_cons r_str (a_cons r_str (a_cons r_str (a_cons r_str a_nil))))))))) a_nil))))) (ss_one (s_ret (r_op op_addD d_add (r_tup (a_cons (r_v 3 (pv 3)) a_nil)) (r_bt call_tuple_S d_tuple (by rfl) b_tuple (by decide +kernel) (a_cons (r_lc (own := [("_law_k", 4)]) rfl sc_law_rule.nd (i_rng1 (by rfl) b_range (a_cons (r_dget (un1 hr) (r_cal0 C_law_kinds hr (by first | decide | omega) hgu (by rfl) (takes_of rfl rfl rfl rfl)) (r_v 3 (pv 3)) (fun _ _ => rfl)) a_nil)) (blkOk_by (N := N_law_rule) (sc := defScope St_law_rule) (by decide +kernel)) (fun _ _ _ _ _ => (g_name (pg_name (i := 4) sc_law_rule.nd rfl (by first | exact .inl rfl | exact .inr rfl)))) (fun _ _ _ _ _ => pts_yes) (fun _ _ _ _ _ => (r_tup (a_cons (r_cal C_law_draw hr (by first | decide | omega) hgu (by rfl) takes0 (a_box (i := 0) (pv 0) (a_cons (r_v 2 (pv 2)) a_nil))) (a_cons (r_cal C_law_vector hr (by first | decide | omega) hgu (by rfl) takes0 (a_box (i := 0) (pv 0) (a_cons (r_v 1 (pv 1)) (a_cons r_int a_nil)))) a_nil)))) (by decide)) a_nil))))))
/-! _law_flow -/
abbrev St_law_flow : Stmt := topS 38
abbrev N_law_flow : List Str := ["_law_box", "_law_dims", "_law_many", "_law_k"]
theorem sc_law_flow : FnScope N_law_flow ["_law_box"] (defScope St_law_flow) := ⟨rfl, rfl, rfl, by decide +kernel, rfl, by decide +kernel, by decide +kernel⟩
def F_law_flow : Env' → T Fl := (sSeq (sUnp (bTup [1, 2]) (eTup (aCons (eBin oAdd (eC (.int 2)) (eCall 2 m_law_draw (aBox 0 (aCons (eC (.int 2)) aNil)))) (aCons (eBin oAdd (eC (.int 1)) (eCall 2 m_law_draw (aBox 0 (aCons (eC (.int 6)) aNil)))) aNil)))) (sRet (eTup (aCons (eV 1) (aCons (eCb (o1 oTupleOf) (aCons (eLc [3] (iArg oRng1 (aCons (eV 2) aNil)) (bName 3) tTrue (eCall 3 m_law_rule (aBox 0 (aCons (eV 1) (aCons (eV 2) aNil))))) aNil)) aNil)))))
@[irreducible] def m_law_flow : List Ar → T D := mkDef 4 F_law_flow
theorem mq_law_flow : m_law_flow = mkDef 4 F_law_flow := by
  unfold m_law_flow
  rfl
theorem ok_law_flow {P : Program} {w : World} {K : PySem.W.Frag} {mg : Str → Option Value} {base : Heap} {cad : Cad} {fa : Addr} {fd : FuncData} (Fu : Fun K "_law_flow" "_law_flow" St_law_flow fa fd) (C_law_draw : Cal P w K mg base cad "_law_draw" 1 2 m_law_draw) (C_law_rule : Cal P w K mg base cad "_law_rule" 3 3 m_law_rule) (b_tuple : mg "tuple" = none) (b_range : mg "range" = none) : FnG P w K mg base 4 fa fd ["_law_box"] (spD cad 1 m_law_flow) :=
  by
  rw [mq_law_flow]
  exact FnG.ofD (F := F_law_flow) (N := N_law_flow) Fu sc_law_flow fun cdv A outer s H E hr hgu => (ss_cons (s_unp (is := [1, 2]) rfl (ps_asg (r_tup (a_cons (r_op op_addD d_add r_int (r_cal C_law_draw hr (by first | decide | omega) hgu (by rfl) (takes_of rfl rfl rfl rfl) (a_box (i := 0) (pv 0) (a_cons r_int a_nil)))) (a_cons (r_op op_addD d_add r_int (r_cal C_law_draw hr (by first | decide | omega) hgu (by rfl) (takes_of rfl rfl rfl rfl) (a_box (i := 0) (pv 0) (a_cons r_int a_nil)))) a_nil))) (pg_tup rfl (pgs_cons (pg_name (i := 1) sc_law_flow.nd rfl (by first | exact .inl rfl | exact .inr rfl)) (pgs_cons (pg_name (i := 2) sc_law_flow.nd rfl (by first | exact .inl rfl | exact .inr rfl)) pgs_nil))))) (ss_one (s_ret (r_tup (a_cons (r_v 1 (pv 1)) (a_cons (r_bt call_tuple_S d_tuple (by rfl) b_tuple (by decide +kernel) (a_cons (r_lc (own := [("_law_k", 3)]) rfl sc_law_flow.nd (i_rng1 (by rfl) b_range (a_cons (r_v 2 (pv 2)) a_nil)) (blkOk_by (N := N_law_flow) (sc := defScope St_law_flow) (by decide +kernel)) (fun _ _ _ _ _ => (g_name (pg_name (i := 3) sc_law_flow.nd rfl (by first | exact .inl rfl | exact .inr rfl)))) (fun _ _ _ _ _ => pts_yes) (fun _ _ _ _ _ => (r_cal C_law_rule hr (by first | decide | omega) hgu (by rfl) takes0 (a_box (i := 0) (pv 0) (a_cons (r_v 1 (pv 1)) (a_cons (r_v 2 (pv 2)) a_nil))))) (by decide)) a_nil)) a_nil))))))
/-! _law_vector_text -/
abbrev St_law_vector_text : Stmt := topS 39
abbrev N_law_vector_text : List Str := ["_law_vector_here", "_law_item"]
theorem sc_law_vector_text : FnScope N_law_vector_text ["_law_vector_here"] (defScope St_law_vector_text) := ⟨rfl, rfl, rfl, by decide +kernel, rfl, by decide +kernel, by decide +kernel⟩
def F_law_vector_text : Env' → T Fl := (sRet (eSM oJoinS (eC (.str ",")) (eLc [1] (iSeq (eV 0)) (bName 1) tTrue (eCb (o1 oStrI) (aCons (eV 1) aNil)))))
@[irreducible] def m_law_vector_text : List Ar → T D := mkDef 2 F_law_vector_text
theorem mq_law_vector_text : m_law_vector_text = mkDef 2 F_law_vector_text := by
  unfold m_law_vector_text
  rfl
theorem ok_law_vector_text {P : Program} {w : World} {K : PySem.W.Frag} {mg : Str → Option Value} {base : Heap} {cad : Cad} {fa : Addr} {fd : FuncData} (Fu : Fun K "_law_vector_text" "_law_vector_text" St_law_vector_text fa fd) (b_str : mg "str" = none) : FnG P w K mg base 2 fa fd ["_law_vector_here"] (spD cad 1 m_law_vector_text) :=
  by
  rw [mq_law_vector_text]
  exact FnG.ofD (F := F_law_vector_text) (N := N_law_vector_text) Fu sc_law_vector_text fun cdv A outer s H E hr hgu => (ss_one (s_ret (r_sm PySem.F.slot_str_join PySem.F.type_str_join mt_join m_join r_str (r_lc (own := [("_law_item", 1)]) rfl sc_law_vector_text.nd (i_seq (r_v 0 (pv 0))) (blkOk_by (N := N_law_vector_text) (sc := defScope St_law_vector_text) (by decide +kernel)) (fun _ _ _ _ _ => (g_name (pg_name (i := 1) sc_law_vector_text.nd rfl (by first | exact .inl rfl | exact .inr rfl)))) (fun _ _ _ _ _ => pts_yes) (fun _ _ _ _ _ => (r_bt call_str_int d_strI (by rfl) b_str (by decide +kernel) (a_cons (r_v 1 (pv 1)) a_nil))) (by decide)))))
/-! _law_rule_text -/
abbrev St_law_rule_text : Stmt := topS 40
abbrev N_law_rule_text : List Str := ["_law_rule_here", "_law_read"]
theorem sc_law_rule_text : FnScope N_law_rule_text ["_law_rule_here"] (defScope St_law_rule_text) := ⟨rfl, rfl, rfl, by decide +kernel, rfl, by decide +kernel, by decide +kernel⟩
def F_law_rule_text : Env' → T Fl := (sRet (eSM oJoinS (eC (.str " ")) (eBin oAdd (eLst (aCons (eBin oIx (eV 0) (eC (.int 0))) aNil)) (eLc [1] (iSeq (eSl (eV 0) (pSome (eC (.int 1))) pNone)) (bName 1) tTrue (eBin oAdd (eBin oAdd (eCb (o1 oStrI) (aCons (eBin oIx (eV 1) (eC (.int 0))) aNil)) (eC (.str "@"))) (eCall 1 m_law_vector_text (aCons (eBin oIx (eV 1) (eC (.int 1))) aNil)))))))
@[irreducible] def m_law_rule_text : List Ar → T D := mkDef 2 F_law_rule_text
theorem mq_law_rule_text : m_law_rule_text = mkDef 2 F_law_rule_text := by
  unfold m_law_rule_text
  rfl
theorem ok_law_rule_text {P : Program} {w : World} {K : PySem.W.Frag} {mg : Str → Option Value} {base : Heap} {cad : Cad} {fa : Addr} {fd : FuncData} (Fu : Fun K "_law_rule_text" "_law_rule_text" St_law_rule_text fa fd) (C_law_vector_text : Cal P w K mg base cad "_law_vector_text" 2 1 m_law_vector_text) (b_str : mg "str" = none) : FnG P w K mg base 3 fa fd ["_law_rule_here"] (spD cad 1 m_law_rule_text) :=
  by
  rw [mq_law_rule_text]
  exact FnG.ofD (F := F_law_rule_text) (N := N_law_rule_text) Fu sc_law_rule_text fun cdv A outer s H E hr hgu => (ss_one (s_ret (r_sm PySem.F.slot_str_join PySem.F.type_str_join mt_join m_join r_str (r_op op_addD d_add (r_lst (a_cons (r_ix ix_seq d_ix (r_v 0 (pv 0)) r_int (fun _ _ => rfl)) a_nil)) (r_lc (own := [("_law_read", 1)]) rfl sc_law_rule_text.nd (i_seq (r_sl (r_v 0 (pv 0)) (p_some r_int) p_none)) (blkOk_by (N := N_law_rule_text) (sc := defScope St_law_rule_text) (by decide +kernel)) (fun _ _ _ _ _ => (g_name (pg_name (i := 1) sc_law_rule_text.nd rfl (by first | exact .inl rfl | exact .inr rfl)))) (fun _ _ _ _ _ => pts_yes) (fun _ _ _ _ _ => (r_op op_addD d_add (r_op op_addD d_add (r_bt call_str_int d_strI (by rfl) b_str (by decide +kernel) (a_cons (r_ix ix_seq d_ix (r_v 1 (pv 1)) r_int (fun _ _ => rfl)) a_nil)) r_str) (r_cal C_law_vector_text hr (by first | decide | omega) hgu (by rfl) takes0 (a_cons (r_ix ix_seq d_ix (r_v 1 (pv 1)) r_int (fun _ _ => rfl)) a_nil)))) (by decide))))))
/-! _law_flow_text -/
abbrev St_law_flow_text : Stmt := topS 41
abbrev N_law_flow_text : List Str := ["_law_flow_here", "_law_rule_here"]
theorem sc_law_flow_text : FnScope N_law_flow_text ["_law_flow_here"] (defScope St_law_flow_text) := ⟨rfl, rfl, rfl, by decide +kernel, rfl, by decide +kernel, by decide +kernel⟩
def F_law_flow_text : Env' → T Fl := (sRet (eSM oJoinS (eC (.str " ")) (eBin oAdd (eLst (aCons (eCb (o1 oStrI) (aCons (eBin oIx (eV 0) (eC (.int 0))) aNil)) aNil)) (eLc [1] (iSeq (eBin oIx (eV 0) (eC (.int 1)))) (bName 1) tTrue (eBin oAdd (eC (.str "/ ")) (eCall 1 m_law_rule_text (aCons (eV 1) aNil)))))))
@[irreducible] def m_law_flow_text : List Ar → T D := mkDef 2 F_law_flow_text
theorem mq_law_flow_text : m_law_flow_text = mkDef 2 F_law_flow_text := by
  unfold m_law_flow_text
  rfl
theorem ok_law_flow_text {P : Program} {w : World} {K : PySem.W.Frag} {mg : Str → Option Value} {base : Heap} {cad : Cad} {fa : Addr} {fd : FuncData} (Fu : Fun K "_law_flow_text" "_law_flow_text" St_law_flow_text fa fd) (C_law_rule_text : Cal P w K mg base cad "_law_rule_text" 3 1 m_law_rule_text) (b_str : mg "str" = none) : FnG P w K mg base 4 fa fd ["_law_flow_here"] (spD cad 1 m_law_flow_text) :=
  by
  rw [mq_law_flow_text]
  exact FnG.ofD (F := F_law_flow_text) (N := N_law_flow_text) Fu sc_law_flow_text fun cdv A outer s H E hr hgu => (ss_one (s_ret (r_sm PySem.F.slot_str_join PySem.F.type_str_join mt_join m_join r_str (r_op op_addD d_add (r_lst (a_cons (r_bt call_str_int d_strI (by rfl) b_str (by decide +kernel) (a_cons (r_ix ix_seq d_ix (r_v 0 (pv 0)) r_int (fun _ _ => rfl)) a_nil)) a_nil)) (r_lc (own := [("_law_rule_here", 1)]) rfl sc_law_flow_text.nd (i_seq (r_ix ix_seq d_ix (r_v 0 (pv 0)) r_int (fun _ _ => rfl))) (blkOk_by (N := N_law_flow_text) (sc := defScope St_law_flow_text) (by decide +kernel)) (fun _ _ _ _ _ => (g_name (pg_name (i := 1) sc_law_flow_text.nd rfl (by first | exact .inl rfl | exact .inr rfl)))) (fun _ _ _ _ _ => pts_yes) (fun _ _ _ _ _ => (r_op op_addD d_add r_str (r_cal C_law_rule_text hr (by first | decide | omega) hgu (by rfl) takes0 (a_cons (r_v 1 (pv 1)) a_nil)))) (by decide))))))
/-! _law_numbers -/
abbrev St_law_numbers : Stmt := topS 42
abbrev N_law_numbers : List Str := ["_law_box", "_law_many", "_law_some", "_law_k"]
theorem sc_law_numbers : FnScope N_law_numbers ["_law_box", "_law_many"] (defScope St_law_numbers) := ⟨rfl, rfl, rfl, by decide +kernel, rfl, by decide +kernel, by decide +kernel⟩
def F_law_numbers : Env' → T Fl := (sSeq (sSet 2 (eLst (aCons (eC (.int 0)) (aCons (eC (.int 1)) (aCons (eUn oNeg (eC (.int 1))) (aCons (eC (.int 10)) (aCons (eUn oNeg (eC (.int 60))) (aCons (eBin oPow (eC (.int 10)) (eC (.int 9))) (aCons (eUn oNeg (eBin oPow (eC (.int 10)) (eC (.int 12)))) (aCons (eBin oPow (eC (.int 10)) (eC (.int 39))) (aCons (eCall 2 m_law_draw (aBox 0 (aCons (eBin oPow (eC (.int 10)) (eC (.int 6))) aNil))) (aCons (eUn oNeg (eCall 2 m_law_draw (aBox 0 (aCons (eBin oPow (eC (.int 10)) (eC (.int 6))) aNil)))) aNil)))))))))))) (sRet (eCb (o1 oTupleOf) (aCons (eLc [3] (iArg oRng1 (aCons (eV 1) aNil)) (bName 3) tTrue (eCall 2 m_law_one (aBox 0 (aCons (eV 2) aNil)))) aNil))))
@[irreducible] def m_law_numbers : List Ar → T D := mkDef 4 F_law_numbers
theorem mq_law_numbers : m_law_numbers = mkDef 4 F_law_numbers := by
  unfold m_law_numbers
  rfl
theorem ok_law_numbers {P : Program} {w : World} {K : PySem.W.Frag} {mg : Str → Option Value} {base : Heap} {cad : Cad} {fa : Addr} {fd : FuncData} (Fu : Fun K "_law_numbers" "_law_numbers" St_law_numbers fa fd) (C_law_draw : Cal P w K mg base cad "_law_draw" 1 2 m_law_draw) (C_law_one : Cal P w K mg base cad "_law_one" 2 2 m_law_one) (b_tuple : mg "tuple" = none) (b_range : mg "range" = none) : FnG P w K mg base 3 fa fd ["_law_box", "_law_many"] (spD cad 2 m_law_numbers) :=
  by
  rw [mq_law_numbers]
  exact FnG.ofD (F := F_law_numbers) (N := N_law_numbers) Fu sc_law_numbers fun cdv A outer s H E hr hgu => (ss_cons (s_set (ps_set (i := 2) sc_law_numbers.nd rfl (by first | exact .inl rfl | exact .inr rfl) (r_lst (a_cons r_int (a_cons r_int (a_cons (r_un un_neg d_neg r_int) (a_cons r_int (a_cons (r_un un_neg d_neg r_int) (a_cons (r_op op_pow d_pow r_int r_int) (a_cons (r_un un_neg d_neg (r_op op_pow d_pow r_int r_int)) (a_cons (r_op op_pow d_pow r_int r_int) (a_cons (r_cal C_law_draw hr (by first | decide | omega) hgu (by rfl) (takes_of rfl rfl rfl rfl) (a_box (i := 0) (pv 0) (a_cons (r_op op_pow d_pow r_int r_int) a_nil))) (a_cons (r_un un_neg d_neg (r_cal C_law_draw hr (by first | decide | omega) hgu (by rfl) (takes_of rfl rfl rfl rfl) (a_box (i := 0) (pv 0) (a_cons (r_op op_pow d_pow r_int r_int) a_nil)))) a_nil))))))))))))) (ss_one (s_ret (r_bt call_tuple_S d_tuple (by rfl) b_tuple (by decide +kernel) (a_cons (r_lc (own := [("_law_k", 3)]) rfl sc_law_numbers.nd (i_rng1 (by rfl) b_range (a_cons (r_v 1 (pv 1)) a_nil)) (blkOk_by (N := N_law_numbers) (sc := defScope St_law_numbers) (by decide +kernel)) (fun _ _ _ _ _ => (g_name (pg_name (i := 3) sc_law_numbers.nd rfl (by first | exact .inl rfl | exact .inr rfl)))) (fun _ _ _ _ _ => pts_yes) (fun _ _ _ _ _ => (r_cal C_law_one hr (by first | decide | omega) hgu (by rfl) takes0 (a_box (i := 0) (pv 0) (a_cons (r_v 2 (pv 2)) a_nil)))) (by decide)) a_nil)))))
/-! law -/
abbrev St_law : Stmt := topS 43
abbrev N_law : List Str := ["_law_script", "_law_box", "_law_turn", "_law_flow_here", "_law_numbers_here", "_law_starts", "_law_vector_here", "_law_timing", "_law_shown", "_law_text", "_law_row", "_law_due", "_law_rule_here", "_law_number", "_law_start"]
theorem sc_law : FnScope N_law ["_law_script"] (defScope St_law) := ⟨rfl, rfl, rfl, by decide +kernel, rfl, by decide +kernel, by decide +kernel⟩
def B0_law : Env' → T Fl := (sSeq (sPar 3 4 (aCons (eCall 1 m_law_flow (aBox 1 aNil)) (aCons (eCall 2 m_law_numbers (aBox 1 (aCons (eCall 2 m_law_draw (aBox 1 (aCons (eC (.int 7)) aNil))) aNil))) aNil))) (sSeq (sSet 5 (eCb (o1 oTupleOf) (aCons (eLc [12] (iSeq (eBin oIx (eV 3) (eC (.int 1)))) (bName 12) tTrue (eBin oSub (eCall 2 m_law_draw (aBox 1 (aCons (eC (.int 20001)) aNil))) (eC (.int 10000)))) aNil))) (sSeq (sPar 6 7 (aCons (eCall 2 m_law_numbers (aBox 1 (aCons (eBin oIx (eV 3) (eC (.int 0))) aNil))) (aCons (eTup (aCons (eCall 3 m_law_vector (aBox 1 (aCons (eBin oIx (eV 3) (eC (.int 0))) (aCons (eC (.int 60)) aNil)))) (aCons (eV 5) aNil))) aNil))) (sSeq (sPar 8 9 (aCons (eCb (o1 oRepr) (aCons (eLst (aCons (eV 3) (aCons (eV 4) (aCons (eV 6) (aCons (eV 7) aNil))))) aNil)) (aCons (eCall 1 m_law_flow_text (aCons (eV 3) aNil)) aNil))) (sSeq (sIf (eOr (eBin oNe (eLst (aCons (eCall 1 m_flow_text (aCons (eV 3) aNil)) (aCons (eCall 1 m_flow_text (aCons (eV 3) aNil)) aNil))) (eLst (aCons (eV 9) (aCons (eV 9) aNil)))) (eBin oNe (eCb (o1 oRepr) (aCons (eCall 1 m_parse_flow (aCons (eV 9) aNil)) aNil)) (eCb (o1 oRepr) (aCons (eV 3) aNil)))) (sRet (eC (.bool false))) sNil) (sSeq (sIf (eBin oNe (eLc [12] (iSeq (eBin oIx (eV 3) (eC (.int 1)))) (bName 12) tTrue (eCall 1 m_rule_text (aCons (eV 12) aNil))) (eLc [12] (iSeq (eBin oIx (eV 3) (eC (.int 1)))) (bName 12) tTrue (eCall 1 m_law_rule_text (aCons (eV 12) aNil)))) (sRet (eC (.bool false))) sNil) (sSeq (sSet 10 (eSM oJoinS (eC (.str " ")) (eLc [13] (iSeq (eV 4)) (bName 13) tTrue (eCb (o1 oStrI) (aCons (eV 13) aNil))))) (sSeq (sIf (eOr (eBin oNe (eCall 1 m_numbers_text (aCons (eV 4) aNil)) (eV 10)) (eBin oNe (eCall 1 m_vector_text (aCons (eV 6) aNil)) (eCall 1 m_law_vector_text (aCons (eV 6) aNil)))) (sRet (eC (.bool false))) sNil) (sSeq (sSet 11 (eSM oJoinS (eC (.str " ")) (eBin oAdd (eLst (aCons (eCall 1 m_law_vector_text (aCons (eBin oIx (eV 7) (eC (.int 0))) aNil)) aNil)) (eLc [14] (iSeq (eBin oIx (eV 7) (eC (.int 1)))) (bName 14) tTrue (eCb (o1 oStrI) (aCons (eV 14) aNil)))))) (sIf (eOr (eBin oNe (eCall 1 m_beats_text (aCons (eV 7) aNil)) (eV 11)) (eBin oNe (eCb (o1 oRepr) (aCons (eLst (aCons (eV 3) (aCons (eV 4) (aCons (eV 6) (aCons (eV 7) aNil))))) aNil)) (eV 8))) (sRet (eC (.bool false))) sNil))))))))))
def R_law : Env' → T D := (eC (.bool true))
def F_law : Env' → T Fl := (sSeq (sFor (iArg oRng1 (aCons (eC (.int 16)) aNil)) (bName 2) B0_law) (sRet R_law))
abbrev spL (K : PySem.W.Frag) : Sp := fun vs H Q _ => ∃ (a : Addr) (ns : List Int), vs = [.ref a] ∧ SqL K H a (ns.map V.int) ∧ ns.length ≤ 63 ∧ ∀ H', Q (.bl true) H'
theorem ok_law {P : Program} {w : World} {K : PySem.W.Frag} {mg : Str → Option Value} {base : Heap} {cad : Cad} {fa fO : Addr} {fd fdO : FuncData} (Fu : Fun K "law" "law" St_law fa fd) (FO : FnG P w K mg base 1 fO fdO ["_law_script"] (spOpened K)) (gO : mg "_law_opened" = some (.ref fO)) (kO : PySem.W.keepIn K (.ref fO) = true) (BO : Binds K fdO ["_law_script"] []) (C_law_numbers : Cal P w K mg base cad "_law_numbers" 3 2 m_law_numbers) (C_law_draw : Cal P w K mg base cad "_law_draw" 1 2 m_law_draw) (C_law_flow : Cal P w K mg base cad "_law_flow" 4 1 m_law_flow) (C_law_vector : Cal P w K mg base cad "_law_vector" 2 3 m_law_vector) (C_law_flow_text : Cal P w K mg base cad "_law_flow_text" 4 1 m_law_flow_text) (C_flow_text : Cal P w K mg base cad "flow_text" 5 1 m_flow_text) (C_parse_flow : Cal P w K mg base cad "parse_flow" 7 1 m_parse_flow) (C_rule_text : Cal P w K mg base cad "rule_text" 4 1 m_rule_text) (C_law_rule_text : Cal P w K mg base cad "_law_rule_text" 3 1 m_law_rule_text) (C_numbers_text : Cal P w K mg base cad "numbers_text" 2 1 m_numbers_text) (C_vector_text : Cal P w K mg base cad "vector_text" 2 1 m_vector_text) (C_law_vector_text : Cal P w K mg base cad "_law_vector_text" 2 1 m_law_vector_text) (C_beats_text : Cal P w K mg base cad "beats_text" 3 1 m_beats_text) (b_range : mg "range" = none) (b_tuple : mg "tuple" = none) (b_repr : mg "repr" = none) (b_str : mg "str" = none)
    (hbx : ∀ (β : Box) (v : V), boxIs true β v → β.tabs = [] → cad.bx β) (hF : (F_law ([Sl.no, .box true] ++ List.replicate 13 .no)).run.wp (fun d => d = .bool true) (fun _ => False)) : FnG P w K mg base 8 fa fd ["_law_script"] (spL K) :=
  FnG.law (cad := cad) (k0 := true) (F := F_law) (N := N_law) Fu sc_law rfl (by decide) hbx dict_opens
    (fun cdv A outer s H E hr hgu => ps_set (i := 1) sc_law.nd rfl (by first | exact .inl rfl | exact .inr rfl) (pe_callG FO (hr.mono (by decide)) hgu (by rfl) gO kO BO .nil takes0 (pa_cons (pv 0) pa_nil)))
    (fun cdv A outer s H E hr hgu => (ss_cons (s_for (b_name (K := K)) (ps_for (passes_of rfl) rfl (i_rng1 (by rfl) b_range (a_cons r_int a_nil)) (pg_name (i := 2) sc_law.nd rfl (by first | exact .inl rfl | exact .inr rfl)) (ss_cons (s_par (ps_par (i := 3) (j := 4) rfl sc_law.nd rfl rfl (by decide) rfl rfl (a_cons (r_cal C_law_flow hr (by first | decide | omega) hgu (by rfl) (takes_of rfl rfl rfl rfl) (a_box (i := 1) (pv 1) a_nil)) (a_cons (r_cal C_law_numbers hr (by first | decide | omega) hgu (by rfl) (takes_of rfl rfl rfl rfl) (a_box (i := 1) (pv 1) (a_cons (r_cal C_law_draw hr (by first | decide | omega) hgu (by rfl) (takes_of rfl rfl rfl rfl) (a_box (i := 1) (pv 1) (a_cons r_int a_nil))) a_nil))) a_nil)) (by rfl))) (ss_cons (s_set (ps_set (i := 5) sc_law.nd rfl (by first | exact .inl rfl | exact .inr rfl) (r_bt call_tuple_S d_tuple (by rfl) b_tuple (by decide +kernel) (a_cons (r_lc (own := [("_law_rule_here", 12)]) rfl sc_law.nd (i_seq (r_ix ix_seq d_ix (r_v 3 (pv 3)) r_int (fun _ _ => rfl))) (blkOk_by (N := N_law) (sc := defScope St_law) (by decide +kernel)) (fun _ _ _ _ _ => (g_name (pg_name (i := 12) sc_law.nd rfl (by first | exact .inl rfl | exact .inr rfl)))) (fun _ _ _ _ _ => pts_yes) (fun _ _ _ _ _ => (r_op op_sub d_sub (r_cal C_law_draw hr (by first | decide | omega) hgu (by rfl) takes0 (a_box (i := 1) (pv 1) (a_cons r_int a_nil))) r_int)) (by decide)) a_nil)))) (ss_cons (s_par (ps_par (i := 6) (j := 7) rfl sc_law.nd rfl rfl (by decide) rfl rfl (a_cons (r_cal C_law_numbers hr (by first | decide | omega) hgu (by rfl) (takes_of rfl rfl rfl rfl) (a_box (i := 1) (pv 1) (a_cons (r_ix ix_seq d_ix (r_v 3 (pv 3)) r_int (fun _ _ => rfl)) a_nil))) (a_cons (r_tup (a_cons (r_cal C_law_vector hr (by first | decide | omega) hgu (by rfl) (takes_of rfl rfl rfl rfl) (a_box (i := 1) (pv 1) (a_cons (r_ix ix_seq d_ix (r_v 3 (pv 3)) r_int (fun _ _ => rfl)) (a_cons r_int a_nil)))) (a_cons (r_v 5 (pv 5)) a_nil))) a_nil)) (by rfl))) (ss_cons (s_par (ps_par (i := 8) (j := 9) rfl sc_law.nd rfl rfl (by decide) rfl rfl (a_cons (r_b (call_repr hgu (un200 hr)) d_repr (by rfl) b_repr (by decide +kernel) (a_cons (r_lst (a_cons (r_v 3 (pv 3)) (a_cons (r_v 4 (pv 4)) (a_cons (r_v 6 (pv 6)) (a_cons (r_v 7 (pv 7)) a_nil))))) a_nil)) (a_cons (r_cal C_law_flow_text hr (by first | decide | omega) hgu (by rfl) (takes_of rfl rfl rfl rfl) (a_cons (r_v 3 (pv 3)) a_nil)) a_nil)) (by rfl))) (ss_cons (s_if (q_or (q_cmp (op_neW hr.units) d_ne (r_lst (a_cons (r_cal C_flow_text hr (by first | decide | omega) hgu (by rfl) (takes_of rfl rfl rfl rfl) (a_cons (r_v 3 (pv 3)) a_nil)) (a_cons (r_cal C_flow_text hr (by first | decide | omega) hgu (by rfl) (takes_of rfl rfl rfl rfl) (a_cons (r_v 3 (pv 3)) a_nil)) a_nil))) (r_lst (a_cons (r_v 9 (pv 9)) (a_cons (r_v 9 (pv 9)) a_nil))) (nomark _)) (q_or1 (q_cmp (op_neW hr.units) d_ne (r_b (call_repr hgu (un200 hr)) d_repr (by rfl) b_repr (by decide +kernel) (a_cons (r_cal C_parse_flow hr (by first | decide | omega) hgu (by rfl) (takes_of rfl rfl rfl rfl) (a_cons (r_v 9 (pv 9)) a_nil)) a_nil)) (r_b (call_repr hgu (un200 hr)) d_repr (by rfl) b_repr (by decide +kernel) (a_cons (r_v 3 (pv 3)) a_nil)) (nomark _)))).pt (ss_one (s_ret r_bl)) ss_nil) (ss_cons (s_if (q_cmp (op_neW hr.units) d_ne (r_lc (own := [("_law_rule_here", 12)]) rfl sc_law.nd (i_seq (r_ix ix_seq d_ix (r_v 3 (pv 3)) r_int (fun _ _ => rfl))) (blkOk_by (N := N_law) (sc := defScope St_law) (by decide +kernel)) (fun _ _ _ _ _ => (g_name (pg_name (i := 12) sc_law.nd rfl (by first | exact .inl rfl | exact .inr rfl)))) (fun _ _ _ _ _ => pts_yes) (fun _ _ _ _ _ => (r_cal C_rule_text hr (by first | decide | omega) hgu (by rfl) takes0 (a_cons (r_v 12 (pv 12)) a_nil))) (by decide)) (r_lc (own := [("_law_rule_here", 12)]) rfl sc_law.nd (i_seq (r_ix ix_seq d_ix (r_v 3 (pv 3)) r_int (fun _ _ => rfl))) (blkOk_by (N := N_law) (sc := defScope St_law) (by decide +kernel)) (fun _ _ _ _ _ => (g_name (pg_name (i := 12) sc_law.nd rfl (by first | exact .inl rfl | exact .inr rfl)))) (fun _ _ _ _ _ => pts_yes) (fun _ _ _ _ _ => (r_cal C_law_rule_text hr (by first | decide | omega) hgu (by rfl) takes0 (a_cons (r_v 12 (pv 12)) a_nil))) (by decide)) (nomark _)) (ss_one (s_ret r_bl)) ss_nil) (ss_cons (s_set (ps_set (i := 10) sc_law.nd rfl (by first | exact .inl rfl | exact .inr rfl) (r_sm PySem.F.slot_str_join PySem.F.type_str_join mt_join m_join r_str (r_lc (own := [("_law_number", 13)]) rfl sc_law.nd (i_seq (r_v 4 (pv 4))) (blkOk_by (N := N_law) (sc := defScope St_law) (by decide +kernel)) (fun _ _ _ _ _ => (g_name (pg_name (i := 13) sc_law.nd rfl (by first | exact .inl rfl | exact .inr rfl)))) (fun _ _ _ _ _ => pts_yes) (fun _ _ _ _ _ => (r_bt call_str_int d_strI (by rfl) b_str (by decide +kernel) (a_cons (r_v 13 (pv 13)) a_nil))) (by decide))))) (ss_cons (s_if (q_or (q_cmp (op_neW hr.units) d_ne (r_cal C_numbers_text hr (by first | decide | omega) hgu (by rfl) (takes_of rfl rfl rfl rfl) (a_cons (r_v 4 (pv 4)) a_nil)) (r_v 10 (pv 10)) (nomark _)) (q_or1 (q_cmp (op_neW hr.units) d_ne (r_cal C_vector_text hr (by first | decide | omega) hgu (by rfl) (takes_of rfl rfl rfl rfl) (a_cons (r_v 6 (pv 6)) a_nil)) (r_cal C_law_vector_text hr (by first | decide | omega) hgu (by rfl) (takes_of rfl rfl rfl rfl) (a_cons (r_v 6 (pv 6)) a_nil)) (nomark _)))).pt (ss_one (s_ret r_bl)) ss_nil) (ss_cons (s_set (ps_set (i := 11) sc_law.nd rfl (by first | exact .inl rfl | exact .inr rfl) (r_sm PySem.F.slot_str_join PySem.F.type_str_join mt_join m_join r_str (r_op op_addD d_add (r_lst (a_cons (r_cal C_law_vector_text hr (by first | decide | omega) hgu (by rfl) (takes_of rfl rfl rfl rfl) (a_cons (r_ix ix_seq d_ix (r_v 7 (pv 7)) r_int (fun _ _ => rfl)) a_nil)) a_nil)) (r_lc (own := [("_law_start", 14)]) rfl sc_law.nd (i_seq (r_ix ix_seq d_ix (r_v 7 (pv 7)) r_int (fun _ _ => rfl))) (blkOk_by (N := N_law) (sc := defScope St_law) (by decide +kernel)) (fun _ _ _ _ _ => (g_name (pg_name (i := 14) sc_law.nd rfl (by first | exact .inl rfl | exact .inr rfl)))) (fun _ _ _ _ _ => pts_yes) (fun _ _ _ _ _ => (r_bt call_str_int d_strI (by rfl) b_str (by decide +kernel) (a_cons (r_v 14 (pv 14)) a_nil))) (by decide)))))) (ss_one (s_if (q_or (q_cmp (op_neW hr.units) d_ne (r_cal C_beats_text hr (by first | decide | omega) hgu (by rfl) (takes_of rfl rfl rfl rfl) (a_cons (r_v 7 (pv 7)) a_nil)) (r_v 11 (pv 11)) (nomark _)) (q_or1 (q_cmp (op_neW hr.units) d_ne (r_b (call_repr hgu (un200 hr)) d_repr (by rfl) b_repr (by decide +kernel) (a_cons (r_lst (a_cons (r_v 3 (pv 3)) (a_cons (r_v 4 (pv 4)) (a_cons (r_v 6 (pv 6)) (a_cons (r_v 7 (pv 7)) a_nil))))) a_nil)) (r_v 8 (pv 8)) (nomark _)))).pt (ss_one (s_ret r_bl)) ss_nil))))))))))))) (ss_one (s_ret r_bl)))) hF
abbrev In_BadFlow : Stmt := (inClass (topS 2) 0)
theorem si_BadFlow : FnScope [("self" : Str), "error"] [("self" : Str), "error"] (defScope In_BadFlow) := ⟨rfl, rfl, rfl, by decide +kernel, rfl, by decide +kernel, by decide +kernel⟩
abbrev In_BadText : Stmt := (inClass (topS 3) 0)
theorem si_BadText : FnScope [("self" : Str), "index"] [("self" : Str), "index"] (defScope In_BadText) := ⟨rfl, rfl, rfl, by decide +kernel, rfl, by decide +kernel, by decide +kernel⟩
theorem all_mk {l : PySem.W.OpenLaw} {w : World} {K : PySem.W.Frag} {h : Heap} {mg : Str → Option Value} {fa : Addr}
    {f_is_within : Addr} {od_is_within an_is_within : Option Addr} {sl_is_within : Array (Option Value)} {oc_is_within kV_is_within dc_is_within pm_is_within cd_is_within ct_is_within : Value}
    {f_is_tuple_of : Addr} {od_is_tuple_of an_is_tuple_of : Option Addr} {sl_is_tuple_of : Array (Option Value)} {oc_is_tuple_of kV_is_tuple_of dc_is_tuple_of pm_is_tuple_of cd_is_tuple_of ct_is_tuple_of : Value}
    {f_is_bounded : Addr} {od_is_bounded an_is_bounded : Option Addr} {sl_is_bounded : Array (Option Value)} {oc_is_bounded kV_is_bounded dc_is_bounded pm_is_bounded cd_is_bounded ct_is_bounded : Value}
    {f_has_form : Addr} {od_has_form an_has_form : Option Addr} {sl_has_form : Array (Option Value)} {oc_has_form kV_has_form dc_has_form pm_has_form cd_has_form ct_has_form : Value}
    {f_are_rules : Addr} {od_are_rules an_are_rules : Option Addr} {sl_are_rules : Array (Option Value)} {oc_are_rules kV_are_rules dc_are_rules pm_are_rules cd_are_rules ct_are_rules : Value}
    {f_read_error : Addr} {od_read_error an_read_error : Option Addr} {sl_read_error : Array (Option Value)} {oc_read_error kV_read_error dc_read_error pm_read_error cd_read_error ct_read_error : Value}
    {f_rule_error : Addr} {od_rule_error an_rule_error : Option Addr} {sl_rule_error : Array (Option Value)} {oc_rule_error kV_rule_error dc_rule_error pm_rule_error cd_rule_error ct_rule_error : Value}
    {f_flow_error : Addr} {od_flow_error an_flow_error : Option Addr} {sl_flow_error : Array (Option Value)} {oc_flow_error kV_flow_error dc_flow_error pm_flow_error cd_flow_error ct_flow_error : Value}
    {f_vector_text : Addr} {od_vector_text an_vector_text : Option Addr} {sl_vector_text : Array (Option Value)} {oc_vector_text kV_vector_text dc_vector_text pm_vector_text cd_vector_text ct_vector_text : Value}
    {f_numbers_text : Addr} {od_numbers_text an_numbers_text : Option Addr} {sl_numbers_text : Array (Option Value)} {oc_numbers_text kV_numbers_text dc_numbers_text pm_numbers_text cd_numbers_text ct_numbers_text : Value}
    {f_beats_text : Addr} {od_beats_text an_beats_text : Option Addr} {sl_beats_text : Array (Option Value)} {oc_beats_text kV_beats_text dc_beats_text pm_beats_text cd_beats_text ct_beats_text : Value}
    {f_read_text : Addr} {od_read_text an_read_text : Option Addr} {sl_read_text : Array (Option Value)} {oc_read_text kV_read_text dc_read_text pm_read_text cd_read_text ct_read_text : Value}
    {f_rule_text : Addr} {od_rule_text an_rule_text : Option Addr} {sl_rule_text : Array (Option Value)} {oc_rule_text kV_rule_text dc_rule_text pm_rule_text cd_rule_text ct_rule_text : Value}
    {f_flow_text : Addr} {od_flow_text an_flow_text : Option Addr} {sl_flow_text : Array (Option Value)} {oc_flow_text kV_flow_text dc_flow_text pm_flow_text cd_flow_text ct_flow_text : Value}
    {f_parse_integer : Addr} {od_parse_integer an_parse_integer : Option Addr} {sl_parse_integer : Array (Option Value)} {oc_parse_integer kV_parse_integer dc_parse_integer pm_parse_integer cd_parse_integer ct_parse_integer : Value}
    {f_parse_vector : Addr} {od_parse_vector an_parse_vector : Option Addr} {sl_parse_vector : Array (Option Value)} {oc_parse_vector kV_parse_vector dc_parse_vector pm_parse_vector cd_parse_vector ct_parse_vector : Value}
    {f_parse_read : Addr} {od_parse_read an_parse_read : Option Addr} {sl_parse_read : Array (Option Value)} {oc_parse_read kV_parse_read dc_parse_read pm_parse_read cd_parse_read ct_parse_read : Value}
    {f_parse_rule : Addr} {od_parse_rule an_parse_rule : Option Addr} {sl_parse_rule : Array (Option Value)} {oc_parse_rule kV_parse_rule dc_parse_rule pm_parse_rule cd_parse_rule ct_parse_rule : Value}
    {f_parse_flow : Addr} {od_parse_flow an_parse_flow : Option Addr} {sl_parse_flow : Array (Option Value)} {oc_parse_flow kV_parse_flow dc_parse_flow pm_parse_flow cd_parse_flow ct_parse_flow : Value}
    {f_law_opened : Addr} {od_law_opened an_law_opened : Option Addr} {sl_law_opened : Array (Option Value)} {oc_law_opened kV_law_opened dc_law_opened pm_law_opened cd_law_opened ct_law_opened : Value}
    {f_law_draw : Addr} {od_law_draw an_law_draw : Option Addr} {sl_law_draw : Array (Option Value)} {oc_law_draw kV_law_draw dc_law_draw pm_law_draw cd_law_draw ct_law_draw : Value}
    {f_law_one : Addr} {od_law_one an_law_one : Option Addr} {sl_law_one : Array (Option Value)} {oc_law_one kV_law_one dc_law_one pm_law_one cd_law_one ct_law_one : Value}
    {f_law_kinds : Addr} {od_law_kinds an_law_kinds : Option Addr} {sl_law_kinds : Array (Option Value)} {oc_law_kinds kV_law_kinds dc_law_kinds pm_law_kinds cd_law_kinds ct_law_kinds : Value}
    {f_law_vector : Addr} {od_law_vector an_law_vector : Option Addr} {sl_law_vector : Array (Option Value)} {oc_law_vector kV_law_vector dc_law_vector pm_law_vector cd_law_vector ct_law_vector : Value}
    {f_law_rule : Addr} {od_law_rule an_law_rule : Option Addr} {sl_law_rule : Array (Option Value)} {oc_law_rule kV_law_rule dc_law_rule pm_law_rule cd_law_rule ct_law_rule : Value}
    {f_law_flow : Addr} {od_law_flow an_law_flow : Option Addr} {sl_law_flow : Array (Option Value)} {oc_law_flow kV_law_flow dc_law_flow pm_law_flow cd_law_flow ct_law_flow : Value}
    {f_law_vector_text : Addr} {od_law_vector_text an_law_vector_text : Option Addr} {sl_law_vector_text : Array (Option Value)} {oc_law_vector_text kV_law_vector_text dc_law_vector_text pm_law_vector_text cd_law_vector_text ct_law_vector_text : Value}
    {f_law_rule_text : Addr} {od_law_rule_text an_law_rule_text : Option Addr} {sl_law_rule_text : Array (Option Value)} {oc_law_rule_text kV_law_rule_text dc_law_rule_text pm_law_rule_text cd_law_rule_text ct_law_rule_text : Value}
    {f_law_flow_text : Addr} {od_law_flow_text an_law_flow_text : Option Addr} {sl_law_flow_text : Array (Option Value)} {oc_law_flow_text kV_law_flow_text dc_law_flow_text pm_law_flow_text cd_law_flow_text ct_law_flow_text : Value}
    {f_law_numbers : Addr} {od_law_numbers an_law_numbers : Option Addr} {sl_law_numbers : Array (Option Value)} {oc_law_numbers kV_law_numbers dc_law_numbers pm_law_numbers cd_law_numbers ct_law_numbers : Value}
    {f_law : Addr} {od_law an_law : Option Addr} {sl_law : Array (Option Value)} {oc_law kV_law dc_law pm_law cd_law ct_law : Value}
    {tok_DIGITS : Tok}
    {tok_MAX_DIGITS : Tok}
    {tok_MAX_DIST : Tok}
    {tok_MAX_PLANES : Tok}
    {dA_KINDS : Addr} {es_KINDS : Array DictEntry} {n_KINDS : Nat}
    {A_BadFlow : Addr}
    {A_BadText : Addr}
    {I_BadFlow N_BadFlow : Addr} {nm_BadFlow qq_BadFlow : Str} {bs_BadFlow bm_BadFlow sub_BadFlow : List Value} {sn_BadFlow : List Str} {ab_BadFlow : Bool} {col_BadFlow : Option Bool} {dd_BadFlow od_BadFlow an_BadFlow : Option Addr} {m0_BadFlow m1_BadFlow m2_BadFlow m3_BadFlow m5_BadFlow : Option Value} {sl_BadFlow : Array (Option Value)} {oc_BadFlow kV_BadFlow dc_BadFlow pm_BadFlow cd_BadFlow ct_BadFlow : Value}
    {I_BadText N_BadText : Addr} {nm_BadText qq_BadText : Str} {bs_BadText bm_BadText sub_BadText : List Value} {sn_BadText : List Str} {ab_BadText : Bool} {col_BadText : Option Bool} {dd_BadText od_BadText an_BadText : Option Addr} {m0_BadText m1_BadText m2_BadText m3_BadText m5_BadText : Option Value} {sl_BadText : Array (Option Value)} {oc_BadText kV_BadText dc_BadText pm_BadText cd_BadText ct_BadText : Value}
    (X : K.In h) (G : h.Ns mainGlobals mg) (hfa : mg "law" = some (.ref fa))
    (a_is_within : PySem.W.nsIn K mainGlobals "is_within" = some (some (.ref f_is_within)))
    (l_is_within : K.lookup f_is_within = some ⟨oc_is_within, od_is_within, .func (PySem.W.fnOf "is_within" "is_within" (defArgs St_is_within) (defBody St_is_within) (defScope St_is_within) .none kV_is_within dc_is_within pm_is_within an_is_within cd_is_within ct_is_within), sl_is_within⟩)
    (c_is_within : PySem.W.codeIn K cd_is_within "is_within" = true)
    (k_is_within : PySem.W.keepIn K (.ref f_is_within) = true)
    (a_is_tuple_of : PySem.W.nsIn K mainGlobals "is_tuple_of" = some (some (.ref f_is_tuple_of)))
    (l_is_tuple_of : K.lookup f_is_tuple_of = some ⟨oc_is_tuple_of, od_is_tuple_of, .func (PySem.W.fnOf "is_tuple_of" "is_tuple_of" (defArgs St_is_tuple_of) (defBody St_is_tuple_of) (defScope St_is_tuple_of) .none kV_is_tuple_of dc_is_tuple_of pm_is_tuple_of an_is_tuple_of cd_is_tuple_of ct_is_tuple_of), sl_is_tuple_of⟩)
    (c_is_tuple_of : PySem.W.codeIn K cd_is_tuple_of "is_tuple_of" = true)
    (k_is_tuple_of : PySem.W.keepIn K (.ref f_is_tuple_of) = true)
    (a_is_bounded : PySem.W.nsIn K mainGlobals "is_bounded" = some (some (.ref f_is_bounded)))
    (l_is_bounded : K.lookup f_is_bounded = some ⟨oc_is_bounded, od_is_bounded, .func (PySem.W.fnOf "is_bounded" "is_bounded" (defArgs St_is_bounded) (defBody St_is_bounded) (defScope St_is_bounded) .none kV_is_bounded dc_is_bounded pm_is_bounded an_is_bounded cd_is_bounded ct_is_bounded), sl_is_bounded⟩)
    (c_is_bounded : PySem.W.codeIn K cd_is_bounded "is_bounded" = true)
    (k_is_bounded : PySem.W.keepIn K (.ref f_is_bounded) = true)
    (a_has_form : PySem.W.nsIn K mainGlobals "has_form" = some (some (.ref f_has_form)))
    (l_has_form : K.lookup f_has_form = some ⟨oc_has_form, od_has_form, .func (PySem.W.fnOf "has_form" "has_form" (defArgs St_has_form) (defBody St_has_form) (defScope St_has_form) .none kV_has_form dc_has_form pm_has_form an_has_form cd_has_form ct_has_form), sl_has_form⟩)
    (c_has_form : PySem.W.codeIn K cd_has_form "has_form" = true)
    (k_has_form : PySem.W.keepIn K (.ref f_has_form) = true)
    (a_are_rules : PySem.W.nsIn K mainGlobals "are_rules" = some (some (.ref f_are_rules)))
    (l_are_rules : K.lookup f_are_rules = some ⟨oc_are_rules, od_are_rules, .func (PySem.W.fnOf "are_rules" "are_rules" (defArgs St_are_rules) (defBody St_are_rules) (defScope St_are_rules) .none kV_are_rules dc_are_rules pm_are_rules an_are_rules cd_are_rules ct_are_rules), sl_are_rules⟩)
    (c_are_rules : PySem.W.codeIn K cd_are_rules "are_rules" = true)
    (k_are_rules : PySem.W.keepIn K (.ref f_are_rules) = true)
    (a_read_error : PySem.W.nsIn K mainGlobals "read_error" = some (some (.ref f_read_error)))
    (l_read_error : K.lookup f_read_error = some ⟨oc_read_error, od_read_error, .func (PySem.W.fnOf "read_error" "read_error" (defArgs St_read_error) (defBody St_read_error) (defScope St_read_error) .none kV_read_error dc_read_error pm_read_error an_read_error cd_read_error ct_read_error), sl_read_error⟩)
    (c_read_error : PySem.W.codeIn K cd_read_error "read_error" = true)
    (k_read_error : PySem.W.keepIn K (.ref f_read_error) = true)
    (a_rule_error : PySem.W.nsIn K mainGlobals "rule_error" = some (some (.ref f_rule_error)))
    (l_rule_error : K.lookup f_rule_error = some ⟨oc_rule_error, od_rule_error, .func (PySem.W.fnOf "rule_error" "rule_error" (defArgs St_rule_error) (defBody St_rule_error) (defScope St_rule_error) .none kV_rule_error dc_rule_error pm_rule_error an_rule_error cd_rule_error ct_rule_error), sl_rule_error⟩)
    (c_rule_error : PySem.W.codeIn K cd_rule_error "rule_error" = true)
    (k_rule_error : PySem.W.keepIn K (.ref f_rule_error) = true)
    (a_flow_error : PySem.W.nsIn K mainGlobals "flow_error" = some (some (.ref f_flow_error)))
    (l_flow_error : K.lookup f_flow_error = some ⟨oc_flow_error, od_flow_error, .func (PySem.W.fnOf "flow_error" "flow_error" (defArgs St_flow_error) (defBody St_flow_error) (defScope St_flow_error) .none kV_flow_error dc_flow_error pm_flow_error an_flow_error cd_flow_error ct_flow_error), sl_flow_error⟩)
    (c_flow_error : PySem.W.codeIn K cd_flow_error "flow_error" = true)
    (k_flow_error : PySem.W.keepIn K (.ref f_flow_error) = true)
    (a_vector_text : PySem.W.nsIn K mainGlobals "vector_text" = some (some (.ref f_vector_text)))
    (l_vector_text : K.lookup f_vector_text = some ⟨oc_vector_text, od_vector_text, .func (PySem.W.fnOf "vector_text" "vector_text" (defArgs St_vector_text) (defBody St_vector_text) (defScope St_vector_text) .none kV_vector_text dc_vector_text pm_vector_text an_vector_text cd_vector_text ct_vector_text), sl_vector_text⟩)
    (c_vector_text : PySem.W.codeIn K cd_vector_text "vector_text" = true)
    (k_vector_text : PySem.W.keepIn K (.ref f_vector_text) = true)
    (a_numbers_text : PySem.W.nsIn K mainGlobals "numbers_text" = some (some (.ref f_numbers_text)))
    (l_numbers_text : K.lookup f_numbers_text = some ⟨oc_numbers_text, od_numbers_text, .func (PySem.W.fnOf "numbers_text" "numbers_text" (defArgs St_numbers_text) (defBody St_numbers_text) (defScope St_numbers_text) .none kV_numbers_text dc_numbers_text pm_numbers_text an_numbers_text cd_numbers_text ct_numbers_text), sl_numbers_text⟩)
    (c_numbers_text : PySem.W.codeIn K cd_numbers_text "numbers_text" = true)
    (k_numbers_text : PySem.W.keepIn K (.ref f_numbers_text) = true)
    (a_beats_text : PySem.W.nsIn K mainGlobals "beats_text" = some (some (.ref f_beats_text)))
    (l_beats_text : K.lookup f_beats_text = some ⟨oc_beats_text, od_beats_text, .func (PySem.W.fnOf "beats_text" "beats_text" (defArgs St_beats_text) (defBody St_beats_text) (defScope St_beats_text) .none kV_beats_text dc_beats_text pm_beats_text an_beats_text cd_beats_text ct_beats_text), sl_beats_text⟩)
    (c_beats_text : PySem.W.codeIn K cd_beats_text "beats_text" = true)
    (k_beats_text : PySem.W.keepIn K (.ref f_beats_text) = true)
    (a_read_text : PySem.W.nsIn K mainGlobals "read_text" = some (some (.ref f_read_text)))
    (l_read_text : K.lookup f_read_text = some ⟨oc_read_text, od_read_text, .func (PySem.W.fnOf "read_text" "read_text" (defArgs St_read_text) (defBody St_read_text) (defScope St_read_text) .none kV_read_text dc_read_text pm_read_text an_read_text cd_read_text ct_read_text), sl_read_text⟩)
    (c_read_text : PySem.W.codeIn K cd_read_text "read_text" = true)
    (k_read_text : PySem.W.keepIn K (.ref f_read_text) = true)
    (a_rule_text : PySem.W.nsIn K mainGlobals "rule_text" = some (some (.ref f_rule_text)))
    (l_rule_text : K.lookup f_rule_text = some ⟨oc_rule_text, od_rule_text, .func (PySem.W.fnOf "rule_text" "rule_text" (defArgs St_rule_text) (defBody St_rule_text) (defScope St_rule_text) .none kV_rule_text dc_rule_text pm_rule_text an_rule_text cd_rule_text ct_rule_text), sl_rule_text⟩)
    (c_rule_text : PySem.W.codeIn K cd_rule_text "rule_text" = true)
    (k_rule_text : PySem.W.keepIn K (.ref f_rule_text) = true)
    (a_flow_text : PySem.W.nsIn K mainGlobals "flow_text" = some (some (.ref f_flow_text)))
    (l_flow_text : K.lookup f_flow_text = some ⟨oc_flow_text, od_flow_text, .func (PySem.W.fnOf "flow_text" "flow_text" (defArgs St_flow_text) (defBody St_flow_text) (defScope St_flow_text) .none kV_flow_text dc_flow_text pm_flow_text an_flow_text cd_flow_text ct_flow_text), sl_flow_text⟩)
    (c_flow_text : PySem.W.codeIn K cd_flow_text "flow_text" = true)
    (k_flow_text : PySem.W.keepIn K (.ref f_flow_text) = true)
    (a_parse_integer : PySem.W.nsIn K mainGlobals "parse_integer" = some (some (.ref f_parse_integer)))
    (l_parse_integer : K.lookup f_parse_integer = some ⟨oc_parse_integer, od_parse_integer, .func (PySem.W.fnOf "parse_integer" "parse_integer" (defArgs St_parse_integer) (defBody St_parse_integer) (defScope St_parse_integer) .none kV_parse_integer dc_parse_integer pm_parse_integer an_parse_integer cd_parse_integer ct_parse_integer), sl_parse_integer⟩)
    (c_parse_integer : PySem.W.codeIn K cd_parse_integer "parse_integer" = true)
    (k_parse_integer : PySem.W.keepIn K (.ref f_parse_integer) = true)
    (a_parse_vector : PySem.W.nsIn K mainGlobals "parse_vector" = some (some (.ref f_parse_vector)))
    (l_parse_vector : K.lookup f_parse_vector = some ⟨oc_parse_vector, od_parse_vector, .func (PySem.W.fnOf "parse_vector" "parse_vector" (defArgs St_parse_vector) (defBody St_parse_vector) (defScope St_parse_vector) .none kV_parse_vector dc_parse_vector pm_parse_vector an_parse_vector cd_parse_vector ct_parse_vector), sl_parse_vector⟩)
    (c_parse_vector : PySem.W.codeIn K cd_parse_vector "parse_vector" = true)
    (k_parse_vector : PySem.W.keepIn K (.ref f_parse_vector) = true)
    (a_parse_read : PySem.W.nsIn K mainGlobals "parse_read" = some (some (.ref f_parse_read)))
    (l_parse_read : K.lookup f_parse_read = some ⟨oc_parse_read, od_parse_read, .func (PySem.W.fnOf "parse_read" "parse_read" (defArgs St_parse_read) (defBody St_parse_read) (defScope St_parse_read) .none kV_parse_read dc_parse_read pm_parse_read an_parse_read cd_parse_read ct_parse_read), sl_parse_read⟩)
    (c_parse_read : PySem.W.codeIn K cd_parse_read "parse_read" = true)
    (k_parse_read : PySem.W.keepIn K (.ref f_parse_read) = true)
    (a_parse_rule : PySem.W.nsIn K mainGlobals "parse_rule" = some (some (.ref f_parse_rule)))
    (l_parse_rule : K.lookup f_parse_rule = some ⟨oc_parse_rule, od_parse_rule, .func (PySem.W.fnOf "parse_rule" "parse_rule" (defArgs St_parse_rule) (defBody St_parse_rule) (defScope St_parse_rule) .none kV_parse_rule dc_parse_rule pm_parse_rule an_parse_rule cd_parse_rule ct_parse_rule), sl_parse_rule⟩)
    (c_parse_rule : PySem.W.codeIn K cd_parse_rule "parse_rule" = true)
    (k_parse_rule : PySem.W.keepIn K (.ref f_parse_rule) = true)
    (a_parse_flow : PySem.W.nsIn K mainGlobals "parse_flow" = some (some (.ref f_parse_flow)))
    (l_parse_flow : K.lookup f_parse_flow = some ⟨oc_parse_flow, od_parse_flow, .func (PySem.W.fnOf "parse_flow" "parse_flow" (defArgs St_parse_flow) (defBody St_parse_flow) (defScope St_parse_flow) .none kV_parse_flow dc_parse_flow pm_parse_flow an_parse_flow cd_parse_flow ct_parse_flow), sl_parse_flow⟩)
    (c_parse_flow : PySem.W.codeIn K cd_parse_flow "parse_flow" = true)
    (k_parse_flow : PySem.W.keepIn K (.ref f_parse_flow) = true)
    (a_law_opened : PySem.W.nsIn K mainGlobals "_law_opened" = some (some (.ref f_law_opened)))
    (l_law_opened : K.lookup f_law_opened = some ⟨oc_law_opened, od_law_opened, .func (PySem.W.fnOf "_law_opened" "_law_opened" (defArgs St_law_opened) (defBody St_law_opened) (defScope St_law_opened) .none kV_law_opened dc_law_opened pm_law_opened an_law_opened cd_law_opened ct_law_opened), sl_law_opened⟩)
    (c_law_opened : PySem.W.codeIn K cd_law_opened "_law_opened" = true)
    (k_law_opened : PySem.W.keepIn K (.ref f_law_opened) = true)
    (a_law_draw : PySem.W.nsIn K mainGlobals "_law_draw" = some (some (.ref f_law_draw)))
    (l_law_draw : K.lookup f_law_draw = some ⟨oc_law_draw, od_law_draw, .func (PySem.W.fnOf "_law_draw" "_law_draw" (defArgs St_law_draw) (defBody St_law_draw) (defScope St_law_draw) .none kV_law_draw dc_law_draw pm_law_draw an_law_draw cd_law_draw ct_law_draw), sl_law_draw⟩)
    (c_law_draw : PySem.W.codeIn K cd_law_draw "_law_draw" = true)
    (k_law_draw : PySem.W.keepIn K (.ref f_law_draw) = true)
    (a_law_one : PySem.W.nsIn K mainGlobals "_law_one" = some (some (.ref f_law_one)))
    (l_law_one : K.lookup f_law_one = some ⟨oc_law_one, od_law_one, .func (PySem.W.fnOf "_law_one" "_law_one" (defArgs St_law_one) (defBody St_law_one) (defScope St_law_one) .none kV_law_one dc_law_one pm_law_one an_law_one cd_law_one ct_law_one), sl_law_one⟩)
    (c_law_one : PySem.W.codeIn K cd_law_one "_law_one" = true)
    (k_law_one : PySem.W.keepIn K (.ref f_law_one) = true)
    (a_law_kinds : PySem.W.nsIn K mainGlobals "_law_kinds" = some (some (.ref f_law_kinds)))
    (l_law_kinds : K.lookup f_law_kinds = some ⟨oc_law_kinds, od_law_kinds, .func (PySem.W.fnOf "_law_kinds" "_law_kinds" (defArgs St_law_kinds) (defBody St_law_kinds) (defScope St_law_kinds) .none kV_law_kinds dc_law_kinds pm_law_kinds an_law_kinds cd_law_kinds ct_law_kinds), sl_law_kinds⟩)
    (c_law_kinds : PySem.W.codeIn K cd_law_kinds "_law_kinds" = true)
    (k_law_kinds : PySem.W.keepIn K (.ref f_law_kinds) = true)
    (a_law_vector : PySem.W.nsIn K mainGlobals "_law_vector" = some (some (.ref f_law_vector)))
    (l_law_vector : K.lookup f_law_vector = some ⟨oc_law_vector, od_law_vector, .func (PySem.W.fnOf "_law_vector" "_law_vector" (defArgs St_law_vector) (defBody St_law_vector) (defScope St_law_vector) .none kV_law_vector dc_law_vector pm_law_vector an_law_vector cd_law_vector ct_law_vector), sl_law_vector⟩)
    (c_law_vector : PySem.W.codeIn K cd_law_vector "_law_vector" = true)
    (k_law_vector : PySem.W.keepIn K (.ref f_law_vector) = true)
    (a_law_rule : PySem.W.nsIn K mainGlobals "_law_rule" = some (some (.ref f_law_rule)))
    (l_law_rule : K.lookup f_law_rule = some ⟨oc_law_rule, od_law_rule, .func (PySem.W.fnOf "_law_rule" "_law_rule" (defArgs St_law_rule) (defBody St_law_rule) (defScope St_law_rule) .none kV_law_rule dc_law_rule pm_law_rule an_law_rule cd_law_rule ct_law_rule), sl_law_rule⟩)
    (c_law_rule : PySem.W.codeIn K cd_law_rule "_law_rule" = true)
    (k_law_rule : PySem.W.keepIn K (.ref f_law_rule) = true)
    (a_law_flow : PySem.W.nsIn K mainGlobals "_law_flow" = some (some (.ref f_law_flow)))
    (l_law_flow : K.lookup f_law_flow = some ⟨oc_law_flow, od_law_flow, .func (PySem.W.fnOf "_law_flow" "_law_flow" (defArgs St_law_flow) (defBody St_law_flow) (defScope St_law_flow) .none kV_law_flow dc_law_flow pm_law_flow an_law_flow cd_law_flow ct_law_flow), sl_law_flow⟩)
    (c_law_flow : PySem.W.codeIn K cd_law_flow "_law_flow" = true)
    (k_law_flow : PySem.W.keepIn K (.ref f_law_flow) = true)
    (a_law_vector_text : PySem.W.nsIn K mainGlobals "_law_vector_text" = some (some (.ref f_law_vector_text)))
    (l_law_vector_text : K.lookup f_law_vector_text = some ⟨oc_law_vector_text, od_law_vector_text, .func (PySem.W.fnOf "_law_vector_text" "_law_vector_text" (defArgs St_law_vector_text) (defBody St_law_vector_text) (defScope St_law_vector_text) .none kV_law_vector_text dc_law_vector_text pm_law_vector_text an_law_vector_text cd_law_vector_text ct_law_vector_text), sl_law_vector_text⟩)
    (c_law_vector_text : PySem.W.codeIn K cd_law_vector_text "_law_vector_text" = true)
    (k_law_vector_text : PySem.W.keepIn K (.ref f_law_vector_text) = true)
    (a_law_rule_text : PySem.W.nsIn K mainGlobals "_law_rule_text" = some (some (.ref f_law_rule_text)))
    (l_law_rule_text : K.lookup f_law_rule_text = some ⟨oc_law_rule_text, od_law_rule_text, .func (PySem.W.fnOf "_law_rule_text" "_law_rule_text" (defArgs St_law_rule_text) (defBody St_law_rule_text) (defScope St_law_rule_text) .none kV_law_rule_text dc_law_rule_text pm_law_rule_text an_law_rule_text cd_law_rule_text ct_law_rule_text), sl_law_rule_text⟩)
    (c_law_rule_text : PySem.W.codeIn K cd_law_rule_text "_law_rule_text" = true)
    (k_law_rule_text : PySem.W.keepIn K (.ref f_law_rule_text) = true)
    (a_law_flow_text : PySem.W.nsIn K mainGlobals "_law_flow_text" = some (some (.ref f_law_flow_text)))
    (l_law_flow_text : K.lookup f_law_flow_text = some ⟨oc_law_flow_text, od_law_flow_text, .func (PySem.W.fnOf "_law_flow_text" "_law_flow_text" (defArgs St_law_flow_text) (defBody St_law_flow_text) (defScope St_law_flow_text) .none kV_law_flow_text dc_law_flow_text pm_law_flow_text an_law_flow_text cd_law_flow_text ct_law_flow_text), sl_law_flow_text⟩)
    (c_law_flow_text : PySem.W.codeIn K cd_law_flow_text "_law_flow_text" = true)
    (k_law_flow_text : PySem.W.keepIn K (.ref f_law_flow_text) = true)
    (a_law_numbers : PySem.W.nsIn K mainGlobals "_law_numbers" = some (some (.ref f_law_numbers)))
    (l_law_numbers : K.lookup f_law_numbers = some ⟨oc_law_numbers, od_law_numbers, .func (PySem.W.fnOf "_law_numbers" "_law_numbers" (defArgs St_law_numbers) (defBody St_law_numbers) (defScope St_law_numbers) .none kV_law_numbers dc_law_numbers pm_law_numbers an_law_numbers cd_law_numbers ct_law_numbers), sl_law_numbers⟩)
    (c_law_numbers : PySem.W.codeIn K cd_law_numbers "_law_numbers" = true)
    (k_law_numbers : PySem.W.keepIn K (.ref f_law_numbers) = true)
    (a_law : PySem.W.nsIn K mainGlobals "law" = some (some (.ref f_law)))
    (l_law : K.lookup f_law = some ⟨oc_law, od_law, .func (PySem.W.fnOf "law" "law" (defArgs St_law) (defBody St_law) (defScope St_law) .none kV_law dc_law pm_law an_law cd_law ct_law), sl_law⟩)
    (c_law : PySem.W.codeIn K cd_law "law" = true)
    (k_law : PySem.W.keepIn K (.ref f_law) = true)
    (z_abs : PySem.W.nsIn K mainGlobals "abs" = some none)
    (z_all : PySem.W.nsIn K mainGlobals "all" = some none)
    (z_bool : PySem.W.nsIn K mainGlobals "bool" = some none)
    (z_enumerate : PySem.W.nsIn K mainGlobals "enumerate" = some none)
    (z_int : PySem.W.nsIn K mainGlobals "int" = some none)
    (z_isinstance : PySem.W.nsIn K mainGlobals "isinstance" = some none)
    (z_len : PySem.W.nsIn K mainGlobals "len" = some none)
    (z_range : PySem.W.nsIn K mainGlobals "range" = some none)
    (z_repr : PySem.W.nsIn K mainGlobals "repr" = some none)
    (z_str : PySem.W.nsIn K mainGlobals "str" = some none)
    (z_tuple : PySem.W.nsIn K mainGlobals "tuple" = some none)
    (v_DIGITS : PySem.W.nsIn K mainGlobals "DIGITS" = some (some (.str "0123456789" tok_DIGITS)))
    (v_MAX_DIGITS : PySem.W.nsIn K mainGlobals "MAX_DIGITS" = some (some (.int 12 tok_MAX_DIGITS)))
    (v_MAX_DIST : PySem.W.nsIn K mainGlobals "MAX_DIST" = some (some (.int 4 tok_MAX_DIST)))
    (v_MAX_PLANES : PySem.W.nsIn K mainGlobals "MAX_PLANES" = some (some (.int 6 tok_MAX_PLANES)))
    (v_KINDS : PySem.W.nsIn K mainGlobals "KINDS" = some (some (.ref dA_KINDS)))
    (lk_KINDS : K.lookup dA_KINDS = some ⟨.type "dict", none, .dict es_KINDS n_KINDS, #[]⟩)
    (kl_KINDS : PySem.W.KeysLit w.params es_KINDS.toList)
    (en_KINDS : EntI es_KINDS.toList kv_KINDS)
    (lo_KINDS : (dA_KINDS == sysModules) = false)
    (a_BadFlow : PySem.W.nsIn K mainGlobals "BadFlow" = some (some (.ref A_BadFlow)))
    (ex_BadFlow : PySem.W.subIn K (.ref A_BadFlow) (.type "BaseException") = some true)
    (ty_BadFlow : PySem.W.typeIn K (.ref A_BadFlow) = some (.type "type"))
    (ic_BadFlow : PySem.W.isClsIn K A_BadFlow = true)
    (a_BadText : PySem.W.nsIn K mainGlobals "BadText" = some (some (.ref A_BadText)))
    (ex_BadText : PySem.W.subIn K (.ref A_BadText) (.type "BaseException") = some true)
    (ty_BadText : PySem.W.typeIn K (.ref A_BadText) = some (.type "type"))
    (ic_BadText : PySem.W.isClsIn K A_BadText = true)
    (x_BadFlow : K.lookup A_BadFlow = some (excClassObj nm_BadFlow qq_BadFlow A_BadFlow N_BadFlow bs_BadFlow bm_BadFlow true sn_BadFlow sub_BadFlow ab_BadFlow col_BadFlow dd_BadFlow m0_BadFlow m1_BadFlow m2_BadFlow m3_BadFlow m5_BadFlow "ValueError.__new__"))
    (r_BadFlow : PySem.HandSPX.refsVE bm_BadFlow = true)
    (sa_BadFlow : PySem.W.findIn K (.ref A_BadFlow) "__setattr__" = some (some (.builtin "object.__setattr__")))
    (ga_BadFlow : PySem.W.findIn K (.ref A_BadFlow) "__getattribute__" = some (some (.builtin "BaseException.__getattribute__")))
    (gg_BadFlow : PySem.W.findIn K (.ref A_BadFlow) "__getattr__" = some none)
    (no_BadFlow : PySem.W.findIn K (.ref A_BadFlow) "error" = some none)
    (kc_BadFlow : PySem.W.keepIn K (.ref A_BadFlow) = true)
    (hd_BadFlow : PySem.W.hasDictIn K A_BadFlow = true)
    (ii_BadFlow : PySem.W.findIn K (.ref A_BadFlow) "__init__" = some (some (.ref I_BadFlow)))
    (ti_BadFlow : PySem.W.typeIn K (.ref I_BadFlow) = some (.type "function"))
    (li_BadFlow : K.lookup I_BadFlow = some ⟨oc_BadFlow, od_BadFlow, .func (PySem.W.fnOf "__init__" "BadFlow.__init__" (defArgs In_BadFlow) (defBody In_BadFlow) (defScope In_BadFlow) .none kV_BadFlow dc_BadFlow pm_BadFlow an_BadFlow cd_BadFlow ct_BadFlow), sl_BadFlow⟩)
    (ci_BadFlow : PySem.W.codeIn K cd_BadFlow "BadFlow.__init__" = true)
    (ki_BadFlow : PySem.W.keepIn K (.ref I_BadFlow) = true)
    (x_BadText : K.lookup A_BadText = some (excClassObj nm_BadText qq_BadText A_BadText N_BadText bs_BadText bm_BadText true sn_BadText sub_BadText ab_BadText col_BadText dd_BadText m0_BadText m1_BadText m2_BadText m3_BadText m5_BadText "ValueError.__new__"))
    (r_BadText : PySem.HandSPX.refsVE bm_BadText = true)
    (sa_BadText : PySem.W.findIn K (.ref A_BadText) "__setattr__" = some (some (.builtin "object.__setattr__")))
    (ga_BadText : PySem.W.findIn K (.ref A_BadText) "__getattribute__" = some (some (.builtin "BaseException.__getattribute__")))
    (gg_BadText : PySem.W.findIn K (.ref A_BadText) "__getattr__" = some none)
    (no_BadText : PySem.W.findIn K (.ref A_BadText) "index" = some none)
    (kc_BadText : PySem.W.keepIn K (.ref A_BadText) = true)
    (hd_BadText : PySem.W.hasDictIn K A_BadText = true)
    (ii_BadText : PySem.W.findIn K (.ref A_BadText) "__init__" = some (some (.ref I_BadText)))
    (ti_BadText : PySem.W.typeIn K (.ref I_BadText) = some (.type "function"))
    (li_BadText : K.lookup I_BadText = some ⟨oc_BadText, od_BadText, .func (PySem.W.fnOf "__init__" "BadText.__init__" (defArgs In_BadText) (defBody In_BadText) (defScope In_BadText) .none kV_BadText dc_BadText pm_BadText an_BadText cd_BadText ct_BadText), sl_BadText⟩)
    (ci_BadText : PySem.W.codeIn K cd_BadText "BadText.__init__" = true)
    (ki_BadText : PySem.W.keepIn K (.ref I_BadText) = true)
    (hF : (F_law ([Sl.no, .box true] ++ List.replicate 13 .no)).run.wp (fun d => d = .bool true) (fun _ => False)) :
    ∃ fd : FuncData, (∀ (s : Shared) (v : Value), BindsTo s fd ⟨[v], []⟩ [("_law_script", v)]) ∧ ∀ base : Heap, K.In base → base.Ns mainGlobals mg → FnG l.prog w K mg base 8 fa fd ["_law_script"] (spL K) := by
  have e := hfa.symm.trans (PySem.W.mg_of X G a_law)
  cases e
  let cad : Cad := ⟨fun x => [(("BadFlow" : Str), A_BadFlow), (("BadText" : Str), A_BadText)].lookup x, fun _ => True⟩
  have b_abs := PySem.W.mg_none_of X G z_abs
  have b_all := PySem.W.mg_none_of X G z_all
  have b_bool := PySem.W.mg_none_of X G z_bool
  have b_enumerate := PySem.W.mg_none_of X G z_enumerate
  have b_int := PySem.W.mg_none_of X G z_int
  have b_isinstance := PySem.W.mg_none_of X G z_isinstance
  have b_len := PySem.W.mg_none_of X G z_len
  have b_range := PySem.W.mg_none_of X G z_range
  have b_repr := PySem.W.mg_none_of X G z_repr
  have b_str := PySem.W.mg_none_of X G z_str
  have b_tuple := PySem.W.mg_none_of X G z_tuple
  have c_DIGITS := PySem.W.mg_of X G v_DIGITS
  have c_MAX_DIGITS := PySem.W.mg_of X G v_MAX_DIGITS
  have c_MAX_DIST := PySem.W.mg_of X G v_MAX_DIST
  have c_MAX_PLANES := PySem.W.mg_of X G v_MAX_PLANES
  have k_KINDS := PySem.W.mg_of X G v_KINDS
  have K_KINDS : KdI K w dA_KINDS kv_KINDS := ⟨⟨_, _, lk_KINDS, kl_KINDS, en_KINDS⟩, lo_KINDS⟩
  refine ⟨PySem.W.fnOf "law" "law" (defArgs St_law) (defBody St_law) (defScope St_law) .none kV_law dc_law pm_law an_law cd_law ct_law, fun s v => .of_eq rfl, fun base _ _ => ?_⟩
  have oe_BadFlow : OexC K A_BadFlow := ⟨⟨_, _, _, _, _, _, _, _, _, _, _, _, _, _, _, x_BadFlow, r_BadFlow⟩, sa_BadFlow, ex_BadFlow, ty_BadFlow, kc_BadFlow⟩
  have xf_BadFlow : XfC K A_BadFlow := ⟨ga_BadFlow, gg_BadFlow, ex_BadFlow, hd_BadFlow⟩
  have Fi_BadFlow := fun_mk (st := In_BadFlow) li_BadFlow ci_BadFlow ki_BadFlow
  have E_BadFlow : Err1 l.prog w K mg base cad "BadFlow" "error" := ⟨_, _, _, _, ⟨oe_BadFlow, xf_BadFlow, PySem.W.mg_of X G a_BadFlow, ii_BadFlow, ti_BadFlow⟩, (show List.lookup ("BadFlow" : Str) [(("BadFlow" : Str), A_BadFlow), (("BadText" : Str), A_BadText)] = some A_BadFlow from look1), init1_ok Fi_BadFlow si_BadFlow rfl oe_BadFlow no_BadFlow (fun X h1 h2 => pv 0 (by rw [h1]; rfl) (by rw [h2]; exact .inl rfl)) (fun X h1 h2 => pv 1 (by rw [h1]; rfl) (by rw [h2]; exact .inl rfl)), Fi_BadFlow.binds fun _ _ _ _ _ _ us hl => match us, hl with | [_, _], _ => rfl, no_BadFlow⟩
  have oe_BadText : OexC K A_BadText := ⟨⟨_, _, _, _, _, _, _, _, _, _, _, _, _, _, _, x_BadText, r_BadText⟩, sa_BadText, ex_BadText, ty_BadText, kc_BadText⟩
  have xf_BadText : XfC K A_BadText := ⟨ga_BadText, gg_BadText, ex_BadText, hd_BadText⟩
  have Fi_BadText := fun_mk (st := In_BadText) li_BadText ci_BadText ki_BadText
  have E_BadText : Err1 l.prog w K mg base cad "BadText" "index" := ⟨_, _, _, _, ⟨oe_BadText, xf_BadText, PySem.W.mg_of X G a_BadText, ii_BadText, ti_BadText⟩, (show List.lookup ("BadText" : Str) [(("BadFlow" : Str), A_BadFlow), (("BadText" : Str), A_BadText)] = some A_BadText from (look2 (by decide +kernel) look1)), init1_ok Fi_BadText si_BadText rfl oe_BadText no_BadText (fun X h1 h2 => pv 0 (by rw [h1]; rfl) (by rw [h2]; exact .inl rfl)) (fun X h1 h2 => pv 1 (by rw [h1]; rfl) (by rw [h2]; exact .inl rfl)), Fi_BadText.binds fun _ _ _ _ _ _ us hl => match us, hl with | [_, _], _ => rfl, no_BadText⟩
  have Fu_is_within := fun_mk (st := St_is_within) l_is_within c_is_within k_is_within
  have B_is_within : Binds K _ ["value", "low", "high"] [] := Fu_is_within.binds fun _ _ _ _ _ _ us hl => match us, hl with | [_, _, _], _ => rfl
  have C_is_within : Cal l.prog w K mg base cad "is_within" 2 3 m_is_within := ⟨_, _, _, ok_is_within Fu_is_within b_isinstance b_int b_bool, PySem.W.mg_of X G a_is_within, Fu_is_within.kp, B_is_within⟩
  have Fu_is_tuple_of := fun_mk (st := St_is_tuple_of) l_is_tuple_of c_is_tuple_of k_is_tuple_of
  have B_is_tuple_of : Binds K _ ["many", "value"] [] := Fu_is_tuple_of.binds fun _ _ _ _ _ _ us hl => match us, hl with | [_, _], _ => rfl
  have C_is_tuple_of : Cal l.prog w K mg base cad "is_tuple_of" 2 2 m_is_tuple_of := ⟨_, _, _, ok_is_tuple_of Fu_is_tuple_of b_isinstance b_tuple b_len, PySem.W.mg_of X G a_is_tuple_of, Fu_is_tuple_of.kp, B_is_tuple_of⟩
  have Fu_is_bounded := fun_mk (st := St_is_bounded) l_is_bounded c_is_bounded k_is_bounded
  have B_is_bounded : Binds K _ ["dims", "value", "most"] [] := Fu_is_bounded.binds fun _ _ _ _ _ _ us hl => match us, hl with | [_, _, _], _ => rfl
  have C_is_bounded : Cal l.prog w K mg base cad "is_bounded" 3 3 m_is_bounded := ⟨_, _, _, ok_is_bounded Fu_is_bounded C_is_within b_isinstance b_tuple b_len, PySem.W.mg_of X G a_is_bounded, Fu_is_bounded.kp, B_is_bounded⟩
  have Fu_has_form := fun_mk (st := St_has_form) l_has_form c_has_form k_has_form
  have B_has_form : Binds K _ ["rule"] [] := Fu_has_form.binds fun _ _ _ _ _ _ us hl => match us, hl with | [_], _ => rfl
  have C_has_form : Cal l.prog w K mg base cad "has_form" 2 1 m_has_form := ⟨_, _, _, ok_has_form Fu_has_form b_isinstance b_tuple b_str b_len K_KINDS k_KINDS, PySem.W.mg_of X G a_has_form, Fu_has_form.kp, B_has_form⟩
  have Fu_are_rules := fun_mk (st := St_are_rules) l_are_rules c_are_rules k_are_rules
  have B_are_rules : Binds K _ ["value"] [] := Fu_are_rules.binds fun _ _ _ _ _ _ us hl => match us, hl with | [_], _ => rfl
  have C_are_rules : Cal l.prog w K mg base cad "are_rules" 2 1 m_are_rules := ⟨_, _, _, ok_are_rules Fu_are_rules b_isinstance b_tuple b_len c_MAX_PLANES, PySem.W.mg_of X G a_are_rules, Fu_are_rules.kp, B_are_rules⟩
  have Fu_read_error := fun_mk (st := St_read_error) l_read_error c_read_error k_read_error
  have B_read_error : Binds K _ ["dims", "planes", "value"] [] := Fu_read_error.binds fun _ _ _ _ _ _ us hl => match us, hl with | [_, _, _], _ => rfl
  have C_read_error : Cal l.prog w K mg base cad "read_error" 4 3 m_read_error := ⟨_, _, _, ok_read_error Fu_read_error C_is_tuple_of C_is_within C_is_bounded c_MAX_DIST, PySem.W.mg_of X G a_read_error, Fu_read_error.kp, B_read_error⟩
  have Fu_rule_error := fun_mk (st := St_rule_error) l_rule_error c_rule_error k_rule_error
  have B_rule_error : Binds K _ ["dims", "planes", "value"] [] := Fu_rule_error.binds fun _ _ _ _ _ _ us hl => match us, hl with | [_, _, _], _ => rfl
  have C_rule_error : Cal l.prog w K mg base cad "rule_error" 5 3 m_rule_error := ⟨_, _, _, ok_rule_error Fu_rule_error C_has_form C_read_error b_enumerate, PySem.W.mg_of X G a_rule_error, Fu_rule_error.kp, B_rule_error⟩
  have Fu_flow_error := fun_mk (st := St_flow_error) l_flow_error c_flow_error k_flow_error
  have B_flow_error : Binds K _ ["value"] [] := Fu_flow_error.binds fun _ _ _ _ _ _ us hl => match us, hl with | [_], _ => rfl
  have C_flow_error : Cal l.prog w K mg base cad "flow_error" 6 1 m_flow_error := ⟨_, _, _, ok_flow_error Fu_flow_error C_is_tuple_of C_is_within C_are_rules C_rule_error b_enumerate b_len, PySem.W.mg_of X G a_flow_error, Fu_flow_error.kp, B_flow_error⟩
  have Fu_vector_text := fun_mk (st := St_vector_text) l_vector_text c_vector_text k_vector_text
  have B_vector_text : Binds K _ ["vector"] [] := Fu_vector_text.binds fun _ _ _ _ _ _ us hl => match us, hl with | [_], _ => rfl
  have C_vector_text : Cal l.prog w K mg base cad "vector_text" 2 1 m_vector_text := ⟨_, _, _, ok_vector_text Fu_vector_text b_str, PySem.W.mg_of X G a_vector_text, Fu_vector_text.kp, B_vector_text⟩
  have Fu_numbers_text := fun_mk (st := St_numbers_text) l_numbers_text c_numbers_text k_numbers_text
  have B_numbers_text : Binds K _ ["numbers"] [] := Fu_numbers_text.binds fun _ _ _ _ _ _ us hl => match us, hl with | [_], _ => rfl
  have C_numbers_text : Cal l.prog w K mg base cad "numbers_text" 2 1 m_numbers_text := ⟨_, _, _, ok_numbers_text Fu_numbers_text b_str, PySem.W.mg_of X G a_numbers_text, Fu_numbers_text.kp, B_numbers_text⟩
  have Fu_beats_text := fun_mk (st := St_beats_text) l_beats_text c_beats_text k_beats_text
  have B_beats_text : Binds K _ ["beats"] [] := Fu_beats_text.binds fun _ _ _ _ _ _ us hl => match us, hl with | [_], _ => rfl
  have C_beats_text : Cal l.prog w K mg base cad "beats_text" 3 1 m_beats_text := ⟨_, _, _, ok_beats_text Fu_beats_text C_vector_text C_numbers_text, PySem.W.mg_of X G a_beats_text, Fu_beats_text.kp, B_beats_text⟩
  have Fu_read_text := fun_mk (st := St_read_text) l_read_text c_read_text k_read_text
  have B_read_text : Binds K _ ["read"] [] := Fu_read_text.binds fun _ _ _ _ _ _ us hl => match us, hl with | [_], _ => rfl
  have C_read_text : Cal l.prog w K mg base cad "read_text" 3 1 m_read_text := ⟨_, _, _, ok_read_text Fu_read_text C_vector_text, PySem.W.mg_of X G a_read_text, Fu_read_text.kp, B_read_text⟩
  have Fu_rule_text := fun_mk (st := St_rule_text) l_rule_text c_rule_text k_rule_text
  have B_rule_text : Binds K _ ["rule"] [] := Fu_rule_text.binds fun _ _ _ _ _ _ us hl => match us, hl with | [_], _ => rfl
  have C_rule_text : Cal l.prog w K mg base cad "rule_text" 4 1 m_rule_text := ⟨_, _, _, ok_rule_text Fu_rule_text C_read_text, PySem.W.mg_of X G a_rule_text, Fu_rule_text.kp, B_rule_text⟩
  have Fu_flow_text := fun_mk (st := St_flow_text) l_flow_text c_flow_text k_flow_text
  have B_flow_text : Binds K _ ["flow"] [] := Fu_flow_text.binds fun _ _ _ _ _ _ us hl => match us, hl with | [_], _ => rfl
  have C_flow_text : Cal l.prog w K mg base cad "flow_text" 5 1 m_flow_text := ⟨_, _, _, ok_flow_text Fu_flow_text C_rule_text b_str, PySem.W.mg_of X G a_flow_text, Fu_flow_text.kp, B_flow_text⟩
  have Fu_parse_integer := fun_mk (st := St_parse_integer) l_parse_integer c_parse_integer k_parse_integer
  have B_parse_integer : Binds K _ ["text"] [] := Fu_parse_integer.binds fun _ _ _ _ _ _ us hl => match us, hl with | [_], _ => rfl
  have C_parse_integer : Cal l.prog w K mg base cad "parse_integer" 2 1 m_parse_integer := ⟨_, _, _, ok_parse_integer Fu_parse_integer b_len b_all b_int b_str c_MAX_DIGITS c_DIGITS, PySem.W.mg_of X G a_parse_integer, Fu_parse_integer.kp, B_parse_integer⟩
  have Fu_parse_vector := fun_mk (st := St_parse_vector) l_parse_vector c_parse_vector k_parse_vector
  have B_parse_vector : Binds K _ ["dims", "text"] [] := Fu_parse_vector.binds fun _ _ _ _ _ _ us hl => match us, hl with | [_, _], _ => rfl
  have C_parse_vector : Cal l.prog w K mg base cad "parse_vector" 3 2 m_parse_vector := ⟨_, _, _, ok_parse_vector Fu_parse_vector C_parse_integer b_len b_tuple, PySem.W.mg_of X G a_parse_vector, Fu_parse_vector.kp, B_parse_vector⟩
  have Fu_parse_read := fun_mk (st := St_parse_read) l_parse_read c_parse_read k_parse_read
  have B_parse_read : Binds K _ ["dims", "text"] [] := Fu_parse_read.binds fun _ _ _ _ _ _ us hl => match us, hl with | [_, _], _ => rfl
  have C_parse_read : Cal l.prog w K mg base cad "parse_read" 4 2 m_parse_read := ⟨_, _, _, ok_parse_read Fu_parse_read C_parse_integer C_parse_vector b_len, PySem.W.mg_of X G a_parse_read, Fu_parse_read.kp, B_parse_read⟩
  have Fu_parse_rule := fun_mk (st := St_parse_rule) l_parse_rule c_parse_rule k_parse_rule
  have B_parse_rule : Binds K _ ["dims", "words", "at"] [] := Fu_parse_rule.binds fun _ _ _ _ _ _ us hl => match us, hl with | [_, _, _], _ => rfl
  have C_parse_rule : Cal l.prog w K mg base cad "parse_rule" 5 3 m_parse_rule := ⟨_, _, _, ok_parse_rule Fu_parse_rule C_parse_read b_len b_range b_tuple K_KINDS k_KINDS E_BadText, PySem.W.mg_of X G a_parse_rule, Fu_parse_rule.kp, B_parse_rule⟩
  have Fu_parse_flow := fun_mk (st := St_parse_flow) l_parse_flow c_parse_flow k_parse_flow
  have B_parse_flow : Binds K _ ["value"] [] := Fu_parse_flow.binds fun _ _ _ _ _ _ us hl => match us, hl with | [_], _ => rfl
  have C_parse_flow : Cal l.prog w K mg base cad "parse_flow" 7 1 m_parse_flow := ⟨_, _, _, ok_parse_flow Fu_parse_flow C_parse_rule C_flow_error b_isinstance b_str b_int b_len b_tuple E_BadText E_BadFlow, PySem.W.mg_of X G a_parse_flow, Fu_parse_flow.kp, B_parse_flow⟩
  have Fu_law_opened := fun_mk (st := St_law_opened) l_law_opened c_law_opened k_law_opened
  have B_law_opened : Binds K _ ["_law_script"] [] := Fu_law_opened.binds fun _ _ _ _ _ _ us hl => match us, hl with | [_], _ => rfl
  have Fu_law_draw := fun_mk (st := St_law_draw) l_law_draw c_law_draw k_law_draw
  have B_law_draw : Binds K _ ["_law_box", "_law_many"] [] := Fu_law_draw.binds fun _ _ _ _ _ _ us hl => match us, hl with | [_, _], _ => rfl
  have C_law_draw : Cal l.prog w K mg base cad "_law_draw" 1 2 mDraw := ⟨_, _, _, ok_law_draw Fu_law_draw b_int b_len, PySem.W.mg_of X G a_law_draw, Fu_law_draw.kp, B_law_draw⟩
  have Fu_law_one := fun_mk (st := St_law_one) l_law_one c_law_one k_law_one
  have B_law_one : Binds K _ ["_law_box", "_law_items"] [] := Fu_law_one.binds fun _ _ _ _ _ _ us hl => match us, hl with | [_, _], _ => rfl
  have C_law_one : Cal l.prog w K mg base cad "_law_one" 2 2 m_law_one := ⟨_, _, _, ok_law_one Fu_law_one C_law_draw b_len, PySem.W.mg_of X G a_law_one, Fu_law_one.kp, B_law_one⟩
  have Fu_law_kinds := fun_mk (st := St_law_kinds) l_law_kinds c_law_kinds k_law_kinds
  have B_law_kinds : Binds K _ [] [] := Fu_law_kinds.binds fun _ _ _ _ _ _ us hl => match us, hl with | [], _ => rfl
  have C_law_kinds : Cal l.prog w K mg base cad "_law_kinds" 2 0 m_law_kinds := ⟨_, _, _, ok_law_kinds Fu_law_kinds , PySem.W.mg_of X G a_law_kinds, Fu_law_kinds.kp, B_law_kinds⟩
  have Fu_law_vector := fun_mk (st := St_law_vector) l_law_vector c_law_vector k_law_vector
  have B_law_vector : Binds K _ ["_law_box", "_law_dims", "_law_most"] [] := Fu_law_vector.binds fun _ _ _ _ _ _ us hl => match us, hl with | [_, _, _], _ => rfl
  have C_law_vector : Cal l.prog w K mg base cad "_law_vector" 2 3 m_law_vector := ⟨_, _, _, ok_law_vector Fu_law_vector C_law_draw b_tuple b_range, PySem.W.mg_of X G a_law_vector, Fu_law_vector.kp, B_law_vector⟩
  have Fu_law_rule := fun_mk (st := St_law_rule) l_law_rule c_law_rule k_law_rule
  have B_law_rule : Binds K _ ["_law_box", "_law_dims", "_law_many"] [] := Fu_law_rule.binds fun _ _ _ _ _ _ us hl => match us, hl with | [_, _, _], _ => rfl
  have C_law_rule : Cal l.prog w K mg base cad "_law_rule" 3 3 m_law_rule := ⟨_, _, _, ok_law_rule Fu_law_rule C_law_one C_law_kinds C_law_vector C_law_draw b_tuple b_range, PySem.W.mg_of X G a_law_rule, Fu_law_rule.kp, B_law_rule⟩
  have Fu_law_flow := fun_mk (st := St_law_flow) l_law_flow c_law_flow k_law_flow
  have B_law_flow : Binds K _ ["_law_box"] [] := Fu_law_flow.binds fun _ _ _ _ _ _ us hl => match us, hl with | [_], _ => rfl
  have C_law_flow : Cal l.prog w K mg base cad "_law_flow" 4 1 m_law_flow := ⟨_, _, _, ok_law_flow Fu_law_flow C_law_draw C_law_rule b_tuple b_range, PySem.W.mg_of X G a_law_flow, Fu_law_flow.kp, B_law_flow⟩
  have Fu_law_vector_text := fun_mk (st := St_law_vector_text) l_law_vector_text c_law_vector_text k_law_vector_text
  have B_law_vector_text : Binds K _ ["_law_vector_here"] [] := Fu_law_vector_text.binds fun _ _ _ _ _ _ us hl => match us, hl with | [_], _ => rfl
  have C_law_vector_text : Cal l.prog w K mg base cad "_law_vector_text" 2 1 m_law_vector_text := ⟨_, _, _, ok_law_vector_text Fu_law_vector_text b_str, PySem.W.mg_of X G a_law_vector_text, Fu_law_vector_text.kp, B_law_vector_text⟩
  have Fu_law_rule_text := fun_mk (st := St_law_rule_text) l_law_rule_text c_law_rule_text k_law_rule_text
  have B_law_rule_text : Binds K _ ["_law_rule_here"] [] := Fu_law_rule_text.binds fun _ _ _ _ _ _ us hl => match us, hl with | [_], _ => rfl
  have C_law_rule_text : Cal l.prog w K mg base cad "_law_rule_text" 3 1 m_law_rule_text := ⟨_, _, _, ok_law_rule_text Fu_law_rule_text C_law_vector_text b_str, PySem.W.mg_of X G a_law_rule_text, Fu_law_rule_text.kp, B_law_rule_text⟩
  have Fu_law_flow_text := fun_mk (st := St_law_flow_text) l_law_flow_text c_law_flow_text k_law_flow_text
  have B_law_flow_text : Binds K _ ["_law_flow_here"] [] := Fu_law_flow_text.binds fun _ _ _ _ _ _ us hl => match us, hl with | [_], _ => rfl
  have C_law_flow_text : Cal l.prog w K mg base cad "_law_flow_text" 4 1 m_law_flow_text := ⟨_, _, _, ok_law_flow_text Fu_law_flow_text C_law_rule_text b_str, PySem.W.mg_of X G a_law_flow_text, Fu_law_flow_text.kp, B_law_flow_text⟩
  have Fu_law_numbers := fun_mk (st := St_law_numbers) l_law_numbers c_law_numbers k_law_numbers
  have B_law_numbers : Binds K _ ["_law_box", "_law_many"] [] := Fu_law_numbers.binds fun _ _ _ _ _ _ us hl => match us, hl with | [_, _], _ => rfl
  have C_law_numbers : Cal l.prog w K mg base cad "_law_numbers" 3 2 m_law_numbers := ⟨_, _, _, ok_law_numbers Fu_law_numbers C_law_draw C_law_one b_tuple b_range, PySem.W.mg_of X G a_law_numbers, Fu_law_numbers.kp, B_law_numbers⟩
  have Fu_law := fun_mk (st := St_law) l_law c_law k_law
  exact ok_law Fu_law (ok_law_opened (cad := cad) Fu_law_opened b_int b_abs) (PySem.W.mg_of X G a_law_opened) Fu_law_opened.kp B_law_opened C_law_numbers C_law_draw C_law_flow C_law_vector C_law_flow_text C_flow_text C_parse_flow C_rule_text C_law_rule_text C_numbers_text C_vector_text C_law_vector_text C_beats_text b_range b_tuple b_repr b_str (fun _ _ _ _ => trivial) hF
end Wk11
set_option Elab.async false
set_option linter.all false
set_option maxRecDepth 100000
set_option maxHeartbeats 4000000
namespace Wk11
open PySem PySem.Spec PyProof.Rows L2 Wb
theorem is_within_eq (v : D) (lo hi : Int) : m_is_within [.d v, .d (.int lo), .d (.int hi)] = .ret (.bool (Wb.inR lo hi v)) := by
  cases v with
  | int i => simp [m_is_within, F_is_within, Wb.inR]
  | _ => with_unfolding_all rfl
def tupB (n : Int) : D → Bool
  | .tuple xs => decide ((xs.length : Int) = n)
  | _ => false
theorem tuple_of_eq (v : D) (n : Int) : m_is_tuple_of [.d (.int n), .d v] = .ret (.bool (tupB n v)) := by
  cases v with
  | tuple xs => simp [m_is_tuple_of, F_is_tuple_of, eq_ints, tupB]
  | _ => with_unfolding_all rfl
/-! ### vectors with bounds -/
theorem is_bounded_eq (v : D) (n m : Int) (hn : n ≤ 1000) : m_is_bounded [.d (.int n), .d v, .d (.int m)] = .ret (.bool (Wb.okv n m v)) := by
  cases v with
  | tuple xs =>
    have k := bnd_go is_within_eq (n := .int n) (v := .tuple xs) (m := m) xs .no
    have eb : B0_is_bounded = (sIf (eUn oNot (eCall 3 m_is_within (aCons (eV 3) (aCons (eUn oNeg (eV 2)) (aCons (eV 2) aNil))))) (sRet (eC (.bool false))) sNil) := rfl
    rw [← eb] at k
    by_cases e : (xs.length : Int) = n
    · cases hb : xs.all (Wb.inR (-m) m) with
      | true =>
        obtain ⟨s', h⟩ := k.1 hb
        simp [m_is_bounded, F_is_bounded, ne_ints, e, h, hb, Wb.okv]
      | false => simp [m_is_bounded, F_is_bounded, ne_ints, e, k.2 hb, hb, Wb.okv]
    · simp [m_is_bounded, F_is_bounded, ne_ints, e, Wb.okv]
  | _ => with_unfolding_all rfl
/-! ### the form of a rule -/
def kindN : D → Option Int
  | .str z => kv_KINDS.lookup z
  | _ => none
def formB : D → Bool
  | .tuple (x :: xs) => match kindN x with
    | some n => decide ((xs.length : Int) = n)
    | none => false
  | _ => false
theorem has_form_eq (v : D) : m_has_form [.d v] = .ret (.bool (formB v)) := by
  cases v with
  | tuple xs =>
    cases xs with
    | nil => with_unfolding_all rfl
    | cons x xs =>
      have ix : oIx (.tuple (x :: xs)) (.int 0) = .ret x := ixT_at (j := 0) (by simp)
      cases x with
      | str z =>
        cases e : kv_KINDS.lookup z with
        | none => simp [m_has_form, F_has_form, ix, e, formB, kindN]
        | some n =>
          have e2 : decide ((xs.length : Int) + 1 = 1 + n) = decide ((xs.length : Int) = n) := by
            by_cases h : (xs.length : Int) = n
            · rw [decide_eq_true h, decide_eq_true (by omega)]
            · rw [decide_eq_false h, decide_eq_false (by omega)]
          simp [m_has_form, F_has_form, ix, e, formB, kindN, eq_ints, e2]
      | _ => simp [m_has_form, F_has_form, ix, formB, kindN]
  | _ => with_unfolding_all rfl
/-! ### reads -/
def readW (dims planes : Int) (v : D) : Option Str := if tupB 2 v = true then (match v with
  | .tuple [s, d] => if Wb.inR 0 (planes - 1) s = true then (if Wb.okv dims 4 d = true then none else some "distance") else some "source"
  | _ => none) else some "read"
def strD : Option Str → D
  | none => .none
  | some w => .str w
theorem read_error_eq (dims planes : Int) (v : D) (hd : dims ≤ 1000) : m_read_error [.d (.int dims), .d (.int planes), .d v] = .ret (strD (readW dims planes v)) := by
  have h := tuple_of_eq v 2
  cases hb : tupB 2 v with
  | false =>
    rw [hb] at h
    simp [m_read_error, F_read_error, h, readW, hb, strD]
  | true =>
    rw [hb] at h
    cases v with
    | tuple xs =>
      simp only [tupB] at hb
      match xs, hb, h with
      | [s, d], hb, h =>
        have h1 := is_within_eq s 0 (planes - 1)
        have h2 := is_bounded_eq d dims 4 hd
        have hb' : tupB 2 (.tuple [s, d]) = true := hb
        cases c1 : Wb.inR 0 (planes - 1) s with
        | false =>
          rw [c1] at h1
          simp [m_read_error, F_read_error, h, h1, readW, hb', c1, strD]
        | true =>
          rw [c1] at h1
          cases c2 : Wb.okv dims 4 d with
          | false =>
            rw [c2] at h2
            simp [m_read_error, F_read_error, h, h1, h2, readW, hb', c1, c2, strD]
          | true =>
            rw [c2] at h2
            simp [m_read_error, F_read_error, h, h1, h2, readW, hb', c1, c2, strD]
      | [], hb, _ => simp at hb
      | [_], hb, _ => simp at hb
      | _ :: _ :: _ :: r, hb, _ =>
        have := of_decide_eq_true hb
        simp only [List.length_cons] at this
        omega
    | _ => cases hb
/-! ### rules -/
def ruleGo (dims planes : Int) : Nat → List D → Option (Nat × Str)
  | _, [] => none
  | i, r :: rs => match readW dims planes r with
    | none => ruleGo dims planes (i + 1) rs
    | some w => some (i, w)
def goD : Option (Nat × Str) → Option D
  | none => none
  | some (i, w) => some (.tuple [.int (i : Nat), .str w])
theorem rule_step (dims planes : Int) (v : D) (hd : dims ≤ 1000) (i d : D) (s5 : Sl) : B0_rule_error [.d (.int dims), .d (.int planes), .d v, .d i, .d d, s5] = .ret (match readW dims planes d with
    | none => .nx [.d (.int dims), .d (.int planes), .d v, .d i, .d d, .d .none]
    | some w => .ret (.tuple [i, .str w])) := by
  have e := read_error_eq dims planes d hd
  cases hr : readW dims planes d with
  | none =>
    rw [hr] at e
    simp [B0_rule_error, e, strD]
  | some w =>
    rw [hr] at e
    simp [B0_rule_error, e, strD]
theorem rule_go (dims planes : Int) (v : D) (hd : dims ≤ 1000) : ∀ (rs : List D) (i : Nat) (s3 s4 s5 : Sl), ∃ t3 t4 t5,
    forGo (bTup [3, 4]) B0_rule_error (numD i rs) [.d (.int dims), .d (.int planes), .d v, s3, s4, s5] = .ret (match goD (ruleGo dims planes i rs) with
      | none => .nx [.d (.int dims), .d (.int planes), .d v, t3, t4, t5]
      | some e => .ret e)
  | [], i, s3, s4, s5 => ⟨s3, s4, s5, rfl⟩
  | d :: r, i, s3, s4, s5 => by
    have e := rule_step dims planes v hd (.int (i : Nat)) d s5
    unfold numD
    unfold forGo
    cases hr : readW dims planes d with
    | none =>
      obtain ⟨t3, t4, t5, ih⟩ := rule_go dims planes v hd r (i + 1) (.d (.int (i : Nat))) (.d d) (.d .none)
      refine ⟨t3, t4, t5, ?_⟩
      rw [hr] at e
      simp [e, ruleGo, hr, ih]
    | some w =>
      refine ⟨s3, s4, s5, ?_⟩
      rw [hr] at e
      simp [e, ruleGo, hr, goD]
def ruleE (dims planes : Int) (v : D) : Option (Option Nat × Str) := if formB v = true then (match v with
  | .tuple (_ :: rs) => (ruleGo dims planes 0 rs).map fun p => (some p.1, p.2)
  | _ => none) else some (none, "rule")
def natD : Option Nat → D
  | none => .none
  | some i => .int (i : Nat)
def rd : Option (Option Nat × Str) → D
  | none => .none
  | some p => .tuple [natD p.1, .str p.2]
theorem rule_error_eq (dims planes : Int) (v : D) (hd : dims ≤ 1000) : m_rule_error [.d (.int dims), .d (.int planes), .d v] = .ret (rd (ruleE dims planes v)) := by
  have h := has_form_eq v
  cases hb : formB v with
  | false =>
    rw [hb] at h
    simp [m_rule_error, F_rule_error, h, ruleE, hb, rd, natD]
  | true =>
    rw [hb] at h
    cases v with
    | tuple xs =>
      cases xs with
      | nil => cases hb
      | cons x rs =>
        obtain ⟨t3, t4, t5, e⟩ := rule_go dims planes (.tuple (x :: rs)) hd rs 0 .no .no .no
        have en : oEnum [.d (.tuple rs)] = .ret (numD 0 rs) := rfl
        have ec : cutD (x :: rs) (some 1) none = rs := by
          have := cutD_suf (xs := x :: rs) (j := 1) (by simp)
          simpa using this
        simp [m_rule_error, F_rule_error, h, ruleE, hb, en, e, ec]
        cases ruleGo dims planes 0 rs with
        | none => simp [goD, rd]
        | some p => simp [goD, rd, natD]
    | _ => cases hb
end Wk11
set_option Elab.async false
set_option linter.all false
set_option maxRecDepth 100000
set_option maxHeartbeats 4000000
namespace Wk11
open PySem PySem.Spec PyProof.Rows L2 Wb
/-! ### flows -/
def fd (i : Nat) (p : Option Nat × Str) : D := .tuple [match p.1 with
  | none => .int (i : Nat)
  | some o => .tuple [.int (i : Nat), .int (o : Nat)], .str p.2]
def flowGo (dims planes : Int) : Nat → List D → D
  | _, [] => .none
  | i, r :: rs => match ruleE dims planes r with
    | none => flowGo dims planes (i + 1) rs
    | some p => fd i p
theorem flow_step (v : D) (dims : Int) (rs : List D) (hd : dims ≤ 1000) (i d : D) (s5 s6 s7 : Sl) : B0_flow_error [.d v, .d (.int dims), .d (.tuple rs), .d i, .d d, s5, s6, s7] = .ret (match ruleE dims (rs.length : Nat) d with
    | none => .nx [.d v, .d (.int dims), .d (.tuple rs), .d i, .d d, .d .none, s6, s7]
    | some p => .ret (.tuple [match p.1 with
      | none => i
      | some o => .tuple [i, .int (o : Nat)], .str p.2])) := by
  have e := rule_error_eq dims (rs.length : Nat) d hd
  cases hr : ruleE dims (rs.length : Nat) d with
  | none =>
    rw [hr] at e
    simp [B0_flow_error, e, rd]
  | some p =>
    obtain ⟨o, w⟩ := p
    rw [hr] at e
    cases o <;> simp [B0_flow_error, e, rd, natD]
theorem flow_go (v : D) (dims : Int) (rs : List D) (hd : dims ≤ 1000) : ∀ (r : List D) (i : Nat) (s3 s4 s5 s6 s7 : Sl), ∃ t3 t4 t5 t6 t7,
    forGo (bTup [3, 4]) B0_flow_error (numD i r) [.d v, .d (.int dims), .d (.tuple rs), s3, s4, s5, s6, s7] = .ret (match flowGo dims (rs.length : Nat) i r with
      | .none => .nx [.d v, .d (.int dims), .d (.tuple rs), t3, t4, t5, t6, t7]
      | e => .ret e)
  | [], i, s3, s4, s5, s6, s7 => ⟨s3, s4, s5, s6, s7, rfl⟩
  | d :: r, i, s3, s4, s5, s6, s7 => by
    have e := flow_step v dims rs hd (.int (i : Nat)) d s5 s6 s7
    unfold numD
    unfold forGo
    cases hr : ruleE dims (rs.length : Nat) d with
    | none =>
      obtain ⟨t3, t4, t5, t6, t7, ih⟩ := flow_go v dims rs hd r (i + 1) (.d (.int (i : Nat))) (.d d) (.d .none) s6 s7
      refine ⟨t3, t4, t5, t6, t7, ?_⟩
      rw [hr] at e
      simp [e, flowGo, hr, ih]
    | some p =>
      refine ⟨s3, s4, s5, s6, s7, ?_⟩
      rw [hr] at e
      obtain ⟨o, w⟩ := p
      cases o <;> simp [e, flowGo, hr, fd]
def rulesB : D → Bool
  | .tuple rs => decide (1 ≤ (rs.length : Int)) && decide ((rs.length : Int) ≤ 6)
  | _ => false
theorem are_rules_eq (v : D) : m_are_rules [.d v] = .ret (.bool (rulesB v)) := by
  cases v with
  | tuple xs => simp [m_are_rules, F_are_rules, rulesB]
  | _ => with_unfolding_all rfl
def flowE (v : D) : D := if tupB 2 v = true then (match v with
  | .tuple [dm, rl] => if Wb.inR 2 3 dm = true then (match dm with
    | .int n => if rulesB rl = true then (match rl with
      | .tuple rs => flowGo n (rs.length : Nat) 0 rs
      | _ => .none) else .tuple [.none, .str "rules"]
    | _ => .none) else .tuple [.none, .str "dims"]
  | _ => .none) else .tuple [.none, .str "flow"]
theorem tup2 {v : D} (h : tupB 2 v = true) : ∃ a b, v = .tuple [a, b] := by
  cases v with
  | tuple xs =>
    simp only [tupB] at h
    match xs, h with
    | [a, b], _ => exact ⟨a, b, rfl⟩
    | [], h => simp at h
    | [_], h => simp at h
    | _ :: _ :: _ :: r, h =>
      have := of_decide_eq_true h
      simp only [List.length_cons] at this
      omega
  | _ => cases h
theorem inR_int {lo hi : Int} {v : D} (h : Wb.inR lo hi v = true) : ∃ n, v = .int n ∧ lo ≤ n ∧ n ≤ hi := by
  cases v with
  | int n =>
    simp only [Wb.inR, Bool.and_eq_true, decide_eq_true_eq] at h
    exact ⟨n, rfl, h.1, h.2⟩
  | _ => cases h
theorem rulesB_tup {v : D} (h : rulesB v = true) : ∃ rs, v = .tuple rs ∧ 1 ≤ rs.length ∧ rs.length ≤ 6 := by
  cases v with
  | tuple rs =>
    simp only [rulesB, Bool.and_eq_true, decide_eq_true_eq] at h
    exact ⟨rs, rfl, by omega, by omega⟩
  | _ => cases h
theorem flow_error_eq (v : D) : m_flow_error [.d v] = .ret (flowE v) := by
  have h := tuple_of_eq v 2
  cases hb : tupB 2 v with
  | false =>
    rw [hb] at h
    simp [m_flow_error, F_flow_error, h, flowE, hb]
  | true =>
    rw [hb] at h
    obtain ⟨dm, rl, rfl⟩ := tup2 hb
    have h1 := is_within_eq dm 2 3
    cases c1 : Wb.inR 2 3 dm with
    | false =>
      rw [c1] at h1
      simp [m_flow_error, F_flow_error, h, h1, flowE, hb, c1]
    | true =>
      rw [c1] at h1
      obtain ⟨n, rfl, n0, n1⟩ := inR_int c1
      have h2 := are_rules_eq rl
      cases c2 : rulesB rl with
      | false =>
        rw [c2] at h2
        simp [m_flow_error, F_flow_error, h, h1, h2, flowE, hb, c1, c2]
      | true =>
        rw [c2] at h2
        obtain ⟨rs, rfl, r0, r1⟩ := rulesB_tup c2
        obtain ⟨t3, t4, t5, t6, t7, e⟩ := flow_go (.tuple [.int n, .tuple rs]) n rs (by omega) rs 0 .no .no .no .no .no
        have en : oEnum [.d (.tuple rs)] = .ret (numD 0 rs) := rfl
        simp [m_flow_error, F_flow_error, h, h1, h2, flowE, hb, c1, c2, en, e]
        cases flowGo n (rs.length : Nat) 0 rs <;> simp
end Wk11
set_option Elab.async false
set_option linter.all false
set_option maxRecDepth 100000
set_option maxHeartbeats 4000000
namespace Wk11
open PySem PySem.Spec PyProof.Rows L2 Wb
theorem one_wp {xs : List D} {P : D → Prop} {E : Exn → Prop} (h0 : 0 < xs.length) (h1 : xs.length < 1073741824) (h : ∀ x ∈ xs, P x) : (m_law_one [.box true, .d (.list xs)]).wp P E := by
  simp [m_law_one, F_law_one]
  refine ⟨h0, by omega, fun i i0 i1 => drawn_item h i0 i1⟩
def KL : List (Str × Nat) := [("copy", 1), ("neg", 1), ("add", 2), ("sub", 2), ("mul", 2), ("least", 2), ("most", 2), ("madd", 3)]
def kindsD : D := .dict (KL.map fun p => (.str p.1, .int (p.2 : Nat)))
theorem law_kinds_eq : m_law_kinds [] = .ret kindsD := by with_unfolding_all rfl
theorem kinds_ok : ∀ p ∈ KL, 1 ≤ p.2 ∧ p.2 ≤ 3 ∧ tiB 0 5 (.str p.1) = true := by decide +kernel
theorem kinds_get : ∀ p ∈ KL, oDGet kindsD (.str p.1) = .ret (.int (p.2 : Nat)) := fun p hp => by
  simp only [KL, List.mem_cons, List.not_mem_nil, or_false] at hp
  rcases hp with rfl | rfl | rfl | rfl | rfl | rfl | rfl | rfl <;> with_unfolding_all rfl
theorem vector_wp {n M : Nat} (hn : n ≤ 3) (hM : M ≤ 60) : (m_law_vector [.box true, .d (.int (n : Nat)), .d (.int (M : Nat))]).wp (fun v => ∃ ns : List Int, v = vecD ns ∧ ns.length = n ∧ ∀ x ∈ ns, x.natAbs ≤ M) noE := by
  have A : (eLc [3] (iArg oRng1 (aCons (eV 1) aNil)) (bName 3) tTrue (eBin oSub (eCall 2 m_law_draw (aBox 0 (aCons (eBin oAdd (eBin oMul (eC (.int 2)) (eV 2)) (eC (.int 1))) aNil))) (eV 2)) [.box true, .d (.int (n : Nat)), .d (.int (M : Nat)), .no]).wp (fun d => ∃ ns : List Int, d = .list (ns.map PyData.int) ∧ ns.length = n ∧ ∀ x ∈ ns, -(M : Int) ≤ x ∧ x ≤ (M : Int)) noE := by
    refine eLc_wp (ds := rangeD 0 n) (by simp [oRng1_nat (n := n) (by omega)]) (by rw [rangeD_len]; omega) (lc_wp (R := fun _ y => ∃ z, y = PyData.int z ∧ -(M : Int) ≤ z ∧ z ≤ (M : Int)) _ (fun d _ => ⟨_, rfl, rfl, ?_⟩) fun ys hy => ?_)
    · have m : oMul (.int 2) (.int (M : Nat)) = .ret (.int (2 * (M : Nat))) := mul_ints' (by omega)
      simp [m]
      refine ⟨by omega, by omega, fun i i0 i1 => ?_⟩
      omega
    · obtain ⟨ns, rfl, hl, hb⟩ := each_ints hy
      exact ⟨ns, rfl, by rw [hl, rangeD_len], hb⟩
  rw [mq_law_vector]
  simp [F_law_vector]
  refine T.le A ?_
  rintro d ⟨ns, rfl, hl, hb⟩
  simp
  exact ⟨ns, rfl, hl, fun x hx => by have := hb x hx; omega⟩
theorem kind_list : (eLst (aCons (eC (.str "copy")) (aCons (eC (.str "neg")) (aCons (eC (.str "add")) (aCons (eC (.str "sub")) (aCons (eC (.str "mul")) (aCons (eC (.str "least")) (aCons (eC (.str "most")) (aCons (eC (.str "madd")) aNil))))))))) = fun _ => T.ret (.list (KL.map fun p => .str p.1)) := by
  funext ρ
  rfl
theorem each_reads {n m : Nat} {ds : List D} : ∀ {ys : List D}, Each (fun _ y => ∃ x : Rd, y = readD x ∧ x.1 < m ∧ x.2.length = n ∧ ∀ z ∈ x.2, z.natAbs ≤ 4) ds ys → ∃ xs : List Rd, ys = xs.map readD ∧ xs.length = ds.length ∧ ∀ x ∈ xs, x.1 < m ∧ x.2.length = n ∧ ∀ z ∈ x.2, z.natAbs ≤ 4 := by
  induction ds with
  | nil =>
    intro ys h
    cases h
    exact ⟨[], rfl, rfl, fun x hx => by cases hx⟩
  | cons d r ih =>
    intro ys h
    cases h with
    | cons h1 h2 =>
      obtain ⟨x, rfl, hx⟩ := h1
      obtain ⟨xs, rfl, hl, h3⟩ := ih h2
      refine ⟨x :: xs, rfl, by simp [hl], fun y hy => ?_⟩
      rcases List.mem_cons.mp hy with rfl | h
      · exact hx
      · exact h3 y h
/-- a rule of a flow of dims n and m planes -/
structure OkR (n m : Nat) (r : Ru) : Prop where
  kind : ∃ p ∈ KL, r.1 = p.1 ∧ r.2.length = p.2
  src : ∀ x ∈ r.2, x.1 < m
  dl : ∀ x ∈ r.2, x.2.length = n
  db : ∀ x ∈ r.2, ∀ z ∈ x.2, z.natAbs ≤ 4
abbrev rdE : Env' → T D := (eLc [4] (iArg oRng1 (aCons (eBin oDGet (eCall 0 m_law_kinds aNil) (eV 3)) aNil)) (bName 4) tTrue (eTup (aCons (eCall 2 m_law_draw (aBox 0 (aCons (eV 2) aNil))) (aCons (eCall 3 m_law_vector (aBox 0 (aCons (eV 1) (aCons (eC (.int 4)) aNil)))) aNil))))
theorem rd_wp {n m : Nat} (hn : n ≤ 3) (hm : 1 ≤ m) (hm6 : m ≤ 6) {p : Str × Nat} (hp : p ∈ KL) :
    (rdE [.box true, .d (.int (n : Nat)), .d (.int (m : Nat)), .d (.str p.1), .no]).wp (fun d => ∃ xs : List Rd, d = .list (xs.map readD) ∧ xs.length = p.2 ∧ ∀ x ∈ xs, x.1 < m ∧ x.2.length = n ∧ ∀ z ∈ x.2, z.natAbs ≤ 4) noE := by
  have hk := law_kinds_eq
  have kg := kinds_get p hp
  obtain ⟨k1, k3, _⟩ := kinds_ok p hp
  have vw := vector_wp (n := n) (M := 4) hn (by omega)
  have r := oRng1_nat (n := p.2) (by omega)
  have rl := rangeD_len (a := 0) (n := p.2)
  generalize kindsD = KD at *
  generalize (PyData.str p.1) = PS at *
  generalize p.2 = j at *
  unfold rdE
  generalize m_law_vector = MV at *
  refine eLc_wp (ds := rangeD 0 j) (by simp [hk, kg, r]) (by omega) (lc_wp (R := fun _ y => ∃ x : Rd, y = readD x ∧ x.1 < m ∧ x.2.length = n ∧ ∀ z ∈ x.2, z.natAbs ≤ 4) _ (fun d _ => ⟨_, rfl, rfl, ?_⟩) fun ys hy => ?_)
  · simp
    refine ⟨by omega, by omega, fun i i0 i1 => ?_⟩
    refine T.le vw ?_
    rintro v ⟨ns, rfl, h1, h2⟩
    try simp
    obtain ⟨w, rfl⟩ : ∃ w : Nat, i = w := ⟨i.toNat, by omega⟩
    exact ⟨w, ns, rfl, by omega, h1, h2⟩
  · obtain ⟨xs, rfl, hl, h⟩ := each_reads hy
    exact ⟨xs, rfl, by omega, h⟩
theorem rule_wp {n m : Nat} (hn : n ≤ 3) (hm : 1 ≤ m) (hm6 : m ≤ 6) : (m_law_rule [.box true, .d (.int (n : Nat)), .d (.int (m : Nat))]).wp (fun v => ∃ r : Ru, v = ruleD r ∧ OkR n m r) noE := by
  have one : (m_law_one [.box true, .d (.list (KL.map fun p => .str p.1))]).wp (fun v => ∃ p ∈ KL, v = .str p.1) noE :=
    one_wp (by decide) (by decide) fun x hx => by
      obtain ⟨p, hp, rfl⟩ := List.mem_map.mp hx
      exact ⟨p, hp, rfl⟩
  have RD := @rd_wp n m hn hm hm6
  rw [mq_law_rule]
  unfold F_law_rule
  rw [kind_list]
  change (mkDef 5 (sSeq _ (sRet (eBin oAdd _ (eCb (o1 oTupleOf) (aCons rdE aNil))))) _).wp _ _
  generalize (KL.map fun p => PyData.str p.1) = KS at *
  generalize rdE = E at *
  simp
  refine T.le one ?_
  rintro _ ⟨p, hp, rfl⟩
  obtain ⟨k1, k3, kt⟩ := kinds_ok p hp
  try simp
  refine T.le (RD hp) ?_
  rintro _ ⟨xs, rfl, hx, h⟩
  have l1 : 1 + xs.length ≤ 1000000 := by omega
  simp [l1]
  exact ⟨p.1, xs, rfl, ⟨⟨p, hp, rfl, hx⟩, fun x hx => (h x hx).1, fun x hx => (h x hx).2.1, fun x hx => (h x hx).2.2⟩⟩
/-- a flow -/
structure FOk (n : Nat) (rs : List Ru) : Prop where
  n2 : 2 ≤ n
  n3 : n ≤ 3
  l1 : 1 ≤ rs.length
  l6 : rs.length ≤ 6
  ok : ∀ r ∈ rs, OkR n rs.length r
theorem each_rules {n m : Nat} {ds : List D} : ∀ {ys : List D}, Each (fun _ y => ∃ r : Ru, y = ruleD r ∧ OkR n m r) ds ys → ∃ rs : List Ru, ys = rs.map ruleD ∧ rs.length = ds.length ∧ ∀ r ∈ rs, OkR n m r := by
  induction ds with
  | nil =>
    intro ys h
    cases h
    exact ⟨[], rfl, rfl, fun x hx => by cases hx⟩
  | cons d r ih =>
    intro ys h
    cases h with
    | cons h1 h2 =>
      obtain ⟨x, rfl, hx⟩ := h1
      obtain ⟨xs, rfl, hl, h3⟩ := ih h2
      refine ⟨x :: xs, rfl, by simp [hl], fun y hy => ?_⟩
      rcases List.mem_cons.mp hy with rfl | h
      · exact hx
      · exact h3 y h
theorem flow_wp : (m_law_flow [.box true]).wp (fun v => ∃ (n : Nat) (rs : List Ru), v = flowD n rs ∧ FOk n rs) noE := by
  rw [mq_law_flow]
  unfold F_law_flow
  have rw' := fun n => @rule_wp n
  generalize m_law_rule = MR at *
  simp
  intro i i0 i1 j j0 j1
  obtain ⟨n, hn⟩ : ∃ n : Nat, (2 + i : Int) = n := ⟨(2 + i).toNat, by omega⟩
  obtain ⟨m, hm⟩ : ∃ m : Nat, (1 + j : Int) = m := ⟨(1 + j).toNat, by omega⟩
  rw [hn, hm]
  have n2 : 2 ≤ n := by omega
  have n3 : n ≤ 3 := by omega
  have m1 : 1 ≤ m := by omega
  have m6 : m ≤ 6 := by omega
  refine T.le (P := fun d => ∃ rs : List Ru, d = .list (rs.map ruleD) ∧ rs.length = m ∧ ∀ r ∈ rs, OkR n m r) (eLc_wp (ds := rangeD 0 m) (by simp [oRng1_nat (n := m) (by omega)]) (by rw [rangeD_len]; omega) (lc_wp (R := fun _ y => ∃ r : Ru, y = ruleD r ∧ OkR n m r) _ (fun d _ => ⟨_, rfl, rfl, ?_⟩) fun ys hy => ?_)) ?_
  · simp
    refine T.le (@rw' n m n3 m1 m6) ?_
    rintro _ ⟨r, rfl, h⟩
    exact ⟨r.1, r.2, rfl, h⟩
  · obtain ⟨rs, rfl, hl, h⟩ := each_rules hy
    exact ⟨rs, rfl, by rw [hl, rangeD_len], h⟩
  · rintro _ ⟨rs, rfl, hl, h⟩
    simp
    exact ⟨n, rs, rfl, ⟨n2, n3, by omega, by omega, by rw [hl]; exact h⟩⟩
end Wk11
set_option Elab.async false
set_option linter.all false
set_option maxRecDepth 100000
set_option maxHeartbeats 4000000
namespace Wk11
open PySem PySem.Spec PyProof.Rows L2 Wb TL
/-! ### signs of joined texts -/
theorem mem_joinL {S : List Nat} {c : Nat} : ∀ {ps : List (List Nat)}, c ∈ joinL S ps → c ∈ S ∨ ∃ p ∈ ps, c ∈ p
  | [], h => nomatch h
  | [p], h => .inr ⟨p, List.mem_singleton.mpr rfl, h⟩
  | p :: q :: r, h => by
    have h : c ∈ p ++ (S ++ joinL S (q :: r)) := h
    rw [List.mem_append, List.mem_append] at h
    rcases h with h | h | h
    · exact .inr ⟨p, List.mem_cons_self .., h⟩
    · exact .inl h
    · rcases mem_joinL h with h | ⟨x, hx, h⟩
      · exact .inl h
      · exact .inr ⟨x, List.mem_cons_of_mem _ hx, h⟩
theorem len_joinL {S : List Nat} {b : Nat} : ∀ {ps : List (List Nat)}, (∀ p ∈ ps, p.length ≤ b) → (joinL S ps).length ≤ ps.length * (b + S.length)
  | [], _ => Nat.zero_le _
  | [p], h => by
    have := h p (List.mem_singleton.mpr rfl)
    simp only [joinL, List.length_singleton]
    omega
  | p :: q :: r, h => by
    have h1 := h p (List.mem_cons_self ..)
    have h2 := len_joinL (S := S) (b := b) (ps := q :: r) fun x hx => h x (List.mem_cons_of_mem _ hx)
    show (p ++ (S ++ joinL S (q :: r))).length ≤ _
    rw [List.length_append, List.length_append]
    simp only [List.length_cons] at h2 ⊢
    have e : (r.length + 1 + 1) * (b + S.length) = (r.length + 1) * (b + S.length) + (b + S.length) := by rw [Nat.add_mul (r.length + 1) 1, Nat.one_mul]
    omega
theorem joinL_cons {S p : List Nat} {q : List (List Nat)} (h : q ≠ []) : joinL S (p :: q) = p ++ (S ++ joinL S q) := by
  cases q with
  | nil => exact absurd rfl h
  | cons a r => rfl
theorem joinL_app {S : List Nat} : ∀ {a b : List (List Nat)}, a ≠ [] → b ≠ [] → joinL S (a ++ b) = joinL S a ++ (S ++ joinL S b)
  | [], _, h, _ => absurd rfl h
  | [p], b, _, hb => joinL_cons hb
  | p :: q :: r, b, _, hb => by
    have ih := joinL_app (S := S) (a := q :: r) (b := b) (by simp) hb
    have e : p :: q :: r ++ b = p :: ((q :: r) ++ b) := rfl
    rw [e, joinL_cons (by simp), ih, joinL_cons (q := q :: r) (by simp)]
    simp only [List.append_assoc]
theorem joinL_flat {S : List Nat} {α : Type} {W : α → List (List Nat)} (hW : ∀ x, W x ≠ []) : ∀ xs : List α, joinL S (xs.map fun x => joinL S (W x)) = joinL S (xs.flatMap W)
  | [] => rfl
  | [x] => by
    show joinL S (W x) = joinL S (W x ++ [])
    rw [List.append_nil]
  | x :: y :: r => by
    have ih := joinL_flat hW (S := S) (y :: r)
    have hn : (y :: r).flatMap W ≠ [] := by
      rw [List.flatMap_cons]
      intro e
      exact hW y (List.append_eq_nil_iff.mp e).1
    rw [List.map_cons, joinL_cons (by simp), ih]
    exact (joinL_app (hW x) hn).symm
theorem len_join {z : Str} {b : Nat} {ys : List Str} (h : ∀ y ∈ ys, y.length ≤ b) : (Txt.join z ys).length ≤ ys.length * (b + z.length) := by
  rw [join_eq, len_tl, tl_join, len_tl z]
  refine Nat.le_trans (len_joinL (b := b) fun p hp => ?_) (by rw [List.length_map]; exact Nat.le_refl _)
  obtain ⟨y, hy, rfl⟩ := List.mem_map.mp hp
  have := h y hy
  rw [len_tl] at this
  exact this
theorem mem_join {z : Str} {ys : List Str} {c : Nat} (h : c ∈ tl (Txt.join z ys)) : c ∈ tl z ∨ ∃ y ∈ ys, c ∈ tl y := by
  rw [join_eq, tl_join] at h
  rcases mem_joinL h with h | ⟨p, hp, h⟩
  · exact .inl h
  · obtain ⟨y, hy, rfl⟩ := List.mem_map.mp hp
    exact .inr ⟨y, hy, h⟩
theorem sum_le {b : Nat} : ∀ {ys : List Str}, (∀ y ∈ ys, y.length ≤ b) → (ys.map (·.length)).sum ≤ ys.length * b
  | [], _ => Nat.zero_le _
  | y :: ys, h => by
    have h1 := h y (List.mem_cons_self ..)
    have h2 := sum_le fun x hx => h x (List.mem_cons_of_mem _ hx)
    rw [List.map_cons, List.sum_cons, List.length_cons, Nat.add_mul, Nat.one_mul]
    omega
theorem join_at {z : Str} {b : Nat} {ys : List Str} (h : ∀ y ∈ ys, y.length ≤ b) (hn : ys.length * (b + z.length) ≤ 16777216) : joinI z (ys.map PyData.str) = .ret (.str (Txt.join z ys)) := joinI_at (by
  have := sum_le h
  rw [Nat.mul_add] at hn
  omega)
/-! ### the text of an integer -/
def iT (i : Int) : Str := Str.ofString (toString i)
theorem str_at {i : Int} (h : i.natAbs < 10 ^ 50) : oStrI (.int i) = .ret (.str (iT i)) := oStrI_at h
theorem iT_len {i : Int} (h : i.natAbs < 10 ^ 50) : (iT i).length ≤ 51 := by
  cases i with
  | ofNat n =>
    have := numL_len (n := n) (k := 50) (by decide) h
    have e : (iT (Int.ofNat n)).length = (numL n).length := by
      rw [len_tl]
      exact congrArg List.length (tl_num n)
    omega
  | negSucc n =>
    have h' : n + 1 < 10 ^ 50 := h
    have := numL_len (n := n + 1) (k := 50) (by decide) h'
    have e2 : (iT (Int.negSucc n)) = Str.ofString ("-" ++ toString (n + 1)) := rfl
    have e3 : tl (iT (Int.ofNat (n + 1))) = numL (n + 1) := tl_num (n + 1)
    have e4 : iT (Int.ofNat (n + 1)) = Str.ofString (toString (n + 1)) := rfl
    rw [e4, tl_ofString] at e3
    rw [e2, len_tl, tl_ofString, String.toList_append, List.map_append, List.length_append, e3]
    have : (List.map Char.toNat "-".toList).length = 1 := rfl
    omega
/-- a small number -/
theorem small_all {P : Int → Prop} (h : P (-4) ∧ P (-3) ∧ P (-2) ∧ P (-1) ∧ P 0 ∧ P 1 ∧ P 2 ∧ P 3 ∧ P 4 ∧ P 5) {i : Int} (h0 : -4 ≤ i) (h1 : i ≤ 5) : P i := by
  have : i = -4 ∨ i = -3 ∨ i = -2 ∨ i = -1 ∨ i = 0 ∨ i = 1 ∨ i = 2 ∨ i = 3 ∨ i = 4 ∨ i = 5 := by omega
  rcases this with rfl | rfl | rfl | rfl | rfl | rfl | rfl | rfl | rfl | rfl
  · exact h.1
  · exact h.2.1
  · exact h.2.2.1
  · exact h.2.2.2.1
  · exact h.2.2.2.2.1
  · exact h.2.2.2.2.2.1
  · exact h.2.2.2.2.2.2.1
  · exact h.2.2.2.2.2.2.2.1
  · exact h.2.2.2.2.2.2.2.2.1
  · exact h.2.2.2.2.2.2.2.2.2
def smT (i : Int) : Bool := (tl (iT i)).all (fun c => c != 32 && c != 44 && c != 64) && decide ((iT i).length ≤ 2)
theorem sm_ok {i : Int} (h0 : -4 ≤ i) (h1 : i ≤ 5) : smT i = true := small_all (P := fun i => smT i = true) (by decide +kernel) h0 h1
theorem sm_free {i : Int} (h0 : -4 ≤ i) (h1 : i ≤ 5) : 32 ∉ tl (iT i) ∧ 44 ∉ tl (iT i) ∧ 64 ∉ tl (iT i) ∧ (iT i).length ≤ 2 := by
  have h := sm_ok h0 h1
  unfold smT at h
  rw [Bool.and_eq_true, List.all_eq_true] at h
  refine ⟨fun m => ?_, fun m => ?_, fun m => ?_, of_decide_eq_true h.2⟩
  all_goals
    have := h.1 _ m
    revert this
    decide
theorem parse_int {i : Int} (h0 : -4 ≤ i) (h1 : i ≤ 5) : m_parse_integer [.d (.str (iT i))] = .ret (.int i) :=
  small_all (P := fun i => m_parse_integer [.d (.str (iT i))] = .ret (.int i)) ⟨retB_eq (n := 10) (by decide +kernel), retB_eq (n := 10) (by decide +kernel), retB_eq (n := 10) (by decide +kernel), retB_eq (n := 10) (by decide +kernel), retB_eq (n := 10) (by decide +kernel), retB_eq (n := 10) (by decide +kernel), retB_eq (n := 10) (by decide +kernel), retB_eq (n := 10) (by decide +kernel), retB_eq (n := 10) (by decide +kernel), retB_eq (n := 10) (by decide +kernel)⟩ h0 h1
end Wk11
set_option Elab.async false
set_option linter.all false
set_option maxRecDepth 100000
set_option maxHeartbeats 4000000
namespace Wk11
open PySem PySem.Spec PyProof.Rows L2 Wb TL
/-! ### the texts -/
def vecT (ns : List Int) : Str := Txt.join "," (ns.map iT)
def numT (ns : List Int) : Str := Txt.join " " (ns.map iT)
/-- integers that are not too great, not too many -/
structure Few (ns : List Int) : Prop where
  len : ns.length ≤ 1000
  big : ∀ x ∈ ns, x.natAbs < 10 ^ 50
theorem Few.at {ns : List Int} (h : Few ns) : ∀ y ∈ ns.map iT, y.length ≤ 51 := fun y hy => by
  obtain ⟨x, hx, rfl⟩ := List.mem_map.mp hy
  exact iT_len (h.big x hx)
theorem strs_eq {ns : List Int} (h : Few ns) (s1 : Sl) : eLc [1] (iSeq (eV 0)) (bName 1) tTrue (eCb (o1 oStrI) (aCons (eV 1) aNil)) [.d (vecD ns), s1] = .ret (.list ((ns.map iT).map PyData.str)) := by
  have hl := h.len
  have e := lc_rows (ρ := wipeE [.d (vecD ns), s1] [1]) (bd := bName 1) (t := tTrue) (e := eCb (o1 oStrI) (aCons (eV 1) aNil)) (mk := PyData.int) (f := fun i => .str (iT i)) ns (fun r hr => ⟨_, rfl, rfl, by
    have q := str_at (h.big r hr)
    simp [q, wipeE]⟩)
  rw [List.map_map]
  exact eLc_ret (ds := ns.map PyData.int) (by simp [vecD]) (by rw [List.length_map]; omega) e
theorem vec_at {ns : List Int} (h : Few ns) : oJoinS "," (.list ((ns.map iT).map PyData.str)) = .ret (.str (vecT ns)) := join_at h.at (by
  have := h.len
  have e : ((",") : Str).length = 1 := by decide
  rw [List.length_map, e]
  omega)
theorem num_at {ns : List Int} (h : Few ns) : oJoinS " " (.list ((ns.map iT).map PyData.str)) = .ret (.str (numT ns)) := join_at h.at (by
  have := h.len
  have e : ((" ") : Str).length = 1 := by decide
  rw [List.length_map, e]
  omega)
theorem vector_text_eq {ns : List Int} (h : Few ns) : m_vector_text [.d (vecD ns)] = .ret (.str (vecT ns)) := by
  have e := strs_eq h .no
  have v := vec_at h
  rw [mq_vector_text]
  unfold F_vector_text
  generalize eLc [1] (iSeq (eV 0)) (bName 1) tTrue (eCb (o1 oStrI) (aCons (eV 1) aNil)) = E at *
  simp [e, v, -List.map_map, -oJoinS_list]
theorem law_vector_text_eq {ns : List Int} (h : Few ns) : m_law_vector_text [.d (vecD ns)] = .ret (.str (vecT ns)) := by
  have e := strs_eq h .no
  have v := vec_at h
  rw [mq_law_vector_text]
  unfold F_law_vector_text
  generalize eLc [1] (iSeq (eV 0)) (bName 1) tTrue (eCb (o1 oStrI) (aCons (eV 1) aNil)) = E at *
  simp [e, v, -List.map_map, -oJoinS_list]
theorem numbers_text_eq {ns : List Int} (h : Few ns) : m_numbers_text [.d (vecD ns)] = .ret (.str (numT ns)) := by
  have e := strs_eq h .no
  have v := num_at h
  rw [mq_numbers_text]
  unfold F_numbers_text
  generalize eLc [1] (iSeq (eV 0)) (bName 1) tTrue (eCb (o1 oStrI) (aCons (eV 1) aNil)) = E at *
  simp [e, v, -List.map_map, -oJoinS_list]
theorem vecT_len {ns : List Int} (h : Few ns) : (vecT ns).length ≤ 52 * 1000 := by
  have z := len_join (z := ",") h.at
  have := h.len
  have e : ((",") : Str).length = 1 := by decide
  rw [List.length_map, e] at z
  unfold vecT
  omega
theorem numT_len {ns : List Int} (h : Few ns) : (numT ns).length ≤ 52 * 1000 := by
  have z := len_join (z := " ") h.at
  have := h.len
  have e : ((" ") : Str).length = 1 := by decide
  rw [List.length_map, e] at z
  unfold numT
  omega
theorem len_app (a b : Str) : (a ++ b).length = a.length + b.length := by rw [len_tl, len_tl, len_tl, tl_append, List.length_append]
theorem empty_app (a : Str) : Str.empty ++ a = a := ext_tl (by rw [tl_append]; rfl)
/-! ### beats -/
def beatsD (w s : List Int) : D := .tuple [vecD w, vecD s]
theorem fmt_str {y : Str} (h : y.length ≤ 10000000) : oFmt (.str y) = .ret (.str y) := if_pos h
theorem fmt_int {i : Int} (h : i.natAbs < 10 ^ 50) : oFmt (.int i) = .ret (.str (iT i)) := str_at h
theorem j3 {f1 f2 f3 : Env' → T D} {ρ : Env'} {a b c : Str} (h1 : f1 ρ = .ret (.str a)) (h2 : f2 ρ = .ret (.str b)) (h3 : f3 ρ = .ret (.str c)) (hl : a.length + b.length + c.length ≤ 10000000) : eJ [f1, f2, f3] ρ = .ret (.str (a ++ b ++ c)) := by
  have e : eJ [f1, f2, f3] ρ = jF [f1, f2, f3] Str.empty ρ := rfl
  rw [e, jF_cons h1 (by rw [empty_app]; omega), empty_app, jF_cons h2 (by rw [len_app]; omega), jF_cons h3 (by rw [len_app, len_app]; omega)]
  rfl
theorem j2 {f1 f2 : Env' → T D} {ρ : Env'} {a b : Str} (h1 : f1 ρ = .ret (.str a)) (h2 : f2 ρ = .ret (.str b)) (hl : a.length + b.length ≤ 10000000) : eJ [f1, f2] ρ = .ret (.str (a ++ b)) := by
  have e : eJ [f1, f2] ρ = jF [f1, f2] Str.empty ρ := rfl
  rw [e, jF_cons h1 (by rw [empty_app]; omega), empty_app, jF_cons h2 (by rw [len_app]; omega)]
  rfl
theorem beats_text_eq {w s : List Int} (hw : Few w) (hs : Few s) : m_beats_text [.d (beatsD w s)] = .ret (.str (vecT w ++ " " ++ numT s)) := by
  have i0 : oIx (beatsD w s) (.int 0) = .ret (vecD w) := ixT_at (j := 0) rfl
  have i1 : oIx (beatsD w s) (.int 1) = .ret (vecD s) := ixT_at (j := 1) rfl
  have l1 := vecT_len hw
  have l2 := numT_len hs
  have e := j3 (f1 := eUn oFmt (eCall 1 m_vector_text (aCons (eBin oIx (eV 0) (eC (.int 0))) aNil))) (f2 := eC (.str " ")) (f3 := eUn oFmt (eCall 1 m_numbers_text (aCons (eBin oIx (eV 0) (eC (.int 1))) aNil))) (ρ := [.d (beatsD w s)]) (a := vecT w) (b := " ") (c := numT s)
    (by simp [i0, vector_text_eq hw, fmt_str (y := vecT w) (by omega)]) rfl (by simp [i1, numbers_text_eq hs, fmt_str (y := numT s) (by omega)]) (by
      have e : ((" ") : Str).length = 1 := by decide
      omega)
  rw [mq_beats_text]
  unfold F_beats_text
  generalize eJ _ = E at *
  simp [e]
/-! ### reads -/
def readT (r : Rd) : Str := iT (r.1 : Nat) ++ "@" ++ vecT r.2
structure RdOk (r : Rd) : Prop where
  src : r.1 ≤ 5
  few : Few r.2
theorem src_at {r : Rd} (h : RdOk r) : (((r.1 : Nat) : Int)).natAbs < 10 ^ 50 := Nat.lt_of_le_of_lt (m := 5) h.src (by decide)
theorem readT_len {r : Rd} (h : RdOk r) : (readT r).length ≤ 53000 := by
  have l1 := vecT_len h.few
  have l2 := iT_len (src_at h)
  have e : (("@") : Str).length = 1 := by decide
  unfold readT
  rw [len_app, len_app]
  omega
theorem read_text_eq {r : Rd} (h : RdOk r) : m_read_text [.d (readD r)] = .ret (.str (readT r)) := by
  have i0 : oIx (readD r) (.int 0) = .ret (.int (r.1 : Nat)) := ixT_at (j := 0) rfl
  have i1 : oIx (readD r) (.int 1) = .ret (vecD r.2) := ixT_at (j := 1) rfl
  have l1 := vecT_len h.few
  have l2 := iT_len (src_at h)
  have e := j3 (f1 := eUn oFmt (eBin oIx (eV 0) (eC (.int 0)))) (f2 := eC (.str "@")) (f3 := eUn oFmt (eCall 1 m_vector_text (aCons (eBin oIx (eV 0) (eC (.int 1))) aNil))) (ρ := [.d (readD r)]) (a := iT (r.1 : Nat)) (b := "@") (c := vecT r.2)
    (by simp [i0, fmt_int (src_at h)]) rfl (by simp [i1, vector_text_eq h.few, fmt_str (y := vecT r.2) (by omega)]) (by
      have e : (("@") : Str).length = 1 := by decide
      omega)
  rw [mq_read_text]
  unfold F_read_text
  generalize eJ _ = E at *
  simp [e, readT]
theorem add_strs {a b : Str} (h : a.length + b.length ≤ 1000000) : oAdd (.str a) (.str b) = .ret (.str (a ++ b)) := if_pos h
theorem law_read_eq {r : Rd} (h : RdOk r) (s0 : Sl) : (eBin oAdd (eBin oAdd (eCb (o1 oStrI) (aCons (eBin oIx (eV 1) (eC (.int 0))) aNil)) (eC (.str "@"))) (eCall 1 m_law_vector_text (aCons (eBin oIx (eV 1) (eC (.int 1))) aNil))) [s0, .d (readD r)] = .ret (.str (readT r)) := by
  have i0 : oIx (readD r) (.int 0) = .ret (.int (r.1 : Nat)) := ixT_at (j := 0) rfl
  have i1 : oIx (readD r) (.int 1) = .ret (vecD r.2) := ixT_at (j := 1) rfl
  have l1 := vecT_len h.few
  have l2 := iT_len (src_at h)
  have e : (("@") : Str).length = 1 := by decide
  have a1 := add_strs (a := iT (r.1 : Nat)) (b := "@") (by omega)
  have a2 := add_strs (a := iT (r.1 : Nat) ++ "@") (b := vecT r.2) (by rw [len_app]; omega)
  simp [i0, i1, str_at (src_at h), law_vector_text_eq h.few, a1, a2, readT]
end Wk11
set_option Elab.async false
set_option linter.all false
set_option maxRecDepth 100000
set_option maxHeartbeats 4000000
namespace Wk11
open PySem PySem.Spec PyProof.Rows L2 Wb TL
/-! ### rules -/
def ruleT (r : Ru) : Str := Txt.join " " (r.1 :: r.2.map readT)
structure RuOk (r : Ru) : Prop where
  word : r.1.length ≤ 10
  few : r.2.length ≤ 3
  rd : ∀ x ∈ r.2, RdOk x
theorem sp_len : ((" ") : Str).length = 1 := by decide
theorem words_le {r : Ru} (h : RuOk r) : ∀ y ∈ r.1 :: r.2.map readT, y.length ≤ 53000 := fun y hy => by
  rcases List.mem_cons.mp hy with rfl | hy
  · exact Nat.le_trans h.word (by decide)
  · obtain ⟨x, hx, rfl⟩ := List.mem_map.mp hy
    exact readT_len (h.rd x hx)
theorem ruleT_len {r : Ru} (h : RuOk r) : (ruleT r).length ≤ 212004 := by
  have z := len_join (z := " ") (words_le h)
  have := h.few
  rw [sp_len, List.length_cons, List.length_map] at z
  have e : (r.2.length + 1) * (53000 + 1) ≤ 4 * (53000 + 1) := Nat.mul_le_mul_right _ (by omega)
  exact Nat.le_trans z e
theorem rule_at {r : Ru} (h : RuOk r) : oJoinS " " (.list (.str r.1 :: (r.2.map readT).map PyData.str)) = .ret (.str (ruleT r)) :=
  join_at (ys := r.1 :: r.2.map readT) (words_le h) (by
    have := h.few
    rw [sp_len, List.length_cons, List.length_map]
    have e : (r.2.length + 1) * (53000 + 1) ≤ 4 * (53000 + 1) := Nat.mul_le_mul_right _ (by omega)
    exact Nat.le_trans e (by decide))
theorem cut_rule (r : Ru) : cutD (.str r.1 :: r.2.map readD) (some 1) none = r.2.map readD := by
  have := cutD_suf (xs := .str r.1 :: r.2.map readD) (j := 1) (by simp)
  simpa using this
theorem reads_lc {r : Ru} (h : RuOk r) {E : Env' → T D} (he : ∀ x, RdOk x → E [.d (ruleD r), .d (readD x)] = .ret (.str (readT x))) (s1 : Sl) :
    eLc [1] (iSeq (eSl (eV 0) (pSome (eC (.int 1))) pNone)) (bName 1) tTrue E [.d (ruleD r), s1] = .ret (.list ((r.2.map readT).map PyData.str)) := by
  have hl := h.few
  have e := lc_rows (ρ := wipeE [.d (ruleD r), s1] [1]) (bd := bName 1) (t := tTrue) (e := E) (mk := readD) (f := fun x => .str (readT x)) r.2 (fun x hx => ⟨_, rfl, rfl, he x (h.rd x hx)⟩)
  rw [List.map_map]
  have c := cut_rule r
  exact eLc_ret (ds := r.2.map readD) (by simp [ruleD, c]) (by rw [List.length_map]; omega) e
theorem add_lists {a : D} {bs : List D} (h : bs.length ≤ 1000) : oAdd (.list [a]) (.list bs) = .ret (.list (a :: bs)) := if_pos (by rw [List.length_singleton]; omega)
theorem rule_text_eq {r : Ru} (h : RuOk r) : m_rule_text [.d (ruleD r)] = .ret (.str (ruleT r)) := by
  have i0 : oIx (ruleD r) (.int 0) = .ret (.str r.1) := ixT_at (j := 0) rfl
  have e := reads_lc h (E := eCall 1 m_read_text (aCons (eV 1) aNil)) (fun x hx => by simp [read_text_eq hx]) .no
  have v := rule_at h
  have a := add_lists (a := .str r.1) (bs := (r.2.map readT).map PyData.str) (by have := h.few; rw [List.length_map, List.length_map]; omega)
  rw [mq_rule_text]
  unfold F_rule_text
  generalize eLc _ _ _ _ _ = E at *
  generalize (r.2.map readT).map PyData.str = L at *
  simp [e, v, i0, a, -oJoinS_list]
theorem law_rule_text_eq {r : Ru} (h : RuOk r) : m_law_rule_text [.d (ruleD r)] = .ret (.str (ruleT r)) := by
  have i0 : oIx (ruleD r) (.int 0) = .ret (.str r.1) := ixT_at (j := 0) rfl
  have e := reads_lc h (E := (eBin oAdd (eBin oAdd (eCb (o1 oStrI) (aCons (eBin oIx (eV 1) (eC (.int 0))) aNil)) (eC (.str "@"))) (eCall 1 m_law_vector_text (aCons (eBin oIx (eV 1) (eC (.int 1))) aNil)))) (fun x hx => law_read_eq hx _) .no
  have v := rule_at h
  have a := add_lists (a := .str r.1) (bs := (r.2.map readT).map PyData.str) (by have := h.few; rw [List.length_map, List.length_map]; omega)
  rw [mq_law_rule_text]
  unfold F_law_rule_text
  generalize eLc _ _ _ _ _ = E at *
  generalize (r.2.map readT).map PyData.str = L at *
  simp [e, v, i0, a, -oJoinS_list]
/-! ### flows -/
def flowT (n : Nat) (rs : List Ru) : Str := Txt.join " " (iT (n : Nat) :: rs.map fun r => "/ " ++ ruleT r)
structure FlOk (n : Nat) (rs : List Ru) : Prop where
  n3 : n ≤ 3
  few : rs.length ≤ 6
  ru : ∀ r ∈ rs, RuOk r
theorem n_at {n : Nat} {rs : List Ru} (h : FlOk n rs) : ((n : Nat) : Int).natAbs < 10 ^ 50 := Nat.lt_of_le_of_lt (m := 3) h.n3 (by decide)
theorem sl_len : (("/ ") : Str).length = 2 := by decide
theorem flow_le {n : Nat} {rs : List Ru} (h : FlOk n rs) : ∀ y ∈ iT (n : Nat) :: rs.map fun r => "/ " ++ ruleT r, y.length ≤ 212006 := fun y hy => by
  rcases List.mem_cons.mp hy with rfl | hy
  · exact Nat.le_trans (iT_len (n_at h)) (by decide)
  · obtain ⟨r, hr, rfl⟩ := List.mem_map.mp hy
    have := ruleT_len (h.ru r hr)
    rw [len_app, sl_len]
    omega
theorem flowT_len {n : Nat} {rs : List Ru} (h : FlOk n rs) : (flowT n rs).length ≤ 1484049 := by
  have z := len_join (z := " ") (flow_le h)
  have := h.few
  rw [sp_len, List.length_cons, List.length_map] at z
  have e : (rs.length + 1) * (212006 + 1) ≤ 7 * (212006 + 1) := Nat.mul_le_mul_right _ (by omega)
  exact Nat.le_trans z e
theorem flow_at {n : Nat} {rs : List Ru} (h : FlOk n rs) : oJoinS " " (.list (.str (iT (n : Nat)) :: (rs.map fun r => "/ " ++ ruleT r).map PyData.str)) = .ret (.str (flowT n rs)) :=
  join_at (ys := iT (n : Nat) :: rs.map fun r => "/ " ++ ruleT r) (flow_le h) (by
    have := h.few
    rw [sp_len, List.length_cons, List.length_map]
    have e : (rs.length + 1) * (212006 + 1) ≤ 7 * (212006 + 1) := Nat.mul_le_mul_right _ (by omega)
    exact Nat.le_trans e (by decide))
theorem rules_lc {n : Nat} {rs : List Ru} (h : FlOk n rs) {E : Env' → T D} (he : ∀ r, RuOk r → E [.d (flowD n rs), .d (ruleD r)] = .ret (.str ("/ " ++ ruleT r))) (s1 : Sl) :
    eLc [1] (iSeq (eBin oIx (eV 0) (eC (.int 1)))) (bName 1) tTrue E [.d (flowD n rs), s1] = .ret (.list ((rs.map fun r => "/ " ++ ruleT r).map PyData.str)) := by
  have hl := h.few
  have e := lc_rows (ρ := wipeE [.d (flowD n rs), s1] [1]) (bd := bName 1) (t := tTrue) (e := E) (mk := ruleD) (f := fun r => .str ("/ " ++ ruleT r)) rs (fun r hr => ⟨_, rfl, rfl, he r (h.ru r hr)⟩)
  rw [List.map_map]
  have c := flow_1 n rs
  exact eLc_ret (ds := rs.map ruleD) (by simp [c, rulesD]) (by rw [List.length_map]; omega) e
theorem flow_text_eq {n : Nat} {rs : List Ru} (h : FlOk n rs) : m_flow_text [.d (flowD n rs)] = .ret (.str (flowT n rs)) := by
  have i0 := flow_0 n rs
  have e := rules_lc h (E := (eJ [(eC (.str "/ ")), (eUn oFmt (eCall 1 m_rule_text (aCons (eV 1) aNil)))])) (fun r hr => j2 rfl (by simp [rule_text_eq hr, fmt_str (y := ruleT r) (by have := ruleT_len hr; omega)]) (by have := ruleT_len hr; rw [sl_len]; omega)) .no
  have v := flow_at h
  have a := add_lists (a := .str (iT (n : Nat))) (bs := (rs.map fun r => "/ " ++ ruleT r).map PyData.str) (by have := h.few; rw [List.length_map, List.length_map]; omega)
  have st := str_at (n_at h)
  rw [mq_flow_text]
  unfold F_flow_text
  generalize eLc _ _ _ _ _ = E at *
  generalize (rs.map fun r => "/ " ++ ruleT r).map PyData.str = L at *
  simp [e, v, i0, a, st, -oJoinS_list]
theorem law_flow_text_eq {n : Nat} {rs : List Ru} (h : FlOk n rs) : m_law_flow_text [.d (flowD n rs)] = .ret (.str (flowT n rs)) := by
  have i0 := flow_0 n rs
  have e := rules_lc h (E := (eBin oAdd (eC (.str "/ ")) (eCall 1 m_law_rule_text (aCons (eV 1) aNil)))) (fun r hr => by
    have ad := add_strs (a := "/ ") (b := ruleT r) (by have := ruleT_len hr; rw [sl_len]; omega)
    simp [law_rule_text_eq hr, ad]) .no
  have v := flow_at h
  have a := add_lists (a := .str (iT (n : Nat))) (bs := (rs.map fun r => "/ " ++ ruleT r).map PyData.str) (by have := h.few; rw [List.length_map, List.length_map]; omega)
  have st := str_at (n_at h)
  rw [mq_law_flow_text]
  unfold F_law_flow_text
  generalize eLc _ _ _ _ _ = E at *
  generalize (rs.map fun r => "/ " ++ ruleT r).map PyData.str = L at *
  simp [e, v, i0, a, st, -oJoinS_list]
end Wk11
set_option Elab.async false
set_option linter.all false
set_option maxRecDepth 100000
set_option maxHeartbeats 4000000
namespace Wk11
open PySem PySem.Spec PyProof.Rows L2 Wb TL
/-! ### reading vectors back -/
structure VIn (n : Nat) (ns : List Int) : Prop where
  n1 : 1 ≤ n
  n3 : n ≤ 3
  len : ns.length = n
  bd : ∀ z ∈ ns, z.natAbs ≤ 4
theorem VIn.few {n : Nat} {ns : List Int} (h : VIn n ns) : Few ns := ⟨by have := h.len; have := h.n3; omega, fun x hx => Nat.lt_of_le_of_lt (h.bd x hx) (by decide)⟩
theorem VIn.sm {n : Nat} {ns : List Int} (h : VIn n ns) : ∀ x ∈ ns, -4 ≤ x ∧ x ≤ 5 := fun x hx => by
  have := h.bd x hx
  omega
theorem split_at {z : Str} {s : Nat} {ws : List Str} {t : Str} (ey : tl z = [s]) (hk : z.cps.all (· < 256) = true) (hz : (z.length == 0) = false) (et : t = Txt.join z ws) (hne : ws ≠ []) (hp : ∀ p ∈ ws, s ∉ tl p) (hl : t.length ≤ 10000000) : oSplitS t (.str z) = .ret (.list (ws.map PyData.str)) := by
  rw [oSplitS_str, if_pos ⟨hl, hz⟩, et, split_join (s := s) (S := []) ey hk hne hp]
theorem split_vec {n : Nat} {ns : List Int} (h : VIn n ns) : oSplitS (vecT ns) (.str ",") = .ret (.list ((ns.map iT).map PyData.str)) :=
  split_at (s := 44) (by decide +kernel) (by decide +kernel) (by decide +kernel) rfl (by
    have := h.len
    have := h.n1
    cases ns with
    | nil =>
      simp only [List.length_nil] at *
      omega
    | cons a r => simp) (fun p hp => by
    obtain ⟨x, hx, rfl⟩ := List.mem_map.mp hp
    exact (sm_free (h.sm x hx).1 (h.sm x hx).2).2.1) (by have := vecT_len h.few; omega)
theorem none_in (ns : List Int) (h : Few ns) : oInT .none (.list (ns.map PyData.int)) = .ret (.bool false) := by
  have f : cEq (.list (ns.map PyData.int)) = true := (fine_list (k := 0) (b := 0) (n := ns.length) (fun x hx => by
    obtain ⟨i, hi, rfl⟩ := List.mem_map.mp hx
    exact fine_int (h.big i hi)) (by rw [List.length_map]; exact Nat.le_refl _)).eq (by decide)
  have g : cEq .none = true := fine_none.eq (by decide)
  have a : (ns.map PyData.int).any (fun z => PyData.eqv z .none) = false := by
    rw [List.any_eq_false]
    intro x hx
    obtain ⟨i, hi, rfl⟩ := List.mem_map.mp hx
    have e : PyData.eqv (.int i) .none = false := by with_unfolding_all rfl
    rw [e]
    decide
  show (if (cEq .none && cEq (.list (ns.map PyData.int))) = true then T.ret (PyData.bool ((ns.map PyData.int).any fun z => PyData.eqv z .none)) else .bad) = _
  rw [f, g, a]
  rfl
theorem parse_vec {n : Nat} {ns : List Int} (h : VIn n ns) : m_parse_vector [.d (.int (n : Nat)), .d (.str (vecT ns))] = .ret (vecD ns) := by
  have sp := split_vec h
  have hl : ns.length ≤ 1000 := h.few.len
  have l := lc_rows (ρ := wipeE [.d (.int (n : Nat)), .d (.str (vecT ns)), .no, .no] [3]) (bd := bName 3) (t := tTrue) (e := eCall 1 m_parse_integer (aCons (eV 3) aNil)) (mk := fun i => .str (iT i)) (f := PyData.int) ns (fun i hi => ⟨_, rfl, rfl, by
    have p := parse_int (h.sm i hi).1 (h.sm i hi).2
    simp [p, wipeE]⟩)
  have e := eLc_ret (vs := [3]) (it := iSeq (eSM oSplitS (eV 1) (eC (.str ",")))) (ds := ns.map fun i => .str (iT i)) (by
    rw [List.map_map] at sp
    have sp : oSplitS (vecT ns) (.str ",") = .ret (.list (ns.map fun i => .str (iT i))) := sp
    simp [sp, -oSplitS_str]) (by rw [List.length_map]; omega) l
  have ni := none_in ns h.few
  have ln := h.len
  rw [mq_parse_vector]
  unfold F_parse_vector
  generalize eLc _ _ _ _ _ = E at *
  have nb : ne_ints = ne_ints := rfl
  simp [e, ni, ne_ints, ln, vecD]
/-! ### reading reads back -/
structure RIn (n : Nat) (r : Rd) : Prop where
  src : r.1 ≤ 5
  vec : VIn n r.2
theorem RIn.ok {n : Nat} {r : Rd} (h : RIn n r) : RdOk r := ⟨h.src, h.vec.few⟩
theorem RIn.sm {n : Nat} {r : Rd} (h : RIn n r) : -4 ≤ ((r.1 : Nat) : Int) ∧ ((r.1 : Nat) : Int) ≤ 5 := by
  have := h.src
  omega
theorem vec_free {n : Nat} {ns : List Int} (h : VIn n ns) : 64 ∉ tl (vecT ns) ∧ 32 ∉ tl (vecT ns) := by
  refine ⟨fun m => ?_, fun m => ?_⟩
  all_goals
    rcases mem_join m with m | ⟨y, hy, m⟩
    · revert m
      decide +kernel
    · obtain ⟨x, hx, rfl⟩ := List.mem_map.mp hy
      have z := sm_free (h.sm x hx).1 (h.sm x hx).2
      first | exact z.2.2.1 m | exact z.1 m
theorem read_free {n : Nat} {r : Rd} (h : RIn n r) : 32 ∉ tl (readT r) := fun m => by
  unfold readT at m
  rw [tl_append, tl_append, List.mem_append, List.mem_append] at m
  rcases m with (m | m) | m
  · exact (sm_free h.sm.1 h.sm.2).1 m
  · revert m
    decide +kernel
  · exact (vec_free h.vec).2 m
theorem split_read {n : Nat} {r : Rd} (h : RIn n r) : oSplitS (readT r) (.str "@") = .ret (.list [.str (iT (r.1 : Nat)), .str (vecT r.2)]) :=
  split_at (s := 64) (ws := [iT (r.1 : Nat), vecT r.2]) (by decide +kernel) (by decide +kernel) (by decide +kernel) (by
    rw [join_eq]
    rfl) (by simp) (fun p hp => by
    simp only [List.mem_cons, List.not_mem_nil, or_false] at hp
    rcases hp with rfl | rfl
    · exact (sm_free h.sm.1 h.sm.2).2.2.1
    · exact (vec_free h.vec).1) (by have := readT_len h.ok; omega)
theorem parse_rd {n : Nat} {r : Rd} (h : RIn n r) : m_parse_read [.d (.int (n : Nat)), .d (.str (readT r))] = .ret (readD r) := by
  have sp := split_read h
  have p := parse_int h.sm.1 h.sm.2
  have v := parse_vec h.vec
  have i0 : oIx (.list [.str (iT (r.1 : Nat)), .str (vecT r.2)]) (.int 0) = .ret (.str (iT (r.1 : Nat))) := rfl
  have i1 : oIx (.list [.str (iT (r.1 : Nat)), .str (vecT r.2)]) (.int 1) = .ret (.str (vecT r.2)) := rfl
  rw [mq_parse_read]
  unfold F_parse_read
  have ng : decide (((r.1 : Nat) : Int) < 0) = false := decide_eq_false (by omega)
  simp [sp, p, v, i0, i1, ne_ints, vecD, readD, -oSplitS_str]
  rw [ng]
  rfl
end Wk11
set_option Elab.async false
set_option linter.all false
set_option maxRecDepth 100000
set_option maxHeartbeats 4000000
namespace Wk11
open PySem PySem.Spec PyProof.Rows L2 Wb TL
/-! ### reading rules back -/
theorem len_at {W : List D} : oLen [.d (.list W)] = .ret (.int (W.length : Nat)) := rfl
theorem read_step {n : Nat} {r : Rd} (h : RIn n r) {W : List D} {j : Nat} (hw : W[j]? = some (.str (readT r))) (hl : W.length ≤ 1000) {acc : List D} (ha : acc.length < 1000) (s2 s3 s6 : Sl) :
    B0_parse_rule [.d (.int (n : Nat)), .d (.list W), s2, s3, .own acc, .d (.int (j : Nat)), s6] = .ret (.nx [.d (.int (n : Nat)), .d (.list W), s2, s3, .own (acc ++ [readD r]), .d (.int (j : Nat)), .d (readD r)]) := by
  have ix := ix_at hw
  have p := parse_rd h
  have hj : j < W.length := by
    rcases Nat.lt_or_ge j W.length with z | z
    · exact z
    · rw [List.getElem?_eq_none z] at hw
      cases hw
  have lt : decide (((j : Nat) : Int) < ((W.length : Nat) : Int)) = true := decide_eq_true (by omega)
  have isn : oIsN (readD r) .none = .ret (.bool false) := by with_unfolding_all rfl
  have ll := len_at (W := W)
  have ha' : acc.length < 1000000 := by omega
  unfold B0_parse_rule
  generalize readD r = R at *
  generalize PyData.str (readT r) = S at *
  have cmp : oLt (.int (j : Nat)) (.int (W.length : Nat)) = .ret (.bool true) := by
    rw [← lt]
    rfl
  generalize hWD : PyData.list W = WD at *
  simp [ll, cmp, ix, p, isn, sApp, ha']
theorem reads_go {n : Nat} {W : List D} (hl : W.length ≤ 1000) (s2 s3 : Sl) : ∀ (rs : List Rd) (j : Nat) (acc : List D) (s5 s6 : Sl), (∀ r ∈ rs, RIn n r) → (∀ i r, rs[i]? = some r → W[j + i]? = some (.str (readT r))) → acc.length + rs.length ≤ 1000 →
    ∃ t5 t6, forGo (bName 5) B0_parse_rule (rangeD (j : Nat) rs.length) [.d (.int (n : Nat)), .d (.list W), s2, s3, .own acc, s5, s6] = .ret (.nx [.d (.int (n : Nat)), .d (.list W), s2, s3, .own (acc ++ rs.map readD), t5, t6])
  | [], j, acc, s5, s6, _, _, _ => ⟨s5, s6, by rw [List.map_nil, List.append_nil]; rfl⟩
  | r :: rs, j, acc, s5, s6, h, hw, ha => by
    rw [List.length_cons] at ha
    have st := read_step (h r (List.mem_cons_self ..)) (hw 0 r rfl) hl (acc := acc) (by omega) s2 s3 s6
    obtain ⟨t5, t6, e⟩ := reads_go hl s2 s3 rs (j + 1) (acc ++ [readD r]) (.d (.int (j : Nat))) (.d (readD r)) (fun x hx => h x (List.mem_cons_of_mem _ hx)) (fun i x hx => by
      have := hw (i + 1) x hx
      rw [show j + 1 + i = j + (i + 1) by omega]
      exact this) (by rw [List.length_append, List.length_singleton]; omega)
    refine ⟨t5, t6, ?_⟩
    rw [List.length_cons, rangeD_succ]
    have e0 : forGo (bName 5) B0_parse_rule (.int (j : Nat) :: rangeD ((j + 1 : Nat) : Int) rs.length) [.d (.int (n : Nat)), .d (.list W), s2, s3, .own acc, s5, s6] = .ret (.nx [.d (.int (n : Nat)), .d (.list W), s2, s3, .own (acc ++ (r :: rs).map readD), t5, t6]) := by
      unfold forGo
      show T.bind (B0_parse_rule [.d (.int (n : Nat)), .d (.list W), s2, s3, .own acc, .d (.int (j : Nat)), s6]) _ = _
      rw [show (j + 0) = j from rfl] at st
      rw [st]
      rw [List.append_assoc] at e
      exact e
    exact e0
/-- the words of a rule -/
def ruleW (r : Ru) : List Str := "/" :: r.1 :: r.2.map readT
structure RuIn (n : Nat) (r : Ru) : Prop where
  kind : kv_KINDS.lookup r.1 = some ((r.2.length : Nat) : Int)
  few : r.2.length ≤ 3
  rd : ∀ x ∈ r.2, RIn n x
theorem parse_ru {n : Nat} {r : Ru} (h : RuIn n r) {W : List D} {a : Nat} (hl : W.length ≤ 1000) (hw : ∀ i w, (ruleW r)[i]? = some w → W[a + i]? = some (.str w)) : m_parse_rule [.d (.int (n : Nat)), .d (.list W), .d (.int (a : Nat))] = .ret (ruleD r) := by
  have w0 := hw 0 _ rfl
  have w1 := hw 1 _ rfl
  have ha : a + 1 < W.length := by
    rcases Nat.lt_or_ge (a + 1) W.length with z | z
    · exact z
    · rw [List.getElem?_eq_none z] at w1
      cases w1
  have ix0 : oIx (.list W) (.int (a : Nat)) = .ret (.str "/") := ix_at w0
  have ix1 : oIx (.list W) (.int ((a : Nat) + 1)) = .ret (.str r.1) := ix_at w1
  have rw2 : ∀ i x, r.2[i]? = some x → W[a + 2 + i]? = some (.str (readT x)) := fun i x hx => by
    have e : (ruleW r)[i + 2]? = some (readT x) := by
      show (r.2.map readT)[i]? = _
      rw [List.getElem?_map, hx]
      rfl
    have := hw (i + 2) _ e
    rw [show a + 2 + i = a + (i + 2) by omega]
    exact this
  obtain ⟨t5, t6, g⟩ := reads_go hl (.d (.int (a : Nat))) (.d (.str r.1)) r.2 (a + 2) [] .no .no h.rd rw2 (by have := h.few; simp; omega)
  rw [List.nil_append] at g
  have ll := len_at (W := W)
  have e0 : oEq (.int (a : Nat)) (.int (W.length : Nat)) = .ret (.bool false) := by
    rw [eq_ints, decide_eq_false (by omega)]
  have e1 : oEq (.int ((a : Nat) + 1)) (.int (W.length : Nat)) = .ret (.bool false) := by
    rw [eq_ints, decide_eq_false (by omega)]
  have ns : oNe (.str "/") (.str "/") = .ret (.bool false) := by with_unfolding_all rfl
  have few := h.few
  have rg : oRng2 [.d (.int ((a : Nat) + 2)), .d (.int ((a : Nat) + 2 + ((r.2.length : Nat) : Int)))] = .ret (rangeD ((a + 2 : Nat) : Int) r.2.length) := by
    have c : (((a : Nat) : Int) + 2).natAbs < 1000000000000 ∧ (((a : Nat) : Int) + 2 + ((r.2.length : Nat) : Int)).natAbs < 1000000000000 := by omega
    show (if _ then _ else _) = _
    rw [if_pos c]
    have e : ((((a : Nat) : Int) + 2 + ((r.2.length : Nat) : Int)) - (((a : Nat) : Int) + 2)).toNat = r.2.length := by omega
    rw [e]
    rfl
  have kn : oKNotIn kv_KINDS (.str r.1) = .ret (.bool false) := by
    rw [oKNotIn_str, h.kind]
    rfl
  have kg : oKGet kv_KINDS (.str r.1) = .ret (.int (r.2.length : Nat)) := by
    rw [oKGet_str, h.kind]
  have ad : oAdd (.tuple [.str r.1]) (.tuple (r.2.map readD)) = .ret (ruleD r) := if_pos (by rw [List.length_map, List.length_singleton]; omega)
  have tp : oTupleOf (.list (r.2.map readD)) = .ret (.tuple (r.2.map readD)) := rfl
  rw [mq_parse_rule]
  unfold F_parse_rule
  generalize B0_parse_rule = B at *
  generalize ruleD r = RD at *
  generalize r.2.map readD = RL at *
  generalize rangeD ((a + 2 : Nat) : Int) r.2.length = RG at *
  generalize ((r.2.length : Nat) : Int) = RN at *
  generalize PyData.str r.1 = Z at *
  generalize PyData.list W = WD at *
  generalize ((W.length : Nat) : Int) = LW at *
  generalize hS : PyData.str "/" = S at *
  simp [ll, e0, ix0, ns, e1, ix1, kn, kg, rg, g, sFrz, tp, ad]
end Wk11
set_option Elab.async false
set_option linter.all false
set_option maxRecDepth 100000
set_option maxHeartbeats 4000000
namespace Wk11
open PySem PySem.Spec PyProof.Rows L2 Wb TL
/-! ### the words of a flow -/
def flowW (n : Nat) (rs : List Ru) : List Str := iT (n : Nat) :: rs.flatMap ruleW
theorem kind_facts : ∀ p ∈ KL, 32 ∉ tl p.1 ∧ kv_KINDS.lookup p.1 = some ((p.2 : Nat) : Int) ∧ p.1.length ≤ 10 ∧ p.2 ≤ 3 := by decide +kernel
theorem tl_ruleT (r : Ru) : tl ("/ " ++ ruleT r) = joinL [32] ((ruleW r).map tl) := by
  have e : joinL [32] ((ruleW r).map tl) = tl "/" ++ ([32] ++ joinL [32] ((r.1 :: r.2.map readT).map tl)) := joinL_cons (by simp)
  have e2 : tl (ruleT r) = joinL [32] ((r.1 :: r.2.map readT).map tl) := by
    unfold ruleT
    rw [join_eq, tl_join]
    rfl
  rw [e, tl_append, e2]
  rfl
theorem flowT_words (n : Nat) (rs : List Ru) : flowT n rs = Txt.join " " (flowW n rs) := by
  apply ext_tl
  unfold flowT flowW
  rw [join_eq, join_eq, tl_join, tl_join]
  have sp : tl " " = [32] := by decide +kernel
  rw [sp, List.map_cons, List.map_cons, List.map_map]
  have e : rs.map (tl ∘ fun r => "/ " ++ ruleT r) = rs.map fun r => joinL [32] ((ruleW r).map tl) := List.map_congr_left fun r _ => tl_ruleT r
  rw [e]
  have m : (rs.flatMap ruleW).map tl = rs.flatMap fun r => (ruleW r).map tl := by rw [List.map_flatMap]
  cases rs with
  | nil => rfl
  | cons r q =>
    have hn : (r :: q).flatMap (fun r => (ruleW r).map tl) ≠ [] := by
      rw [List.flatMap_cons]
      unfold ruleW
      simp
    rw [joinL_cons (by simp), m, joinL_cons hn, joinL_flat (fun r => by unfold ruleW; simp)]
structure FIn (n : Nat) (rs : List Ru) : Prop where
  n2 : 2 ≤ n
  n3 : n ≤ 3
  l1 : 1 ≤ rs.length
  l6 : rs.length ≤ 6
  kd : ∀ r ∈ rs, ∃ p ∈ KL, r.1 = p.1 ∧ r.2.length = p.2
  rd : ∀ r ∈ rs, ∀ x ∈ r.2, RIn n x ∧ x.1 < rs.length
theorem FIn.ru {n : Nat} {rs : List Ru} (h : FIn n rs) : ∀ r ∈ rs, RuIn n r := fun r hr => by
  obtain ⟨p, hp, e1, e2⟩ := h.kd r hr
  obtain ⟨_, k2, _, k4⟩ := kind_facts p hp
  exact ⟨by rw [e1, k2, e2], by omega, fun x hx => (h.rd r hr x hx).1⟩
theorem FIn.ok {n : Nat} {rs : List Ru} (h : FIn n rs) : FlOk n rs := ⟨h.n3, h.l6, fun r hr => by
  obtain ⟨p, hp, e1, e2⟩ := h.kd r hr
  obtain ⟨_, k2, k3, k4⟩ := kind_facts p hp
  exact ⟨by rw [e1]; exact k3, by omega, fun x hx => (h.rd r hr x hx).1.ok⟩⟩
theorem FIn.n {n : Nat} {rs : List Ru} (h : FIn n rs) : -4 ≤ ((n : Nat) : Int) ∧ ((n : Nat) : Int) ≤ 5 := by
  have := h.n3
  omega
theorem rule_free {n : Nat} {r : Ru} (h : RuIn n r) (hk : 32 ∉ tl r.1) : ∀ w ∈ ruleW r, 32 ∉ tl w := fun w hw => by
  unfold ruleW at hw
  rcases List.mem_cons.mp hw with rfl | hw
  · decide +kernel
  · rcases List.mem_cons.mp hw with rfl | hw
    · exact hk
    · obtain ⟨x, hx, rfl⟩ := List.mem_map.mp hw
      exact read_free (h.rd x hx)
theorem flow_free {n : Nat} {rs : List Ru} (h : FIn n rs) : ∀ w ∈ flowW n rs, 32 ∉ tl w := fun w hw => by
  unfold flowW at hw
  rcases List.mem_cons.mp hw with rfl | hw
  · exact (sm_free h.n.1 h.n.2).1
  · obtain ⟨r, hr, hw⟩ := List.mem_flatMap.mp hw
    obtain ⟨p, hp, e1, e2⟩ := h.kd r hr
    exact rule_free (h.ru r hr) (by rw [e1]; exact (kind_facts p hp).1) w hw
theorem split_flow {n : Nat} {rs : List Ru} (h : FIn n rs) : oSplitS (flowT n rs) (.str " ") = .ret (.list ((flowW n rs).map PyData.str)) :=
  split_at (s := 32) (by decide +kernel) (by decide +kernel) (by decide +kernel) (flowT_words n rs) (by unfold flowW; simp) (flow_free h) (by have := flowT_len h.ok; omega)
theorem ruleW_len (r : Ru) : (ruleW r).length = r.2.length + 2 := by simp [ruleW]
theorem flat_len {n : Nat} : ∀ {rs : List Ru}, (∀ r ∈ rs, RuIn n r) → (rs.flatMap ruleW).length ≤ rs.length * 5
  | [], _ => Nat.zero_le _
  | r :: rs, h => by
    have h1 := (h r (List.mem_cons_self ..)).few
    have h2 := flat_len fun x hx => h x (List.mem_cons_of_mem _ hx)
    rw [List.flatMap_cons, List.length_append, ruleW_len, List.length_cons]
    omega
/-! ### the loop -/
abbrev condP : Env' → T D := (eOr (eBin oLt (eV 4) (eCb oLen (aCons (eV 1) aNil))) (eUn oNot (eONe 3)))
abbrev bodyP : Env' → T Fl := (sSeq (sSet 5 (eCall 3 m_parse_rule (aCons (eV 2) (aCons (eV 1) (aCons (eV 4) aNil))))) (sSeq (sApp 3 (eV 5)) (sSet 4 (eBin oAdd (eBin oAdd (eV 4) (eC (.int 1))) (eCb oLen (aCons (eV 5) aNil))))))
theorem body_eq {n : Nat} {r : Ru} (h : RuIn n r) {W : List D} {a : Nat} (hl : W.length ≤ 1000) (hw : ∀ i w, (ruleW r)[i]? = some w → W[a + i]? = some (.str w)) {acc : List D} (ha : acc.length < 1000) (s0 s5 s6 s7 : Sl) :
    bodyP [s0, .d (.list W), .d (.int (n : Nat)), .own acc, .d (.int (a : Nat)), s5, s6, s7] = .ret (.nx [s0, .d (.list W), .d (.int (n : Nat)), .own (acc ++ [ruleD r]), .d (.int ((a + (r.2.length + 2) : Nat))), .d (ruleD r), s6, s7]) := by
  have p := parse_ru h hl hw
  have ha' : acc.length < 1000000 := by omega
  have ln : oLen [.d (ruleD r)] = .ret (.int ((r.2.length + 1 : Nat) : Int)) := by
    show T.ret (PyData.int (((.str r.1 :: r.2.map readD : List D).length : Nat) : Int)) = _
    rw [List.length_cons, List.length_map]
  have e : ((a : Nat) : Int) + 1 + ((r.2.length + 1 : Nat) : Int) = ((a + (r.2.length + 2) : Nat) : Int) := by omega
  unfold bodyP
  generalize ruleD r = R at *
  generalize PyData.list W = WD at *
  generalize ((a + (r.2.length + 2) : Nat) : Int) = Z at *
  generalize ((r.2.length + 1 : Nat) : Int) = Y at *
  simp [p, sApp, ha', ln, e]
theorem loop_eq {n : Nat} {W : List D} (hl : W.length ≤ 1000) (s0 s6 s7 : Sl) : ∀ (rs : List Ru) (m a : Nat) (acc : List D) (s5 : Sl), (∀ r ∈ rs, RuIn n r) → (∀ i w, (rs.flatMap ruleW)[i]? = some w → W[a + i]? = some (.str w)) → W.length = a + (rs.flatMap ruleW).length → acc.length + rs.length ≤ 900 → rs.length < m → (rs = [] → acc ≠ []) →
    ∃ a' s5', whGo condP bodyP m [s0, .d (.list W), .d (.int (n : Nat)), .own acc, .d (.int (a : Nat)), s5, s6, s7] = .ret (.nx [s0, .d (.list W), .d (.int (n : Nat)), .own (acc ++ rs.map ruleD), a', s5', s6, s7])
  | [], 0, _, _, _, _, _, _, _, hm, _ => by cases hm
  | _ :: _, 0, _, _, _, _, _, _, _, hm, _ => by cases hm
  | [], m + 1, a, acc, s5, _, _, hW, _, _, hn => by
    refine ⟨.d (.int (a : Nat)), s5, ?_⟩
    have hne := hn rfl
    have ll := len_at (W := W)
    have lt : oLt (.int (a : Nat)) (.int (W.length : Nat)) = .ret (.bool false) := by
      have : W.length = a := by rw [hW]; rfl
      show T.ret (PyData.bool (decide (((a : Nat) : Int) < ((W.length : Nat) : Int)))) = _
      rw [decide_eq_false (by omega)]
    have ie : acc.isEmpty = false := by
      cases acc with
      | nil => exact absurd rfl hne
      | cons x y => rfl
    unfold whGo
    unfold condP
    generalize PyData.list W = WD at *
    generalize ((W.length : Nat) : Int) = LW at *
    simp [ll, lt, ie, hne]
  | r :: rs, m + 1, a, acc, s5, h, hw, hW, ha, hm, _ => by
    rw [List.length_cons] at ha hm
    have lf : ((r :: rs).flatMap ruleW).length = (r.2.length + 2) + (rs.flatMap ruleW).length := by rw [List.flatMap_cons, List.length_append, ruleW_len]
    have b := body_eq (h r (List.mem_cons_self ..)) (a := a) hl (fun i w hi => hw i w (by
      have : i < (ruleW r).length := by
        rcases Nat.lt_or_ge i (ruleW r).length with z | z
        · exact z
        · rw [List.getElem?_eq_none z] at hi
          cases hi
      rw [List.flatMap_cons, List.getElem?_append_left this]
      exact hi)) (acc := acc) (by omega) s0 s5 s6 s7
    obtain ⟨a', s5', e⟩ := loop_eq hl s0 s6 s7 rs m (a + (r.2.length + 2)) (acc ++ [ruleD r]) (.d (ruleD r)) (fun x hx => h x (List.mem_cons_of_mem _ hx)) (fun i w hi => by
      have := hw (r.2.length + 2 + i) w (by
        rw [List.flatMap_cons, List.getElem?_append_right (by rw [ruleW_len]; omega), ruleW_len]
        rw [show r.2.length + 2 + i - (r.2.length + 2) = i by omega]
        exact hi)
      rw [show a + (r.2.length + 2) + i = a + (r.2.length + 2 + i) by omega]
      exact this) (by rw [hW, lf]; omega) (by rw [List.length_append, List.length_singleton]; omega) (by omega) (fun _ => by simp)
    refine ⟨a', s5', ?_⟩
    have ll := len_at (W := W)
    have lt : oLt (.int (a : Nat)) (.int (W.length : Nat)) = .ret (.bool true) := by
      show T.ret (PyData.bool (decide (((a : Nat) : Int) < ((W.length : Nat) : Int)))) = _
      rw [decide_eq_true (by omega)]
    rw [List.append_assoc] at e
    have e' : whGo condP bodyP m [s0, .d (.list W), .d (.int (n : Nat)), .own (acc ++ [ruleD r]), .d (.int ((a + (r.2.length + 2) : Nat))), .d (ruleD r), s6, s7] = .ret (.nx [s0, .d (.list W), .d (.int (n : Nat)), .own (acc ++ (r :: rs).map ruleD), a', s5', s6, s7]) := e
    unfold whGo
    generalize bodyP = B at *
    have c : condP [s0, .d (.list W), .d (.int (n : Nat)), .own acc, .d (.int (a : Nat)), s5, s6, s7] = .ret (.bool true) := by
      unfold condP
      generalize PyData.list W = WD at *
      generalize ((W.length : Nat) : Int) = LW at *
      simp [ll, lt]
    rw [c]
    show (onB ((B _).bind _) _ (.bool true)) = _
    rw [b]
    exact e'
end Wk11
set_option Elab.async false
set_option linter.all false
set_option maxRecDepth 100000
set_option maxHeartbeats 4000000
namespace Wk11
open PySem PySem.Spec PyProof.Rows L2 Wb TL
/-! ### no error of a flow that is right -/
theorem inR_yes {lo hi i : Int} (h0 : lo ≤ i) (h1 : i ≤ hi) : Wb.inR lo hi (.int i) = true := by
  show (decide (lo ≤ i) && decide (i ≤ hi)) = true
  rw [decide_eq_true h0, decide_eq_true h1]
  rfl
theorem okv_yes {n : Nat} {ns : List Int} (h : VIn n ns) : Wb.okv (n : Nat) 4 (vecD ns) = true := by
  have a : (ns.map PyData.int).all (Wb.inR (-4) 4) = true := by
    rw [List.all_eq_true]
    intro x hx
    obtain ⟨i, hi, rfl⟩ := List.mem_map.mp hx
    have := h.bd i hi
    exact inR_yes (by omega) (by omega)
  show (decide (((ns.map PyData.int).length : Int) = (n : Nat)) && (ns.map PyData.int).all (Wb.inR (-4) 4)) = true
  rw [a, List.length_map, h.len]
  simp
theorem readW_none {n m : Nat} {r : Rd} (h : RIn n r) (hm : r.1 < m) : readW (n : Nat) (m : Nat) (readD r) = none := by
  have a := inR_yes (lo := 0) (hi := ((m : Nat) : Int) - 1) (i := ((r.1 : Nat) : Int)) (by omega) (by omega)
  have b := okv_yes h.vec
  have t : tupB 2 (readD r) = true := rfl
  unfold readW
  rw [if_pos t]
  show (if Wb.inR 0 (((m : Nat) : Int) - 1) (.int (r.1 : Nat)) = true then (if Wb.okv (n : Nat) 4 (vecD r.2) = true then (none : Option Str) else some ("distance" : Str)) else some ("source" : Str)) = none
  rw [if_pos a, if_pos b]
theorem ruleGo_none {n m : Nat} : ∀ (rs : List Rd) (i : Nat), (∀ x ∈ rs, RIn n x ∧ x.1 < m) → ruleGo (n : Nat) (m : Nat) i (rs.map readD) = none
  | [], _, _ => rfl
  | r :: rs, i, h => by
    have h1 := h r (List.mem_cons_self ..)
    have e := readW_none h1.1 h1.2
    have ih := ruleGo_none rs (i + 1) fun x hx => h x (List.mem_cons_of_mem _ hx)
    rw [List.map_cons]
    unfold ruleGo
    rw [e]
    exact ih
theorem ruleE_none {n m : Nat} {r : Ru} (h : RuIn n r) (hm : ∀ x ∈ r.2, x.1 < m) : ruleE (n : Nat) (m : Nat) (ruleD r) = none := by
  have f : formB (ruleD r) = true := by
    show (match kindN (.str r.1) with
      | some k => decide (((r.2.map readD).length : Int) = k)
      | none => false) = true
    have k : kindN (.str r.1) = some ((r.2.length : Nat) : Int) := h.kind
    rw [k, List.length_map]
    exact decide_eq_true rfl
  have g := ruleGo_none r.2 0 fun x hx => ⟨h.rd x hx, hm x hx⟩
  unfold ruleE
  rw [if_pos f]
  show (ruleGo (n : Nat) (m : Nat) 0 (r.2.map readD)).map _ = none
  rw [g]
  rfl
theorem flowGo_none {n m : Nat} : ∀ (rs : List Ru) (i : Nat), (∀ r ∈ rs, RuIn n r ∧ ∀ x ∈ r.2, x.1 < m) → flowGo (n : Nat) (m : Nat) i (rs.map ruleD) = .none
  | [], _, _ => rfl
  | r :: rs, i, h => by
    have h1 := h r (List.mem_cons_self ..)
    have e := ruleE_none h1.1 h1.2
    have ih := flowGo_none rs (i + 1) fun x hx => h x (List.mem_cons_of_mem _ hx)
    rw [List.map_cons]
    unfold flowGo
    rw [e]
    exact ih
theorem flow_none {n : Nat} {rs : List Ru} (h : FIn n rs) : m_flow_error [.d (flowD n rs)] = .ret .none := by
  rw [flow_error_eq]
  have t : tupB 2 (flowD n rs) = true := rfl
  have a := inR_yes (lo := 2) (hi := 3) (i := ((n : Nat) : Int)) (by have := h.n2; omega) (by have := h.n3; omega)
  have b : rulesB (rulesD rs) = true := by
    have l1 := h.l1
    have l6 := h.l6
    show (decide (1 ≤ ((rs.map ruleD).length : Int)) && decide (((rs.map ruleD).length : Int) ≤ 6)) = true
    rw [List.length_map, decide_eq_true (by omega), decide_eq_true (by omega)]
    rfl
  have g := flowGo_none (n := n) (m := rs.length) rs 0 fun r hr => ⟨h.ru r hr, fun x hx => (h.rd r hr x hx).2⟩
  unfold flowE
  rw [if_pos t]
  show T.ret (if Wb.inR 2 3 (.int (n : Nat)) = true then (if rulesB (rulesD rs) = true then flowGo (n : Nat) (((rs.map ruleD).length : Nat) : Int) 0 (rs.map ruleD) else .tuple [.none, .str "rules"]) else .tuple [.none, .str "dims"]) = _
  rw [if_pos a, if_pos b, List.length_map, g]
/-! ### reading flows back -/
theorem first_ok {n : Nat} (h2 : 2 ≤ n) (h3 : n ≤ 3) : oNotInT (.str (iT (n : Nat))) (.tuple [.str "2", .str "3"]) = .ret (.bool false) ∧ oIntT (.str (iT (n : Nat))) = .ret (.int (n : Nat)) := by
  have : n = 2 ∨ n = 3 := by omega
  rcases this with rfl | rfl
  · exact ⟨retB_eq (n := 10) (by decide +kernel), retB_eq (n := 10) (by decide +kernel)⟩
  · exact ⟨retB_eq (n := 10) (by decide +kernel), retB_eq (n := 10) (by decide +kernel)⟩
theorem parse_flow_eq {n : Nat} {rs : List Ru} (h : FIn n rs) : m_parse_flow [.d (.str (flowT n rs))] = .ret (flowD n rs) := by
  have sp := split_flow h
  have fl := flat_len h.ru
  have l6 := h.l6
  have l1 := h.l1
  have wl : ((flowW n rs).map PyData.str).length = 1 + (rs.flatMap ruleW).length := by
    unfold flowW
    rw [List.length_map, List.length_cons]
    omega
  obtain ⟨a', s5', e⟩ := loop_eq (n := n) (W := (flowW n rs).map PyData.str) (by omega) (.d (.str (flowT n rs))) .no .no rs 200 1 [] .no h.ru (fun i w hi => by
    unfold flowW
    rw [List.map_cons, show 1 + i = i + 1 by omega, List.getElem?_cons_succ, List.getElem?_map, hi]
    rfl) wl (by simp; omega) (by omega) (fun z => by
    rw [z] at l1
    simp at l1)
  rw [List.nil_append] at e
  obtain ⟨f1, f2⟩ := first_ok h.n2 h.n3
  have ix : oIx (.list ((flowW n rs).map PyData.str)) (.int 0) = .ret (.str (iT (n : Nat))) := ix_at (j := 0) rfl
  have fe := flow_none h
  have tp : oTupleOf (.list (rs.map ruleD)) = .ret (rulesD rs) := rfl
  have fd : PyData.tuple [.int (n : Nat), rulesD rs] = flowD n rs := rfl
  have isn : oNotN .none .none = .ret (.bool false) := by with_unfolding_all rfl
  have iss : oIsI "str" (.str (flowT n rs)) = .ret (.bool true) := by with_unfolding_all rfl
  have c1 : ((1 : Nat) : Int) = 1 := rfl
  rw [c1] at e
  rw [mq_parse_flow]
  unfold F_parse_flow
  unfold condP bodyP at e
  generalize hC : (eOr (eBin oLt (eV 4) (eCb oLen (aCons (eV 1) aNil))) (eUn oNot (eONe 3))) = C at *
  generalize hB : (sSeq (sSet 5 (eCall 3 m_parse_rule (aCons (eV 2) (aCons (eV 1) (aCons (eV 4) aNil))))) (sSeq (sApp 3 (eV 5)) (sSet 4 (eBin oAdd (eBin oAdd (eV 4) (eC (.int 1))) (eCb oLen (aCons (eV 5) aNil)))))) = B at *
  generalize PyData.list ((flowW n rs).map PyData.str) = WD at *
  generalize hT : PyData.str (flowT n rs) = TD at *
  generalize PyData.str (iT (n : Nat)) = ND at *
  generalize rulesD rs = RS at *
  generalize rs.map ruleD = RL at *
  generalize flowD n rs = FD at *
  generalize ((n : Nat) : Int) = nn at *
  have sp' : eSM oSplitS (eV 0) (eC (.str " ")) [.d TD, .no, .no, .no, .no, .no, .no, .no] = .ret WD := by
    rw [← hT]
    show oSplitS (flowT n rs) (.str " ") = _
    exact sp
  generalize eSM oSplitS (eV 0) (eC (.str " ")) = SE at *
  simp [iss, sp', ix, f1, f2, e, sFrz, tp, fd, fe]
end Wk11
set_option Elab.async false
set_option linter.all false
set_option maxRecDepth 100000
set_option maxHeartbeats 4000000
namespace Wk11
open PySem PySem.Spec PyProof.Rows L2 Wb TL
/-! ### the draws -/
theorem fin_of {n : Nat} {rs : List Ru} (h : FOk n rs) : FIn n rs := by
  have l6 := h.l6
  have n2 := h.n2
  refine ⟨n2, h.n3, h.l1, l6, fun r hr => (h.ok r hr).kind, fun r hr x hx => ?_⟩
  have s := (h.ok r hr).src x hx
  exact ⟨⟨by omega, ⟨by omega, h.n3, (h.ok r hr).dl x hx, (h.ok r hr).db x hx⟩⟩, s⟩
theorem each_big {P : Int → Prop} {ds : List D} : ∀ {ys : List D}, Each (fun _ y => ∃ z : Int, y = PyData.int z ∧ P z) ds ys → ∃ ns : List Int, ys = ns.map PyData.int ∧ ns.length = ds.length ∧ ∀ n ∈ ns, P n := by
  intro ys h
  induction h with
  | nil => exact ⟨[], rfl, rfl, fun _ z => nomatch z⟩
  | cons h1 _ ih =>
    obtain ⟨z, rfl, hz⟩ := h1
    obtain ⟨ns, rfl, hl, hb⟩ := ih
    refine ⟨z :: ns, rfl, by simp [hl], fun n hn => ?_⟩
    rcases List.mem_cons.mp hn with k | k
    · subst k
      exact hz
    · exact hb n k
def someL (i j : Int) : List Int := [0, 1, -1, 10, -60, 10 ^ 9, -(10 ^ 12), 10 ^ 39, i, -j]
theorem some_ok {i j : Int} (i0 : 0 ≤ i) (i1 : i < 10 ^ 6) (j0 : 0 ≤ j) (j1 : j < 10 ^ 6) : ∀ z ∈ someL i j, z.natAbs < 10 ^ 50 := by
  intro z hz
  unfold someL at hz
  have e6 : (10 : Int) ^ 6 = 1000000 := by decide
  rw [e6] at i1 j1
  simp only [List.mem_cons, List.not_mem_nil, or_false] at hz
  rcases hz with rfl | rfl | rfl | rfl | rfl | rfl | rfl | rfl | rfl | rfl
  · decide +kernel
  · decide +kernel
  · decide +kernel
  · decide +kernel
  · decide +kernel
  · decide +kernel
  · decide +kernel
  · decide +kernel
  · exact Nat.lt_of_lt_of_le (m := 1000000) (by omega) (by decide +kernel)
  · exact Nat.lt_of_lt_of_le (m := 1000000) (by omega) (by decide +kernel)
abbrev lstE : Env' → T D := (eLst (aCons (eC (.int 0)) (aCons (eC (.int 1)) (aCons (eUn oNeg (eC (.int 1))) (aCons (eC (.int 10)) (aCons (eUn oNeg (eC (.int 60))) (aCons (eBin oPow (eC (.int 10)) (eC (.int 9))) (aCons (eUn oNeg (eBin oPow (eC (.int 10)) (eC (.int 12)))) (aCons (eBin oPow (eC (.int 10)) (eC (.int 39))) (aCons (eCall 2 m_law_draw (aBox 0 (aCons (eBin oPow (eC (.int 10)) (eC (.int 6))) aNil))) (aCons (eUn oNeg (eCall 2 m_law_draw (aBox 0 (aCons (eBin oPow (eC (.int 10)) (eC (.int 6))) aNil)))) aNil)))))))))))
theorem lst_of (A9 A12 A39 A6 : Int) (P9 P12 P39 P6 : Env' → T D) (h9 : ∀ ρ, P9 ρ = .ret (.int A9)) (h12 : ∀ ρ, P12 ρ = .ret (.int A12)) (h39 : ∀ ρ, P39 ρ = .ret (.int A39)) (h6 : ∀ ρ, P6 ρ = .ret (.int A6)) (p6 : 0 < A6) (l6 : A6 < 1073741824) (v : D) (s2 s3 : Sl) :
    ((eLst (aCons (eC (.int 0)) (aCons (eC (.int 1)) (aCons (eUn oNeg (eC (.int 1))) (aCons (eC (.int 10)) (aCons (eUn oNeg (eC (.int 60))) (aCons P9 (aCons (eUn oNeg P12) (aCons P39 (aCons (eCall 2 m_law_draw (aBox 0 (aCons P6 aNil))) (aCons (eUn oNeg (eCall 2 m_law_draw (aBox 0 (aCons P6 aNil)))) aNil))))))))))) [.box true, .d v, s2, s3]).wp (fun d => ∃ i j : Int, d = .list ([0, 1, -1, 10, -60, A9, -A12, A39, i, -j].map PyData.int) ∧ 0 ≤ i ∧ i < A6 ∧ 0 ≤ j ∧ j < A6) noE := by
  simp [h9, h12, h39, h6]
  refine ⟨p6, by omega, fun i i0 i1 => ⟨p6, by omega, fun j j0 j1 => ?_⟩⟩
  exact ⟨i, j, ⟨rfl, rfl⟩, i0, i1, j0, j1⟩
theorem pow9 : oPow (.int 10) (.int 9) = .ret (.int (10 ^ 9)) := retB_eq (n := 5) (by decide +kernel)
theorem pow12 : oPow (.int 10) (.int 12) = .ret (.int (10 ^ 12)) := retB_eq (n := 5) (by decide +kernel)
theorem pow39 : oPow (.int 10) (.int 39) = .ret (.int (10 ^ 39)) := retB_eq (n := 5) (by decide +kernel)
theorem pow6 : oPow (.int 10) (.int 6) = .ret (.int (10 ^ 6)) := retB_eq (n := 5) (by decide +kernel)
theorem lst_wp (v : D) (s2 s3 : Sl) : (lstE [.box true, .d v, s2, s3]).wp (fun d => ∃ i j : Int, d = .list ((someL i j).map PyData.int) ∧ 0 ≤ i ∧ i < 10 ^ 6 ∧ 0 ≤ j ∧ j < 10 ^ 6) noE :=
  lst_of (10 ^ 9) (10 ^ 12) (10 ^ 39) (10 ^ 6) (eBin oPow (eC (.int 10)) (eC (.int 9))) (eBin oPow (eC (.int 10)) (eC (.int 12))) (eBin oPow (eC (.int 10)) (eC (.int 39))) (eBin oPow (eC (.int 10)) (eC (.int 6))) (fun ρ => pow9) (fun ρ => pow12) (fun ρ => pow39) (fun ρ => pow6) (by decide +kernel) (by decide +kernel) v s2 s3
theorem nums_lc {L : List Int} {k : Nat} (hk : k ≤ 100) (l0 : 0 < L.length) (l1 : L.length < 1000) (h : ∀ z ∈ L, z.natAbs < 10 ^ 50) (s3 : Sl) : (eLc [3] (iArg oRng1 (aCons (eV 1) aNil)) (bName 3) tTrue (eCall 2 m_law_one (aBox 0 (aCons (eV 2) aNil))) [.box true, .d (.int (k : Nat)), .d (.list (L.map PyData.int)), s3]).wp (fun d => ∃ ns : List Int, d = .list (ns.map PyData.int) ∧ ns.length = k ∧ ∀ z ∈ ns, z.natAbs < 10 ^ 50) noE := by
  have one : (m_law_one [.box true, .d (.list (L.map PyData.int))]).wp (fun d => ∃ z : Int, d = .int z ∧ z.natAbs < 10 ^ 50) noE := one_wp (by rw [List.length_map]; exact l0) (by rw [List.length_map]; omega) fun x hx => by
    obtain ⟨z, hz, rfl⟩ := List.mem_map.mp hx
    exact ⟨z, rfl, h z hz⟩
  refine eLc_wp (ds := rangeD 0 k) (by simp [oRng1_nat (n := k) (by omega)]) (by rw [rangeD_len]; omega) (lc_wp (R := fun _ y => ∃ z : Int, y = PyData.int z ∧ z.natAbs < 10 ^ 50) _ (fun d _ => ⟨_, rfl, rfl, ?_⟩) fun ys hy => ?_)
  · generalize PyData.list (L.map PyData.int) = LD at *
    simp
    refine T.le one ?_
    rintro _ ⟨z, rfl, hz⟩
    exact ⟨z, rfl, hz⟩
  · obtain ⟨ns, rfl, hl, hb⟩ := each_big hy
    exact ⟨ns, rfl, by rw [hl, rangeD_len], hb⟩
theorem numbers_wp {k : Nat} (hk : k ≤ 100) : (m_law_numbers [.box true, .d (.int (k : Nat))]).wp (fun d => ∃ ns : List Int, d = vecD ns ∧ ns.length = k ∧ ∀ z ∈ ns, z.natAbs < 10 ^ 50) noE := by
  have h1 := lst_wp (.int (k : Nat))
  rw [mq_law_numbers]
  unfold F_law_numbers
  change (mkDef 4 (sSeq (sSet 2 lstE) _) _).wp _ _
  generalize lstE = LE at *
  have h2 := fun (i j : Int) (i0 : 0 ≤ i) (i1 : i < 10 ^ 6) (j0 : 0 ≤ j) (j1 : j < 10 ^ 6) => nums_lc (L := someL i j) hk (by show 0 < 10; decide) (by show 10 < 1000; decide) (some_ok i0 i1 j0 j1)
  generalize eLc _ _ _ _ _ = RE at *
  generalize someL = SL at *
  simp
  refine T.le (h1 _ _) ?_
  rintro _ ⟨i, j, rfl, i0, i1, j0, j1⟩
  try simp
  refine T.le (h2 i j i0 i1 j0 j1 _) ?_
  rintro _ ⟨ns, rfl, hl, hb⟩
  simp
  exact ⟨ns, rfl, hl, hb⟩
end Wk11
set_option Elab.async false
set_option linter.all false
set_option maxRecDepth 100000
set_option maxHeartbeats 4000000
namespace Wk11
open PySem PySem.Spec PyProof.Rows L2 Wb TL
abbrev i0 : Env' → T Fl := (sPar 3 4 (aCons (eCall 1 m_law_flow (aBox 1 aNil)) (aCons (eCall 2 m_law_numbers (aBox 1 (aCons (eCall 2 m_law_draw (aBox 1 (aCons (eC (.int 7)) aNil))) aNil))) aNil)))
abbrev i1 : Env' → T Fl := (sSet 5 (eCb (o1 oTupleOf) (aCons (eLc [12] (iSeq (eBin oIx (eV 3) (eC (.int 1)))) (bName 12) tTrue (eBin oSub (eCall 2 m_law_draw (aBox 1 (aCons (eC (.int 20001)) aNil))) (eC (.int 10000)))) aNil)))
abbrev i2 : Env' → T Fl := (sPar 6 7 (aCons (eCall 2 m_law_numbers (aBox 1 (aCons (eBin oIx (eV 3) (eC (.int 0))) aNil))) (aCons (eTup (aCons (eCall 3 m_law_vector (aBox 1 (aCons (eBin oIx (eV 3) (eC (.int 0))) (aCons (eC (.int 60)) aNil)))) (aCons (eV 5) aNil))) aNil)))
abbrev i3 : Env' → T Fl := (sPar 8 9 (aCons (eCb (o1 oRepr) (aCons (eLst (aCons (eV 3) (aCons (eV 4) (aCons (eV 6) (aCons (eV 7) aNil))))) aNil)) (aCons (eCall 1 m_law_flow_text (aCons (eV 3) aNil)) aNil)))
abbrev i4 : Env' → T Fl := (sIf (eOr (eBin oNe (eLst (aCons (eCall 1 m_flow_text (aCons (eV 3) aNil)) (aCons (eCall 1 m_flow_text (aCons (eV 3) aNil)) aNil))) (eLst (aCons (eV 9) (aCons (eV 9) aNil)))) (eBin oNe (eCb (o1 oRepr) (aCons (eCall 1 m_parse_flow (aCons (eV 9) aNil)) aNil)) (eCb (o1 oRepr) (aCons (eV 3) aNil)))) (sRet (eC (.bool false))) sNil)
abbrev i5 : Env' → T Fl := (sIf (eBin oNe (eLc [12] (iSeq (eBin oIx (eV 3) (eC (.int 1)))) (bName 12) tTrue (eCall 1 m_rule_text (aCons (eV 12) aNil))) (eLc [12] (iSeq (eBin oIx (eV 3) (eC (.int 1)))) (bName 12) tTrue (eCall 1 m_law_rule_text (aCons (eV 12) aNil)))) (sRet (eC (.bool false))) sNil)
abbrev i6 : Env' → T Fl := (sSet 10 (eSM oJoinS (eC (.str " ")) (eLc [13] (iSeq (eV 4)) (bName 13) tTrue (eCb (o1 oStrI) (aCons (eV 13) aNil)))))
abbrev i7 : Env' → T Fl := (sIf (eOr (eBin oNe (eCall 1 m_numbers_text (aCons (eV 4) aNil)) (eV 10)) (eBin oNe (eCall 1 m_vector_text (aCons (eV 6) aNil)) (eCall 1 m_law_vector_text (aCons (eV 6) aNil)))) (sRet (eC (.bool false))) sNil)
abbrev i8 : Env' → T Fl := (sSet 11 (eSM oJoinS (eC (.str " ")) (eBin oAdd (eLst (aCons (eCall 1 m_law_vector_text (aCons (eBin oIx (eV 7) (eC (.int 0))) aNil)) aNil)) (eLc [14] (iSeq (eBin oIx (eV 7) (eC (.int 1)))) (bName 14) tTrue (eCb (o1 oStrI) (aCons (eV 14) aNil))))))
abbrev i9 : Env' → T Fl := (sIf (eOr (eBin oNe (eCall 1 m_beats_text (aCons (eV 7) aNil)) (eV 11)) (eBin oNe (eCb (o1 oRepr) (aCons (eLst (aCons (eV 3) (aCons (eV 4) (aCons (eV 6) (aCons (eV 7) aNil))))) aNil)) (eV 8))) (sRet (eC (.bool false))) sNil)
theorem b0_is : B0_law = (sSeq i0 (sSeq i1 (sSeq i2 (sSeq i3 (sSeq i4 (sSeq i5 (sSeq i6 (sSeq i7 (sSeq i8 i9))))))))) := rfl
/-! ### equal values -/
def okT (x : Str) : Prop := ∀ c ∈ tl x, c < 0x110000
theorem okT_ok {x : Str} (h : okT x) : PyData.strOk x = true := by
  unfold PyData.strOk
  rw [← Array.all_toList, List.all_eq_true]
  intro c hc
  exact decide_eq_true (h c hc)
theorem okT_of (s : String) : okT (Str.ofString s) := fun c hc => by
  rw [tl_ofString] at hc
  obtain ⟨ch, _, rfl⟩ := List.mem_map.mp hc
  have v := ch.valid
  rcases v with v | v
  · exact Nat.lt_trans v (by decide)
  · exact v.2
theorem okT_app {a b : Str} (h : okT a) (g : okT b) : okT (a ++ b) := fun c hc => by
  rw [tl_append, List.mem_append] at hc
  rcases hc with hc | hc
  · exact h c hc
  · exact g c hc
theorem okT_join {z : Str} {ys : List Str} (h : okT z) (g : ∀ y ∈ ys, okT y) : okT (Txt.join z ys) := fun c hc => by
  rcases mem_join hc with hc | ⟨y, hy, hc⟩
  · exact h c hc
  · exact g y hy c hc
theorem okT_vec (ns : List Int) : okT (vecT ns) := okT_join (okT_of _) fun y hy => by
  obtain ⟨x, hx, rfl⟩ := List.mem_map.mp hy
  exact okT_of _
theorem okT_read (r : Rd) : okT (readT r) := okT_app (okT_app (okT_of _) (okT_of _)) (okT_vec _)
theorem okT_rule {r : Ru} (h : okT r.1) : okT (ruleT r) := okT_join (okT_of _) fun y hy => by
  rcases List.mem_cons.mp hy with rfl | hy
  · exact h
  · obtain ⟨x, hx, rfl⟩ := List.mem_map.mp hy
    exact okT_read x
theorem kinds_okT : ∀ p ∈ KL, ∀ c ∈ tl p.1, c < 0x110000 := by decide +kernel
theorem okT_ru {n : Nat} {rs : List Ru} (h : FIn n rs) : ∀ r ∈ rs, okT (ruleT r) := fun r hr => okT_rule (by
  obtain ⟨p, hp, e1, _⟩ := h.kd r hr
  rw [e1]
  exact kinds_okT p hp)
theorem okT_flow {n : Nat} {rs : List Ru} (h : FIn n rs) : okT (flowT n rs) := okT_join (okT_of _) fun y hy => by
  rcases List.mem_cons.mp hy with rfl | hy
  · exact okT_of _
  · obtain ⟨r, hr, rfl⟩ := List.mem_map.mp hy
    exact okT_app (okT_of _) (okT_ru h r hr)
theorem strs_layL : ∀ ys : List Str, (∀ y ∈ ys, okT y) → PyData.hasDictAll (ys.map PyData.str) = false ∧ PyData.canLayAll0 (ys.map PyData.str) = true ∧ PyData.depthAll (ys.map PyData.str) = 0 ∧ PyData.eqvAll (ys.map PyData.str) (ys.map PyData.str) = true
  | [], _ => by simp [PyData.hasDictAll, PyData.canLayAll0, PyData.depthAll, PyData.eqvAll]
  | y :: ys, h => by
    obtain ⟨a, b, c, d⟩ := strs_layL ys fun x hx => h x (List.mem_cons_of_mem _ hx)
    have k := okT_ok (h y (List.mem_cons_self ..))
    simp [PyData.hasDictAll, PyData.canLayAll0, PyData.depthAll, PyData.eqvAll, PyData.hasDict, PyData.canLay0, PyData.depth, PyData.eqv, a, b, c, d, k]
theorem ne_strs {ys : List Str} (h : ∀ y ∈ ys, okT y) : oNe (.list (ys.map PyData.str)) (.list (ys.map PyData.str)) = .ret (.bool false) := by
  obtain ⟨a, b, c, d⟩ := strs_layL ys h
  have e : cEq (.list (ys.map PyData.str)) = true := by
    unfold cEq SeqAt.shaped
    simp only [PyData.hasDict, PyData.canLay0, PyData.depth, a, b, c, Bool.not_false, Bool.true_and]
    decide
  have f : PyData.eqv (.list (ys.map PyData.str)) (.list (ys.map PyData.str)) = true := by
    simp only [PyData.eqv]
    exact d
  unfold oNe
  rw [e, f, Bool.and_self, Bool.or_true, if_pos rfl]
  rfl
theorem ne_str (y : Str) : oNe (.str y) (.str y) = .ret (.bool false) := by
  have f : PyData.eqv (.str y) (.str y) = true := by simp [PyData.eqv]
  unfold oNe
  rw [f]
  rfl
/-! ### what can be shown -/
theorem ti_big {ns : List Int} (h : ∀ x ∈ ns, x.natAbs < 10 ^ 50) : Ti 1 ns.length (vecD ns) := (ti_tuple (TiL.ints h)).mono (by decide) (Nat.le_refl _)
theorem ti_rd {n : Nat} {r : Rd} (h : RIn n r) : Ti 2 10 (readD r) := by
  have a : Ti 0 0 (.int (r.1 : Nat)) := ti_int (src_at h.ok)
  have b := ti_big h.vec.few.big
  have l := h.vec.len
  have n3 := h.vec.n3
  exact (ti_tuple (TiL.cons a (TiL.one b))).mono (by decide) (by omega)
theorem ti_ru {n : Nat} {rs : List Ru} (h : FIn n rs) : ∀ r ∈ rs, Ti 3 100 (ruleD r) := fun r hr => by
  obtain ⟨p, hp, e1, e2⟩ := h.kd r hr
  have k := (kinds_ok p hp).2.2
  rw [← e1] at k
  have a : Ti 0 5 (.str r.1) := ti_by k
  have b : TiL 2 ((10 + 1) * (r.2.map readD).length) (r.2.map readD) := ti_allL (fun x hx => by
    obtain ⟨y, hy, rfl⟩ := List.mem_map.mp hx
    exact ti_rd (h.rd r hr y hy).1)
  have f := (h.ru r hr).few
  rw [List.length_map] at b
  exact (ti_tuple (TiL.cons a b)).mono (by decide) (by omega)
theorem ti_flow {n : Nat} {rs : List Ru} (h : FIn n rs) : Ti 5 1000 (flowD n rs) := by
  have a : Ti 0 0 (.int (n : Nat)) := ti_int (n_at h.ok)
  have b : TiL 3 ((100 + 1) * (rs.map ruleD).length) (rs.map ruleD) := ti_allL (fun x hx => by
    obtain ⟨y, hy, rfl⟩ := List.mem_map.mp hx
    exact ti_ru h y hy)
  have l := h.l6
  rw [List.length_map] at b
  exact (ti_tuple (TiL.cons a (TiL.one (ti_tuple b)))).mono (by decide) (by omega)
theorem ti_beats {w s : List Int} (hw : Few w) (hs : Few s) : Ti 2 2002 (beatsD w s) := by
  have a := ti_big hw.big
  have b := ti_big hs.big
  have l1 := hw.len
  have l2 := hs.len
  exact (ti_tuple (TiL.cons a (TiL.one b))).mono (by decide) (by omega)
theorem rep_four {n : Nat} {rs : List Ru} {ns vs w s : List Int} (h : FIn n rs) (hn : Few ns) (hv : Few vs) (hw : Few w) (hs : Few s) : ∃ z, oRepr (.list [flowD n rs, vecD ns, vecD vs, beatsD w s]) = .ret (.str z) := by
  have a := ti_flow h
  have b := ti_big hn.big
  have c := ti_big hv.big
  have d := ti_beats hw hs
  have l1 := hn.len
  have l2 := hv.len
  have t := ti_list (TiL.cons a (TiL.cons b (TiL.cons c (TiL.one d))))
  exact ⟨_, if_pos (t.rep (by decide) (by omega))⟩
theorem rep_flow {n : Nat} {rs : List Ru} (h : FIn n rs) : ∃ z, oRepr (flowD n rs) = .ret (.str z) := ⟨_, if_pos ((ti_flow h).rep (by decide) (by decide))⟩
end Wk11
set_option Elab.async false
set_option linter.all false
set_option maxRecDepth 100000
set_option maxHeartbeats 4000000
namespace Wk11
open PySem PySem.Spec PyProof.Rows L2 Wb TL
/-- what a turn draws -/
structure Dr (n : Nat) (rs : List Ru) (ns st vs w : List Int) : Prop where
  f : FIn n rs
  qn : Few ns
  qs : Few st
  qv : Few vs
  qw : Few w
  ne : st ≠ []
  sl : st.length ≤ 6
section
variable {n : Nat} {rs : List Ru} {ns st vs w : List Int}
theorem i3_eq (h : Dr n rs ns st vs w) : ∃ z, ∀ s2 s8 s9 s10 s11 s12 s13 s14, i3 [.no, .box true, s2, .d (flowD n rs), .d (vecD ns), .d (vecD st), .d (vecD vs), .d (beatsD w st), s8, s9, s10, s11, s12, s13, s14] = .ret (.nx [.no, .box true, s2, .d (flowD n rs), .d (vecD ns), .d (vecD st), .d (vecD vs), .d (beatsD w st), .d (.str z), .d (.str (flowT n rs)), s10, s11, s12, s13, s14]) ∧
    oRepr (.list [flowD n rs, vecD ns, vecD vs, beatsD w st]) = .ret (.str z) := by
  obtain ⟨z, e⟩ := rep_four h.f h.qn h.qv h.qw h.qs
  refine ⟨z, fun s2 s8 s9 s10 s11 s12 s13 s14 => ⟨?_, e⟩⟩
  have t := law_flow_text_eq h.f.ok
  generalize flowD n rs = F at *
  generalize vecD ns = N at *
  generalize vecD vs = V at *
  generalize beatsD w st = B at *
  generalize vecD st = S at *
  simp [e, t]
theorem i4_eq (h : Dr n rs ns st vs w) (s2 s4 s5 s6 s7 s8 s10 s11 s12 s13 s14 : Sl) : i4 [.no, .box true, s2, .d (flowD n rs), s4, s5, s6, s7, s8, .d (.str (flowT n rs)), s10, s11, s12, s13, s14] = .ret (.nx [.no, .box true, s2, .d (flowD n rs), s4, s5, s6, s7, s8, .d (.str (flowT n rs)), s10, s11, s12, s13, s14]) := by
  obtain ⟨z, e⟩ := rep_flow h.f
  have t := flow_text_eq h.f.ok
  have p := parse_flow_eq h.f
  have ne := ne_strs (ys := [flowT n rs, flowT n rs]) (fun y hy => by
    simp only [List.mem_cons, List.not_mem_nil, or_false] at hy
    rcases hy with rfl | rfl <;> exact okT_flow h.f)
  have ne2 : oNe (.list [.str (flowT n rs), .str (flowT n rs)]) (.list [.str (flowT n rs), .str (flowT n rs)]) = .ret (.bool false) := ne
  have nz := ne_str z
  generalize flowD n rs = F at *
  generalize PyData.str (flowT n rs) = T at *
  generalize PyData.str z = Z at *
  simp [e, t, p, ne2, nz]
theorem rls_lc (h : Dr n rs ns st vs w) {m : List Ar → T D} (hm : ∀ r ∈ rs, m [.d (ruleD r)] = .ret (.str (ruleT r))) (s2 s4 s5 s6 s7 s8 s9 s10 s11 s12 s13 s14 : Sl) : (eLc [12] (iSeq (eBin oIx (eV 3) (eC (.int 1)))) (bName 12) tTrue (eCall 1 m (aCons (eV 12) aNil))) [.no, .box true, s2, .d (flowD n rs), s4, s5, s6, s7, s8, s9, s10, s11, s12, s13, s14] = .ret (.list ((rs.map ruleT).map PyData.str)) := by
  have hl := h.f.l6
  have e := lc_rows (ρ := wipeE [.no, .box true, s2, .d (flowD n rs), s4, s5, s6, s7, s8, s9, s10, s11, s12, s13, s14] [12]) (bd := bName 12) (t := tTrue) (e := eCall 1 m (aCons (eV 12) aNil)) (mk := ruleD) (f := fun r => .str (ruleT r)) rs (fun r hr => ⟨_, rfl, rfl, by
    have q := hm r hr
    simp [q, wipeE]⟩)
  rw [List.map_map]
  have c := flow_1 n rs
  exact eLc_ret (ds := rs.map ruleD) (by simp [c, rulesD]) (by rw [List.length_map]; omega) e
theorem i5_eq (h : Dr n rs ns st vs w) (s2 s4 s5 s6 s7 s8 s9 s10 s11 s12 s13 s14 : Sl) : i5 [.no, .box true, s2, .d (flowD n rs), s4, s5, s6, s7, s8, s9, s10, s11, s12, s13, s14] = .ret (.nx [.no, .box true, s2, .d (flowD n rs), s4, s5, s6, s7, s8, s9, s10, s11, s12, s13, s14]) := by
  have a := rls_lc h (m := m_rule_text) (fun r hr => rule_text_eq (h.f.ok.ru r hr)) s2 s4 s5 s6 s7 s8 s9 s10 s11 s12 s13 s14
  have b := rls_lc h (m := m_law_rule_text) (fun r hr => law_rule_text_eq (h.f.ok.ru r hr)) s2 s4 s5 s6 s7 s8 s9 s10 s11 s12 s13 s14
  have ne := ne_strs (ys := rs.map ruleT) (fun y hy => by
    obtain ⟨r, hr, rfl⟩ := List.mem_map.mp hy
    exact okT_ru h.f r hr)
  unfold i5
  generalize (eLc [12] (iSeq (eBin oIx (eV 3) (eC (.int 1)))) (bName 12) tTrue (eCall 1 m_rule_text (aCons (eV 12) aNil))) = E1 at *
  generalize (eLc [12] (iSeq (eBin oIx (eV 3) (eC (.int 1)))) (bName 12) tTrue (eCall 1 m_law_rule_text (aCons (eV 12) aNil))) = E2 at *
  generalize PyData.list ((rs.map ruleT).map PyData.str) = L at *
  simp [a, b, ne]
theorem i6_eq (h : Dr n rs ns st vs w) (s2 s3 s5 s6 s7 s8 s9 s10 s11 s12 s13 s14 : Sl) : i6 [.no, .box true, s2, s3, .d (vecD ns), s5, s6, s7, s8, s9, s10, s11, s12, s13, s14] = .ret (.nx [.no, .box true, s2, s3, .d (vecD ns), s5, s6, s7, s8, s9, .d (.str (numT ns)), s11, s12, s13, s14]) := by
  have hl := h.qn.len
  have l := lc_rows (ρ := wipeE [.no, .box true, s2, s3, .d (vecD ns), s5, s6, s7, s8, s9, s10, s11, s12, s13, s14] [13]) (bd := bName 13) (t := tTrue) (e := eCb (o1 oStrI) (aCons (eV 13) aNil)) (mk := PyData.int) (f := fun i => .str (iT i)) ns (fun r hr => ⟨_, rfl, rfl, by
    have q := str_at (h.qn.big r hr)
    simp [q, wipeE]⟩)
  have e := eLc_ret (vs := [13]) (it := iSeq (eV 4)) (ds := ns.map PyData.int) (by simp [vecD]) (by rw [List.length_map]; omega) l
  have v := num_at h.qn
  rw [List.map_map] at v
  have v : oJoinS " " (.list (ns.map fun i => .str (iT i))) = .ret (.str (numT ns)) := v
  unfold i6
  generalize (eLc [13] (iSeq (eV 4)) (bName 13) tTrue (eCb (o1 oStrI) (aCons (eV 13) aNil))) = E at *
  generalize vecD ns = N at *
  generalize PyData.list (ns.map fun i => .str (iT i)) = L at *
  simp [e, v]
theorem i7_eq (h : Dr n rs ns st vs w) (s2 s3 s5 s7 s8 s9 s11 s12 s13 s14 : Sl) : i7 [.no, .box true, s2, s3, .d (vecD ns), s5, .d (vecD vs), s7, s8, s9, .d (.str (numT ns)), s11, s12, s13, s14] = .ret (.nx [.no, .box true, s2, s3, .d (vecD ns), s5, .d (vecD vs), s7, s8, s9, .d (.str (numT ns)), s11, s12, s13, s14]) := by
  have a := numbers_text_eq h.qn
  have b := vector_text_eq h.qv
  have c := law_vector_text_eq h.qv
  have n1 := ne_str (numT ns)
  have n2 := ne_str (vecT vs)
  generalize vecD ns = N at *
  generalize vecD vs = V at *
  generalize PyData.str (numT ns) = X at *
  generalize PyData.str (vecT vs) = Y at *
  simp [a, b, c, n1, n2]
theorem due_at {ys : List Str} (hn : ys ≠ []) (a : Str) : Txt.join " " (a :: ys) = a ++ " " ++ Txt.join " " ys := by
  rw [join_eq, join_eq]
  cases ys with
  | nil => exact absurd rfl hn
  | cons y r => rfl
theorem i8_eq (h : Dr n rs ns st vs w) (s2 s3 s4 s5 s6 s8 s9 s10 s11 s12 s13 s14 : Sl) : i8 [.no, .box true, s2, s3, s4, s5, s6, .d (beatsD w st), s8, s9, s10, s11, s12, s13, s14] = .ret (.nx [.no, .box true, s2, s3, s4, s5, s6, .d (beatsD w st), s8, s9, s10, .d (.str (vecT w ++ " " ++ numT st)), s12, s13, s14]) := by
  have b0 : oIx (beatsD w st) (.int 0) = .ret (vecD w) := ixT_at (j := 0) rfl
  have b1 : oIx (beatsD w st) (.int 1) = .ret (vecD st) := ixT_at (j := 1) rfl
  have hl := h.qs.len
  have l := lc_rows (ρ := wipeE [.no, .box true, s2, s3, s4, s5, s6, .d (beatsD w st), s8, s9, s10, s11, s12, s13, s14] [14]) (bd := bName 14) (t := tTrue) (e := eCb (o1 oStrI) (aCons (eV 14) aNil)) (mk := PyData.int) (f := fun i => .str (iT i)) st (fun r hr => ⟨_, rfl, rfl, by
    have q := str_at (h.qs.big r hr)
    simp [q, wipeE]⟩)
  have e := eLc_ret (vs := [14]) (it := iSeq (eBin oIx (eV 7) (eC (.int 1)))) (ds := st.map PyData.int) (by simp [b1, vecD]) (by rw [List.length_map]; omega) l
  have c := law_vector_text_eq h.qw
  have wl := vecT_len h.qw
  have j : oJoinS " " (.list (.str (vecT w) :: st.map fun i => .str (iT i))) = .ret (.str (vecT w ++ " " ++ numT st)) := by
    have z := join_at (z := " ") (b := 52000) (ys := vecT w :: st.map iT) (fun y hy => by
      rcases List.mem_cons.mp hy with rfl | hy
      · exact wl
      · exact Nat.le_trans (h.qs.at y hy) (by decide)) (by
      rw [sp_len, List.length_cons, List.length_map]
      have := h.sl
      have e : (st.length + 1) * (52000 + 1) ≤ 7 * (52000 + 1) := Nat.mul_le_mul_right _ (by omega)
      exact Nat.le_trans e (by decide))
    rw [due_at (by intro q; exact h.ne (List.map_eq_nil_iff.mp q))] at z
    rw [List.map_cons, List.map_map] at z
    exact z
  have a := add_lists (a := .str (vecT w)) (bs := st.map fun i => .str (iT i)) (by rw [List.length_map]; omega)
  unfold i8
  generalize (eLc [14] (iSeq (eBin oIx (eV 7) (eC (.int 1)))) (bName 14) tTrue (eCb (o1 oStrI) (aCons (eV 14) aNil))) = E at *
  generalize beatsD w st = B at *
  generalize vecD w = WD at *
  generalize (st.map fun i => PyData.str (iT i)) = L at *
  generalize PyData.str (vecT w ++ " " ++ numT st) = R at *
  generalize PyData.str (vecT w) = X at *
  simp [b0, c, e, a, j, -oJoinS_list]
theorem i9_eq (h : Dr n rs ns st vs w) {z : Str} (e : oRepr (.list [flowD n rs, vecD ns, vecD vs, beatsD w st]) = .ret (.str z)) (s2 s5 s9 s10 s12 s13 s14 : Sl) : i9 [.no, .box true, s2, .d (flowD n rs), .d (vecD ns), s5, .d (vecD vs), .d (beatsD w st), .d (.str z), s9, s10, .d (.str (vecT w ++ " " ++ numT st)), s12, s13, s14] = .ret (.nx [.no, .box true, s2, .d (flowD n rs), .d (vecD ns), s5, .d (vecD vs), .d (beatsD w st), .d (.str z), s9, s10, .d (.str (vecT w ++ " " ++ numT st)), s12, s13, s14]) := by
  have b := beats_text_eq h.qw h.qs
  have n1 := ne_str (vecT w ++ " " ++ numT st)
  have n2 := ne_str z
  generalize flowD n rs = F at *
  generalize vecD ns = N at *
  generalize vecD vs = V at *
  generalize beatsD w st = B at *
  generalize PyData.str (vecT w ++ " " ++ numT st) = X at *
  generalize PyData.str z = Z at *
  simp [e, b, n1, n2]
end
end Wk11
set_option Elab.async false
set_option linter.all false
set_option maxRecDepth 100000
set_option maxHeartbeats 4000000
namespace Wk11
open PySem PySem.Spec PyProof.Rows L2 Wb TL
theorem i0_wp (s2 s3 s4 s5 s6 s7 s8 s9 s10 s11 s12 s13 s14 : Sl) : (i0 [.no, .box true, s2, s3, s4, s5, s6, s7, s8, s9, s10, s11, s12, s13, s14]).wp (fun fl => ∃ n rs ns, FIn n rs ∧ Few ns ∧ fl = .nx [.no, .box true, s2, .d (flowD n rs), .d (vecD ns), s5, s6, s7, s8, s9, s10, s11, s12, s13, s14]) noE := by
  have f := flow_wp
  simp
  refine T.le f ?_
  rintro _ ⟨n, rs, rfl, h⟩
  have hf := fin_of h
  generalize hF : flowD n rs = F at *
  try simp
  intro i i0 i1
  obtain ⟨k, rfl⟩ : ∃ k : Nat, i = k := ⟨i.toNat, by omega⟩
  refine T.le (numbers_wp (k := k) (by omega)) ?_
  rintro _ ⟨ns, rfl, hl, hb⟩
  exact ⟨n, rs, hf, ns, ⟨by omega, hb⟩, hF.symm, rfl⟩
theorem i1_wp {n : Nat} {rs : List Ru} (h : FIn n rs) (s2 s4 s5 s6 s7 s8 s9 s10 s11 s12 s13 s14 : Sl) : (i1 [.no, .box true, s2, .d (flowD n rs), s4, s5, s6, s7, s8, s9, s10, s11, s12, s13, s14]).wp (fun fl => ∃ st : List Int, st.length = rs.length ∧ Few st ∧ fl = .nx [.no, .box true, s2, .d (flowD n rs), s4, .d (vecD st), s6, s7, s8, s9, s10, s11, s12, s13, s14]) noE := by
  have l6 := h.l6
  have c := flow_1 n rs
  have A : ((eLc [12] (iSeq (eBin oIx (eV 3) (eC (.int 1)))) (bName 12) tTrue (eBin oSub (eCall 2 m_law_draw (aBox 1 (aCons (eC (.int 20001)) aNil))) (eC (.int 10000)))) [.no, .box true, s2, .d (flowD n rs), s4, s5, s6, s7, s8, s9, s10, s11, s12, s13, s14]).wp (fun d => ∃ st : List Int, d = .list (st.map PyData.int) ∧ st.length = rs.length ∧ ∀ z ∈ st, -10000 ≤ z ∧ z ≤ 10000) noE := by
    refine eLc_wp (ds := rs.map ruleD) (by simp [c, rulesD]) (by rw [List.length_map]; omega) (lc_wp (R := fun _ y => ∃ z : Int, y = PyData.int z ∧ (-10000 ≤ z ∧ z ≤ 10000)) _ (fun d _ => ⟨_, rfl, rfl, ?_⟩) fun ys hy => ?_)
    · simp [wipeE]
      intro i i0 i1
      omega
    · obtain ⟨ns, rfl, hl, hb⟩ := each_big hy
      exact ⟨ns, rfl, by rw [hl, List.length_map], hb⟩
  unfold i1
  generalize (eLc [12] (iSeq (eBin oIx (eV 3) (eC (.int 1)))) (bName 12) tTrue (eBin oSub (eCall 2 m_law_draw (aBox 1 (aCons (eC (.int 20001)) aNil))) (eC (.int 10000)))) = E at *
  generalize flowD n rs = F at *
  simp
  refine T.le A ?_
  rintro _ ⟨st, rfl, hl, hb⟩
  have tp : oTupleOf (.list (st.map PyData.int)) = .ret (vecD st) := rfl
  simp [tp]
  refine ⟨st, hl, ⟨by omega, fun x hx => Nat.lt_of_le_of_lt (m := 10000) (by have := hb x hx; omega) (by decide)⟩, ?_⟩
  first | rfl | exact ⟨rfl, rfl⟩
theorem i2_wp {n : Nat} {rs : List Ru} (h : FIn n rs) (st : List Int) (s2 s4 s6 s7 s8 s9 s10 s11 s12 s13 s14 : Sl) : (i2 [.no, .box true, s2, .d (flowD n rs), s4, .d (vecD st), s6, s7, s8, s9, s10, s11, s12, s13, s14]).wp (fun fl => ∃ vs w : List Int, Few vs ∧ Few w ∧ fl = .nx [.no, .box true, s2, .d (flowD n rs), s4, .d (vecD st), .d (vecD vs), .d (beatsD w st), s8, s9, s10, s11, s12, s13, s14]) noE := by
  have n3 := h.n3
  have c := flow_0 n rs
  have a := numbers_wp (k := n) (by omega)
  have b := vector_wp (n := n) (M := 60) n3 (by decide)
  have b : (m_law_vector [.box true, .d (.int (n : Nat)), .d (.int 60)]).wp (fun v => ∃ ns : List Int, v = vecD ns ∧ ns.length = n ∧ ∀ x ∈ ns, x.natAbs ≤ 60) noE := b
  generalize flowD n rs = F at *
  generalize hS : vecD st = S at *
  simp [c]
  refine T.le a ?_
  rintro _ ⟨vs, rfl, hl, hb⟩
  generalize hV : vecD vs = V at *
  try simp
  refine T.le b ?_
  rintro _ ⟨w, rfl, hl2, hb2⟩
  try simp
  refine ⟨vs, ⟨by omega, hb⟩, w, ⟨by omega, fun x hx => Nat.lt_of_le_of_lt (hb2 x hx) (by decide)⟩, ?_⟩
  rw [hV]
  unfold beatsD
  rw [hS]
  first | exact ⟨rfl, rfl⟩ | rfl | simp
end Wk11
set_option Elab.async false
set_option linter.all false
set_option maxRecDepth 100000
set_option maxHeartbeats 4000000
namespace Wk11
open PySem PySem.Spec PyProof.Rows L2 Wb TL
theorem turn_of (I0 I1 I2 I3 I4 I5 I6 I7 I8 I9 : Env' → T Fl) (hI0 : ∀ s2 s3 s4 s5 s6 s7 s8 s9 s10 s11 s12 s13 s14, (I0 [.no, .box true, s2, s3, s4, s5, s6, s7, s8, s9, s10, s11, s12, s13, s14]).wp (fun fl => ∃ n rs ns, FIn n rs ∧ Few ns ∧ fl = .nx [.no, .box true, s2, .d (flowD n rs), .d (vecD ns), s5, s6, s7, s8, s9, s10, s11, s12, s13, s14]) noE)
    (hI1 : ∀ n rs, FIn n rs → ∀ s2 s4 s5 s6 s7 s8 s9 s10 s11 s12 s13 s14, (I1 [.no, .box true, s2, .d (flowD n rs), s4, s5, s6, s7, s8, s9, s10, s11, s12, s13, s14]).wp (fun fl => ∃ st : List Int, st.length = rs.length ∧ Few st ∧ fl = .nx [.no, .box true, s2, .d (flowD n rs), s4, .d (vecD st), s6, s7, s8, s9, s10, s11, s12, s13, s14]) noE)
    (hI2 : ∀ n rs, FIn n rs → ∀ st s2 s4 s6 s7 s8 s9 s10 s11 s12 s13 s14, (I2 [.no, .box true, s2, .d (flowD n rs), s4, .d (vecD st), s6, s7, s8, s9, s10, s11, s12, s13, s14]).wp (fun fl => ∃ vs w : List Int, Few vs ∧ Few w ∧ fl = .nx [.no, .box true, s2, .d (flowD n rs), s4, .d (vecD st), .d (vecD vs), .d (beatsD w st), s8, s9, s10, s11, s12, s13, s14]) noE)
    (hR : ∀ n rs ns st vs w, Dr n rs ns st vs w → ∀ s2 s8 s9 s10 s11 s12 s13 s14, ∃ t8 t9 t10 t11, (sSeq I3 (sSeq I4 (sSeq I5 (sSeq I6 (sSeq I7 (sSeq I8 I9)))))) [.no, .box true, s2, .d (flowD n rs), .d (vecD ns), .d (vecD st), .d (vecD vs), .d (beatsD w st), s8, s9, s10, s11, s12, s13, s14] = .ret (.nx [.no, .box true, s2, .d (flowD n rs), .d (vecD ns), .d (vecD st), .d (vecD vs), .d (beatsD w st), t8, t9, t10, t11, s12, s13, s14]))
    (s2 s3 s4 s5 s6 s7 s8 s9 s10 s11 s12 s13 s14 : Sl) : ((sSeq I0 (sSeq I1 (sSeq I2 (sSeq I3 (sSeq I4 (sSeq I5 (sSeq I6 (sSeq I7 (sSeq I8 I9))))))))) [.no, .box true, s2, s3, s4, s5, s6, s7, s8, s9, s10, s11, s12, s13, s14]).wp (fun fl => ∃ t3 t4 t5 t6 t7 t8 t9 t10 t11, fl = .nx [.no, .box true, s2, t3, t4, t5, t6, t7, t8, t9, t10, t11, s12, s13, s14]) noE := by
  generalize (sSeq I3 (sSeq I4 (sSeq I5 (sSeq I6 (sSeq I7 (sSeq I8 I9)))))) = R at *
  simp
  refine T.le (hI0 s2 s3 s4 s5 s6 s7 s8 s9 s10 s11 s12 s13 s14) ?_
  rintro _ ⟨n, rs, ns, h, hn, rfl⟩
  simp
  refine T.le (hI1 n rs h s2 _ s5 s6 s7 s8 s9 s10 s11 s12 s13 s14) ?_
  rintro _ ⟨st, hl, hs, rfl⟩
  simp
  refine T.le (hI2 n rs h st s2 _ s6 s7 s8 s9 s10 s11 s12 s13 s14) ?_
  rintro _ ⟨vs, w, hv, hw, rfl⟩
  have l1 := h.l1
  have l6 := h.l6
  have d : Dr n rs ns st vs w := ⟨h, hn, hs, hv, hw, by
    intro e
    rw [e] at hl
    simp only [List.length_nil] at hl
    omega, by omega⟩
  obtain ⟨t8, t9, t10, t11, e⟩ := hR n rs ns st vs w d s2 s8 s9 s10 s11 s12 s13 s14
  simp [e]
theorem rest_eq (n : Nat) (rs : List Ru) (ns st vs w : List Int) (h : Dr n rs ns st vs w) (s2 s8 s9 s10 s11 s12 s13 s14 : Sl) : ∃ t8 t9 t10 t11, (sSeq i3 (sSeq i4 (sSeq i5 (sSeq i6 (sSeq i7 (sSeq i8 i9)))))) [.no, .box true, s2, .d (flowD n rs), .d (vecD ns), .d (vecD st), .d (vecD vs), .d (beatsD w st), s8, s9, s10, s11, s12, s13, s14] = .ret (.nx [.no, .box true, s2, .d (flowD n rs), .d (vecD ns), .d (vecD st), .d (vecD vs), .d (beatsD w st), t8, t9, t10, t11, s12, s13, s14]) := by
  obtain ⟨z, e3⟩ := i3_eq h
  have er := (e3 s2 s8 s9 s10 s11 s12 s13 s14).2
  have e3 := fun s2 s8 s9 s10 s11 s12 s13 s14 => (e3 s2 s8 s9 s10 s11 s12 s13 s14).1
  have e4 := i4_eq h
  have e5 := i5_eq h
  have e6 := i6_eq h
  have e7 := i7_eq h
  have e8 := i8_eq h
  have e9 := i9_eq h er
  refine ⟨.d (.str z), .d (.str (flowT n rs)), .d (.str (numT ns)), .d (.str (vecT w ++ " " ++ numT st)), ?_⟩
  generalize i3 = I3 at *
  generalize i4 = I4 at *
  generalize i5 = I5 at *
  generalize i6 = I6 at *
  generalize i7 = I7 at *
  generalize i8 = I8 at *
  generalize i9 = I9 at *
  generalize flowD n rs = F at *
  generalize vecD ns = N at *
  generalize vecD st = S at *
  generalize vecD vs = V at *
  generalize beatsD w st = B at *
  simp [e3, e4, e5, e6, e7, e8, e9]
theorem turn_wp (s2 s3 s4 s5 s6 s7 s8 s9 s10 s11 s12 s13 s14 : Sl) : (B0_law [.no, .box true, s2, s3, s4, s5, s6, s7, s8, s9, s10, s11, s12, s13, s14]).wp (fun fl => ∃ t3 t4 t5 t6 t7 t8 t9 t10 t11, fl = .nx [.no, .box true, s2, t3, t4, t5, t6, t7, t8, t9, t10, t11, s12, s13, s14]) noE := by
  rw [b0_is]
  exact turn_of i0 i1 i2 i3 i4 i5 i6 i7 i8 i9 i0_wp (fun n rs h => i1_wp h) (fun n rs h st => i2_wp h st) rest_eq s2 s3 s4 s5 s6 s7 s8 s9 s10 s11 s12 s13 s14
theorem law_of (B : Env' → T Fl) (tw : ∀ s2 s3 s4 s5 s6 s7 s8 s9 s10 s11 s12 s13 s14, (B [.no, .box true, s2, s3, s4, s5, s6, s7, s8, s9, s10, s11, s12, s13, s14]).wp (fun fl => ∃ t3 t4 t5 t6 t7 t8 t9 t10 t11, fl = .nx [.no, .box true, s2, t3, t4, t5, t6, t7, t8, t9, t10, t11, s12, s13, s14]) noE) :
    ((sSeq (sFor (iArg oRng1 (aCons (eC (.int 16)) aNil)) (bName 2) B) (sRet (eC (.bool true)))) ([Sl.no, .box true] ++ List.replicate 13 .no)).run.wp (fun d => d = .bool true) (fun _ => False) := by
  have r8 : oRng1 [.d (.int 16)] = .ret (rangeD 0 16) := rfl
  simp [r8]
  refine h_go (fun ρ => ∃ s2 s3 s4 s5 s6 s7 s8 s9 s10 s11 s12 s13 s14, ρ = [.no, .box true, s2, s3, s4, s5, s6, s7, s8, s9, s10, s11, s12, s13, s14]) _ _ ⟨_, _, _, _, _, _, _, _, _, _, _, _, _, rfl⟩ ?_ ?_
  · rintro d hd ρ ⟨s2, s3, s4, s5, s6, s7, s8, s9, s10, s11, s12, s13, s14, rfl⟩
    refine ⟨_, rfl, ?_⟩
    refine T.wp_mono ?_ (fun _ z => z) _ (tw (.d d) s3 s4 s5 s6 s7 s8 s9 s10 s11 s12 s13 s14)
    rintro _ ⟨t3, t4, t5, t6, t7, t8, t9, t10, t11, rfl⟩
    exact ⟨_, _, _, _, _, _, _, _, _, _, _, _, _, rfl⟩
  · rintro ρ ⟨s2, s3, s4, s5, s6, s7, s8, s9, s10, s11, s12, s13, s14, rfl⟩
    simp
theorem law_true : (F_law ([Sl.no, .box true] ++ List.replicate 13 .no)).run.wp (fun d => d = .bool true) (fun _ => False) := law_of B0_law turn_wp
end Wk11
set_option Elab.async false
set_option linter.all false
set_option maxRecDepth 100000
open PySem PySem.W PyProof.Rows
set_option maxHeartbeats 0 in
theorem PySem.Challenge.cw_wirebeats_k11_texts_of_flows_holds : PySem.Challenge.rw_wirebeats_k11_texts_of_flows.Holds := by
  w_on; o_law; k_head; (case hw => w_witness2)
  k_fill
  refine Wb.walkG (l := PySem.Challenge.rw_wirebeats_k11_texts_of_flows) (n := 63) (k := 8) (x := "_law_script") (sp := fun w => Wk11.spL _) rfl (by decide) rfl ⟨rfl, by decide, by decide⟩ (fun w h Y => PySem.W.kIn_of Y) ?F (fun w H a ns hl _ hS => ⟨a, ns, rfl, hS, hl, fun _ => rfl⟩)
  case F =>
    intro w mg fa h KX G hmg
    refine' Wk11.all_mk KX G hmg ?a_is_within ?l_is_within ?c_is_within ?k_is_within ?a_is_tuple_of ?l_is_tuple_of ?c_is_tuple_of ?k_is_tuple_of ?a_is_bounded ?l_is_bounded ?c_is_bounded ?k_is_bounded ?a_has_form ?l_has_form ?c_has_form ?k_has_form ?a_are_rules ?l_are_rules ?c_are_rules ?k_are_rules ?a_read_error ?l_read_error ?c_read_error ?k_read_error ?a_rule_error ?l_rule_error ?c_rule_error ?k_rule_error ?a_flow_error ?l_flow_error ?c_flow_error ?k_flow_error ?a_vector_text ?l_vector_text ?c_vector_text ?k_vector_text ?a_numbers_text ?l_numbers_text ?c_numbers_text ?k_numbers_text ?a_beats_text ?l_beats_text ?c_beats_text ?k_beats_text ?a_read_text ?l_read_text ?c_read_text ?k_read_text ?a_rule_text ?l_rule_text ?c_rule_text ?k_rule_text ?a_flow_text ?l_flow_text ?c_flow_text ?k_flow_text ?a_parse_integer ?l_parse_integer ?c_parse_integer ?k_parse_integer ?a_parse_vector ?l_parse_vector ?c_parse_vector ?k_parse_vector ?a_parse_read ?l_parse_read ?c_parse_read ?k_parse_read ?a_parse_rule ?l_parse_rule ?c_parse_rule ?k_parse_rule ?a_parse_flow ?l_parse_flow ?c_parse_flow ?k_parse_flow ?a_law_opened ?l_law_opened ?c_law_opened ?k_law_opened ?a_law_draw ?l_law_draw ?c_law_draw ?k_law_draw ?a_law_one ?l_law_one ?c_law_one ?k_law_one ?a_law_kinds ?l_law_kinds ?c_law_kinds ?k_law_kinds ?a_law_vector ?l_law_vector ?c_law_vector ?k_law_vector ?a_law_rule ?l_law_rule ?c_law_rule ?k_law_rule ?a_law_flow ?l_law_flow ?c_law_flow ?k_law_flow ?a_law_vector_text ?l_law_vector_text ?c_law_vector_text ?k_law_vector_text ?a_law_rule_text ?l_law_rule_text ?c_law_rule_text ?k_law_rule_text ?a_law_flow_text ?l_law_flow_text ?c_law_flow_text ?k_law_flow_text ?a_law_numbers ?l_law_numbers ?c_law_numbers ?k_law_numbers ?a_law ?l_law ?c_law ?k_law ?z_abs ?z_all ?z_bool ?z_enumerate ?z_int ?z_isinstance ?z_len ?z_range ?z_repr ?z_str ?z_tuple ?v_DIGITS ?v_MAX_DIGITS ?v_MAX_DIST ?v_MAX_PLANES ?v_KINDS ?lk_KINDS ?kl_KINDS ?en_KINDS ?lo_KINDS ?a_BadFlow ?ex_BadFlow ?ty_BadFlow ?ic_BadFlow ?a_BadText ?ex_BadText ?ty_BadText ?ic_BadText ?x_BadFlow ?r_BadFlow ?sa_BadFlow ?ga_BadFlow ?gg_BadFlow ?no_BadFlow ?kc_BadFlow ?hd_BadFlow ?ii_BadFlow ?ti_BadFlow ?li_BadFlow ?ci_BadFlow ?ki_BadFlow ?x_BadText ?r_BadText ?sa_BadText ?ga_BadText ?gg_BadText ?no_BadText ?kc_BadText ?hd_BadText ?ii_BadText ?ti_BadText ?li_BadText ?ci_BadText ?ki_BadText Wk11.law_true
    (case a_is_within => k_is)
    (case l_is_within => k_is)
    (case c_is_within => k_is)
    (case k_is_within => k_is)
    (case a_is_tuple_of => k_is)
    (case l_is_tuple_of => k_is)
    (case c_is_tuple_of => k_is)
    (case k_is_tuple_of => k_is)
    (case a_is_bounded => k_is)
    (case l_is_bounded => k_is)
    (case c_is_bounded => k_is)
    (case k_is_bounded => k_is)
    (case a_has_form => k_is)
    (case l_has_form => k_is)
    (case c_has_form => k_is)
    (case k_has_form => k_is)
    (case a_are_rules => k_is)
    (case l_are_rules => k_is)
    (case c_are_rules => k_is)
    (case k_are_rules => k_is)
    (case a_read_error => k_is)
    (case l_read_error => k_is)
    (case c_read_error => k_is)
    (case k_read_error => k_is)
    (case a_rule_error => k_is)
    (case l_rule_error => k_is)
    (case c_rule_error => k_is)
    (case k_rule_error => k_is)
    (case a_flow_error => k_is)
    (case l_flow_error => k_is)
    (case c_flow_error => k_is)
    (case k_flow_error => k_is)
    (case a_vector_text => k_is)
    (case l_vector_text => k_is)
    (case c_vector_text => k_is)
    (case k_vector_text => k_is)
    (case a_numbers_text => k_is)
    (case l_numbers_text => k_is)
    (case c_numbers_text => k_is)
    (case k_numbers_text => k_is)
    (case a_beats_text => k_is)
    (case l_beats_text => k_is)
    (case c_beats_text => k_is)
    (case k_beats_text => k_is)
    (case a_read_text => k_is)
    (case l_read_text => k_is)
    (case c_read_text => k_is)
    (case k_read_text => k_is)
    (case a_rule_text => k_is)
    (case l_rule_text => k_is)
    (case c_rule_text => k_is)
    (case k_rule_text => k_is)
    (case a_flow_text => k_is)
    (case l_flow_text => k_is)
    (case c_flow_text => k_is)
    (case k_flow_text => k_is)
    (case a_parse_integer => k_is)
    (case l_parse_integer => k_is)
    (case c_parse_integer => k_is)
    (case k_parse_integer => k_is)
    (case a_parse_vector => k_is)
    (case l_parse_vector => k_is)
    (case c_parse_vector => k_is)
    (case k_parse_vector => k_is)
    (case a_parse_read => k_is)
    (case l_parse_read => k_is)
    (case c_parse_read => k_is)
    (case k_parse_read => k_is)
    (case a_parse_rule => k_is)
    (case l_parse_rule => k_is)
    (case c_parse_rule => k_is)
    (case k_parse_rule => k_is)
    (case a_parse_flow => k_is)
    (case l_parse_flow => k_is)
    (case c_parse_flow => k_is)
    (case k_parse_flow => k_is)
    (case a_law_opened => k_is)
    (case l_law_opened => k_is)
    (case c_law_opened => k_is)
    (case k_law_opened => k_is)
    (case a_law_draw => k_is)
    (case l_law_draw => k_is)
    (case c_law_draw => k_is)
    (case k_law_draw => k_is)
    (case a_law_one => k_is)
    (case l_law_one => k_is)
    (case c_law_one => k_is)
    (case k_law_one => k_is)
    (case a_law_kinds => k_is)
    (case l_law_kinds => k_is)
    (case c_law_kinds => k_is)
    (case k_law_kinds => k_is)
    (case a_law_vector => k_is)
    (case l_law_vector => k_is)
    (case c_law_vector => k_is)
    (case k_law_vector => k_is)
    (case a_law_rule => k_is)
    (case l_law_rule => k_is)
    (case c_law_rule => k_is)
    (case k_law_rule => k_is)
    (case a_law_flow => k_is)
    (case l_law_flow => k_is)
    (case c_law_flow => k_is)
    (case k_law_flow => k_is)
    (case a_law_vector_text => k_is)
    (case l_law_vector_text => k_is)
    (case c_law_vector_text => k_is)
    (case k_law_vector_text => k_is)
    (case a_law_rule_text => k_is)
    (case l_law_rule_text => k_is)
    (case c_law_rule_text => k_is)
    (case k_law_rule_text => k_is)
    (case a_law_flow_text => k_is)
    (case l_law_flow_text => k_is)
    (case c_law_flow_text => k_is)
    (case k_law_flow_text => k_is)
    (case a_law_numbers => k_is)
    (case l_law_numbers => k_is)
    (case c_law_numbers => k_is)
    (case k_law_numbers => k_is)
    (case a_law => k_is)
    (case l_law => k_is)
    (case c_law => k_is)
    (case k_law => k_is)
    (case z_abs => k_is)
    (case z_all => k_is)
    (case z_bool => k_is)
    (case z_enumerate => k_is)
    (case z_int => k_is)
    (case z_isinstance => k_is)
    (case z_len => k_is)
    (case z_range => k_is)
    (case z_repr => k_is)
    (case z_str => k_is)
    (case z_tuple => k_is)
    (case v_DIGITS => k_is)
    (case v_MAX_DIGITS => k_is)
    (case v_MAX_DIST => k_is)
    (case v_MAX_PLANES => k_is)
    (case v_KINDS => k_is)
    (case lk_KINDS => k_is)
    (case kl_KINDS => k_keys)
    (case en_KINDS => exact ⟨⟨_, rfl⟩, ⟨_, rfl⟩, ⟨⟨_, rfl⟩, ⟨_, rfl⟩, ⟨⟨_, rfl⟩, ⟨_, rfl⟩, ⟨⟨_, rfl⟩, ⟨_, rfl⟩, ⟨⟨_, rfl⟩, ⟨_, rfl⟩, ⟨⟨_, rfl⟩, ⟨_, rfl⟩, ⟨⟨_, rfl⟩, ⟨_, rfl⟩, ⟨⟨_, rfl⟩, ⟨_, rfl⟩, trivial⟩⟩⟩⟩⟩⟩⟩⟩)
    (case lo_KINDS => decide)
    (case a_BadFlow => k_is)
    (case ex_BadFlow => k_is)
    (case ty_BadFlow => k_is)
    (case ic_BadFlow => k_is)
    (case a_BadText => k_is)
    (case ex_BadText => k_is)
    (case ty_BadText => k_is)
    (case ic_BadText => k_is)
    (case x_BadFlow => k_is)
    (case r_BadFlow => decide +kernel)
    (case sa_BadFlow => k_is)
    (case ga_BadFlow => k_is)
    (case gg_BadFlow => k_is)
    (case no_BadFlow => k_is)
    (case kc_BadFlow => k_is)
    (case hd_BadFlow => k_is)
    (case ii_BadFlow => k_is)
    (case ti_BadFlow => k_is)
    (case li_BadFlow => k_is)
    (case ci_BadFlow => k_is)
    (case ki_BadFlow => k_is)
    (case x_BadText => k_is)
    (case r_BadText => decide +kernel)
    (case sa_BadText => k_is)
    (case ga_BadText => k_is)
    (case gg_BadText => k_is)
    (case no_BadText => k_is)
    (case kc_BadText => k_is)
    (case hd_BadText => k_is)
    (case ii_BadText => k_is)
    (case ti_BadText => k_is)
    (case li_BadText => k_is)
    (case ci_BadText => k_is)
    (case ki_BadText => k_is)
