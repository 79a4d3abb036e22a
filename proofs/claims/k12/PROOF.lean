import PyProof.Rows.All
import Wide.All
import OpenK.AllK
import Wide.FinOn
import HandS.ForMost
import HandS.Exc
import HandS.TryOnly
import HandS.WordsExc
import HandS.CallSlots
import HandS.Deep
import HandS.Wide
import HandS.Gcd
import HandS.IsInst
import HandS.TupAny
import HandS.TupMul
import HandS.Zip
import HandS.Lambda
import HandS.Walk
import KE.KeyNested
import HandS.ExcInit
import HandS.ExcField
import HandS.TupLe
import HandS.Dict
import PyProof.ReprBulk
import HandS.Zip0
import HandS.TryMany
import HandS.Small
import PyProof.ReprLen
import HandS.Rev
import HandS.ExcIs
import KE.KExcIs
import HandS.Style
import HandS.SetFor
import HandS.More
import PyProof.EqAt
import PyProof.NeKinds
import KE.GoesNew
import PyProof.Rows.IntBool
import KE.DataMinMax
import PyProof.Rows.ReprOcc
import HandS.Conv
import PyProof.P3In
import PyProof.Rows.SortShellAny
import KE.KItemsList
import HandS.Flow
import HandS.EndTab
import PyProof.EqKinds
import PyProof.Dict
import HandS.Codes
import KE.SortKeyed
import KE.KTupSum
import KE.DataAny
import KE.GoesEnumKw
import HandS.RevRange
import HandS.Strs
import KE.KDictKeyed
import PyProof.Rows.TupTab
import HandS.DictComp
import HandS.HotCalls
import HandS.FStr
import HandS.Text
import PySem.Challenge.RW_wirebeats_k12_other_texts_refused
set_option Elab.async false
set_option linter.all false
set_option maxRecDepth 100000
set_option maxHeartbeats 4000000
/-! Wb, part 0: defs that are called where no repr is under way (FnG), their rule, their call, the law's head. -/
namespace Wb
open PySem PySem.Spec PyProof.Rows L2
/-- a def's promise, where no guard is under way -/
structure FnG (P : Program) (w : World) (K : PySem.W.Frag) (mg : Str → Option Value) (base : Heap) (k : Nat) (f : Addr) (fd : FuncData) (ps : List Str) (sp : Sp) : Prop where
  len : ∀ vs H Q E, sp vs H Q E → vs.length = ps.length
  go : ∀ (A : Around) (outer : List Env) (s : Shared) (H : Hp) (args : Args) (us : List Value) (vs : List V) (Q : VK) (E : XK),
    Room k A → A.guards = some [] → Env0 P w K mg base A outer s H →
    BindsTo s fd args (ps.zip us) → Vals vs us → sp vs H Q E →
    codeAny (model P w) A (.call (.ref f) args) (CR (L2.CX P w) outer P w H s Q E) s
section
variable {P : Program} {w : World} {K : PySem.W.Frag} {mg : Str → Option Value} {base : Heap}
theorem FnG.mono {j k : Nat} {f : Addr} {fd : FuncData} {ps : List Str} {sp : Sp} (F : FnG P w K mg base j f fd ps sp) (h : j ≤ k) :
    FnG P w K mg base k f fd ps sp :=
  ⟨F.len, fun A o s H a us vs Q E hr hg => F.go A o s H a us vs Q E (hr.mono h) hg⟩
theorem FnG.imp {k : Nat} {f : Addr} {fd : FuncData} {ps : List Str} {sp sp' : Sp} (F : FnG P w K mg base k f fd ps sp)
    (h : ∀ vs H Q E, sp' vs H Q E → sp vs H Q E) : FnG P w K mg base k f fd ps sp' :=
  ⟨fun vs H Q E q => F.len vs H Q E (h _ _ _ _ q), fun A o s H a us vs Q E hr hg he hb hv hs => F.go A o s H a us vs Q E hr hg he hb hv (h _ _ _ _ hs)⟩
/-- the context of a def's body -/
abbrev bodyX (P : Program) (w : World) (K : PySem.W.Frag) (mg : Str → Option Value) (base : Heap) (N : List Str) (qual : Str) (st : Stmt) (f : Addr) (cdv : Value) (A : Around) (outer : List Env) (s : Shared) (H : Hp) (E : XK) : Cx :=
  cxOf (L2.CX P w) P w K mg base N qual (defScope st) f cdv A outer s H E
/-- the rule of a def -/
theorem FnG.ofE {x qual : Str} {st : Stmt} {f : Addr} {fd : FuncData} {N ps : List Str} {k : Nat} {sp : Sp} (F : Fun K x qual st f fd) (S : FnScope N ps (defScope st))
    (len : ∀ vs H Q E, sp vs H Q E → vs.length = ps.length)
    (hbody : ∀ (cdv : Value) (A : Around) (outer : List Env) (s : Shared) (H : Hp) (vs : List V) (Q : VK) (E : XK), fd.code = cdv →
      Room k (A.deeper (envOfC qual (defScope st) s.heap.objs.size f cdv)) → A.guards = some [] → sp vs H Q E →
      ∃ t, PSs (bodyX P w K mg base N qual st f cdv A outer s H E) (defBody st) t ∧ t { nx := fun _ H' => Q .non H', rt := Q } (start N vs) H) :
    FnG P w K mg base (k + 1) f fd ps sp := by
  obtain ⟨oc, od, kV, doc, pm, an, cdv, ct, osl, rfl, lk, hcd⟩ := F.ex
  constructor
  · exact len
  intro A outer s H args us vs Q E room noG e0 hbind rvs hsp
  have lenV := len vs H Q E hsp
  have hK : K.In s.heap := e0.mod.kin.keeps (fun b o z => (e0.bs b o z).1)
  have noLim : s.heap.NoLimit := e0.mod.nolimit.keeps (fun b o z => (e0.bs b o z).1)
  have kinds : ∀ y ∈ ps.zip us, (defScope st).names.lookup y.1 = some .local ∨
      ((defScope st).names.lookup y.1 = some .cell ∧ ((cellsFrom (s.heap.objs.size + 1) (defScope st).names []).lookup y.1).isSome = true) := by
    rintro ⟨n, v⟩ hy
    have hn := (List.of_mem_zip hy).1
    cases S.par n hn with
    | inl q => exact Or.inl q
    | inr q => exact Or.inr ⟨q, PySem.W.cellsFrom_some _ _ _ (Or.inl q)⟩
  apply codeAny_call_function room.depth (hK _ _ lk) rfl S.co S.gen rfl (PySem.W.codeRec_of hK hcd)
  apply hbind
  apply wpAny_newFunctionEnv_cells S.kind kinds
  intro env henv s1 born
  subst henv
  refine ⟨noLim.keeps born.toInCall.keep, codeAny_func ?_⟩
  obtain ⟨t, ht, hq⟩ := hbody cdv A outer s H vs Q E rfl (room.deeper _) noG hsp
  have I0 := inv_start (CX := L2.CX P w) (K := K) (E := E) S room.hd e0 lenV rvs born
  have done := ht.run [] s1 (start N vs) H _ I0 hq
  refine wpAny_mono done (fun fl s' res => ?_) (fun e s' res => res)
  cases fl with
  | next =>
    obtain ⟨σ', H', J, q⟩ := res
    exact ⟨V.non, H', J.os, J.bare, J.base, J.hok, rfl, q⟩
  | ret u =>
    obtain ⟨v, σ', H', J, rv, q⟩ := res
    exact ⟨v, H', J.os, J.bare, J.base, J.hok, rv, q⟩
  | brk => exact res.elim fun _ z => z.elim fun _ z => z.2.elim
  | cont => exact res.elim fun _ z => z.elim fun _ z => z.2.elim
theorem FnG.of {x qual : Str} {st : Stmt} {f : Addr} {fd : FuncData} {N ps : List Str} {k : Nat} {sp : Sp} (F : Fun K x qual st f fd) (S : FnScope N ps (defScope st))
    (len : ∀ vs H Q E, sp vs H Q E → vs.length = ps.length)
    (hbody : ∀ (cdv : Value) (A : Around) (outer : List Env) (s : Shared) (H : Hp) (vs : List V) (Q : VK) (E : XK),
      Room k (A.deeper (envOfC qual (defScope st) s.heap.objs.size f cdv)) → A.guards = some [] → sp vs H Q E →
      ∃ t, PSs (bodyX P w K mg base N qual st f cdv A outer s H E) (defBody st) t ∧ t { nx := fun _ H' => Q .non H', rt := Q } (start N vs) H) :
    FnG P w K mg base (k + 1) f fd ps sp :=
  FnG.ofE F S len fun cdv A outer s H vs Q E _ hr hg h => hbody cdv A outer s H vs Q E hr hg h
end
/-! ### its call -/
section
variable {X : Cx} {k : Nat} {f : Addr} {fd : FuncData} {ps : List Str} {sp : Sp} {dvs : List V} {ds : List Value} {W : WX} {x : Str} {p pos : Pos} {e : Expr} {es : List Expr} {t : TA}
/-- f(..): what leaves it is wished for at the caller's slots -/
def tCallW (sp : Sp) (dvs : List V) (W : WX) (t : TA) : TE := fun σ H Q => t σ H fun vs H1 => sp (vs ++ dvs) H1 Q (fun c d H' => W c d σ H')
theorem runG {pins : List (Addr × Obj)} {σ : L2.St} {H : Hp} {s : Shared} {Q : VK} {us : List Value} {vs : List V}
    (F : FnG X.prog X.w X.K X.mg X.base k f fd ps sp) (hr : Room k X.A) (hg : X.A.guards = some []) (hb : Binds X.K fd ps ds) (hd : Vals dvs ds) (tk : Takes X W)
    (I : Inv X pins σ H s) (r : Vals vs us) (h : sp (vs ++ dvs) H Q (fun c d H' => W c d σ H')) :
    wpAny (model X.prog X.w) X.A (call (.ref f) us) (EP X pins σ Q) X.xe s := by
  have rr : Vals (vs ++ dvs) (us ++ ds) := Vals.append r hd
  have lenA : (us ++ ds).length = ps.length := by
    rw [← rr.length]
    exact F.len _ _ _ _ h
  have bt := hb s us I.kIn lenA
  have ran := F.go X.A X.stack s H ⟨us, []⟩ (us ++ ds) (vs ++ dvs) Q _ hr hg I.env0 bt rr h
  refine wpAny_call (codeAny_mono ran fun res s' hres => ?_)
  match res, hres with
  | .ok (.ret u), z => exact I.after z
  | .ok .next, z => exact z.elim
  | .ok .brk, z => exact z.elim
  | .ok .cont, z => exact z.elim
  | .error e, z => exact tk e s' (XE.of_call I (fun c d H' q => q) z)
theorem pe_callG (F : FnG X.prog X.w X.K X.mg X.base k f fd ps sp) (hr : Room k X.A) (hgu : X.A.guards = some []) (hg : Gl X x) (hm : X.mg x = some (.ref f)) (hk : PySem.W.keepIn X.K (.ref f) = true)
    (hb : Binds X.K fd ps ds) (hd : Vals dvs ds) (tk : Takes X W) (ha : PA X (e :: es) t) (hdb : (x == ("__debug__" : Str)) = false := by decide)
    (he : starEach (e :: es) X.env = (false, eval e X.env) :: starEach es X.env := by rfl) (hpl : (backTo pos (starEach es X.env)).any (·.1) = false := by rfl) :
    PE X (.Call (.Name x p) (e :: es) [] pos) (tCallW sp dvs W t) := by
  constructor
  intro pins s σ H Q I h
  apply wpAny_Call_Name_kw
  apply ld_glob I hg hm _ hdb
  apply PySem.W.callWith_K (h₀ := X.base) I.ok.mod.kin hk _ he hpl
  refine thn (ha.run pos pins s σ H _ I h) ?_
  rintro us s1 ⟨vs, H1, I1, r, q⟩
  exact ⟨I1.kIn, runG F hr hgu hb hd tk I1 r q⟩
theorem pe_callG0 (F : FnG X.prog X.w X.K X.mg X.base k f fd ps sp) (hr : Room k X.A) (hgu : X.A.guards = some []) (hg : Gl X x) (hm : X.mg x = some (.ref f)) (hk : PySem.W.keepIn X.K (.ref f) = true)
    (hb : Binds X.K fd ps ds) (hd : Vals dvs ds) (tk : Takes X W) (hdb : (x == ("__debug__" : Str)) = false := by decide) :
    PE X (.Call (.Name x p) [] [] pos) (tCallW sp dvs W tNil) := by
  constructor
  intro pins s σ H Q I h
  apply wpAny_Call_Name_kw
  apply ld_glob I hg hm _ hdb
  exact PySem.W.callWith_K0 I.kIn hk (runG (us := []) F hr hgu hb hd tk I .nil h)
end
/-! ### the law's head -/
/-- what is tracked at the law's entry: the script alone, or nothing where it is the module's own -/
def entryH (K : PySem.W.Frag) (a : Addr) (o : Obj) (ns : List Int) : Hp := fun b =>
  if b = a ∧ K.lookup a = none then some (.frz o (.lst (ns.map V.int))) else none
theorem law_callG {P : Program} {w : World} {K : PySem.W.Frag} {mg mb : Str → Option Value} {k : Nat} {fa a : Addr} {fd : FuncData} {x : Str} {sp : Sp} {s₁ : Shared} {vs : List Value} {ns : List Int}
    (KX : K.In s₁.heap) (hns : s₁.heap.Ns mainGlobals mg) (hb : s₁.heap.Ns builtinsNs mb) (hbb : ∀ x : Str, x ≠ "__name__" → mb x = bootBuiltins x) (hlim : s₁.heap.NoLimit) (hg : s₁.gens = #[])
    (ha : s₁.heap.get? a = some { cls := .type "list", data := .seq vs.toArray }) (hi : IntsAre vs ns) (hl : ns.length ≤ sizeLine) (hr : Room k callerA)
    (F : ∀ base : Heap, K.In base → base.Ns mainGlobals mg → FnG P w K mg base k fa fd [x] sp) (hbind : ∀ (s : Shared) (u : Value), BindsTo s fd ⟨[u], []⟩ [(x, u)])
    (hsp : ∀ H : Hp, Only H → SqL K H a (ns.map V.int) → sp [.ref a] H (fun v _ => v = .bl true) fun _ _ _ => False) :
    codeAny (model P w) callerA (.call (.ref fa) ⟨[.ref a], []⟩)
      (fun r s' => r = .ok (.ret (.bool true)) ∧ OldK s₁.heap s'.heap ∧ s'.os = s₁.os ∧ AllBare s'.gens) s₁ := by
  have rv : Vals (ns.map V.int) vs := vals_ints hi
  have sz := hi.length
  obtain ⟨oS, hoS⟩ : ∃ o : Obj, o = { cls := .type "list", data := .seq vs.toArray } := ⟨_, rfl⟩
  rw [← hoS] at ha
  obtain ⟨H, hH⟩ : ∃ H : Hp, H = entryH K a oS ns := ⟨_, rfl⟩
  have atH : ∀ b u, H b = some u → b = a ∧ K.lookup a = none ∧ u = .frz oS (.lst (ns.map V.int)) := by
    intro b u z
    rw [hH] at z
    unfold entryH at z
    split at z
    · next c => exact ⟨c.1, c.2, (Option.some.inj z).symm⟩
    · cases z
  have only : Only H := by
    intro b
    cases q : H b with
    | none => exact Or.inl rfl
    | some u =>
      obtain ⟨_, _, e⟩ := atH b u q
      exact Or.inr ⟨_, _, by rw [e]⟩
  have hok : HOk P w H s₁.heap := by
    intro b u z
    obtain ⟨eb, _, eu⟩ := atH b u z
    subst eb
    subst eu
    refine ⟨ha, ?_, vs, 0, rv, ?_⟩
    · rw [List.length_map]
      exact hl
    · rw [ha, hoS]
  have seq : SqL K H a (ns.map V.int) := by
    cases hk : K.lookup a with
    | none =>
      refine Or.inl (Or.inr ⟨oS, ?_⟩)
      rw [hH]
      exact if_pos ⟨rfl, hk⟩
    | some o =>
      have e := KX a o hk
      rw [ha] at e
      cases e
      refine Or.inr ⟨_, vs.toArray, 0, hk, by rw [hoS], by rw [hoS], by rw [hoS], ?_, by simpa using rv⟩
      rw [List.size_toArray, sz]
      exact hl
  have keepB : ∀ {b : Addr} {o : Obj}, s₁.heap.get? b = some o → H b = none → (hidT s₁.heap H).get? b = some o := fun z n => hidT_get z n
  have dictFree : ∀ {b : Addr} {o : Obj} {es : Array DictEntry} {ep : Nat}, s₁.heap.get? b = some o → o.data = .dict es ep → H b = none := by
    intro b o es ep z d
    cases q : H b with
    | none => rfl
    | some u =>
      obtain ⟨eb, _, _⟩ := atH b u q
      subst eb
      rw [ha] at z
      cases z
      rw [hoS] at d
      cases d
  have nsB : ∀ {b : Addr} {m : Str → Option Value}, s₁.heap.Ns b m → (hidT s₁.heap H).Ns b m := by
    rintro b m ⟨o, es, ep, z, d, r⟩
    exact ⟨o, es, ep, keepB z (dictFree z d), d, r⟩
  have kinB : K.In (hidT s₁.heap H) := by
    intro b o z
    refine keepB (KX b o z) ?_
    cases q : H b with
    | none => rfl
    | some u =>
      obtain ⟨eb, hk, _⟩ := atH b u q
      subst eb
      rw [hk] at z
      cases z
  obtain ⟨mc, lim1, lim2⟩ := hlim
  have md : Mod K mg (hidT s₁.heap H) := ⟨kinB, nsB hns, ⟨mb, nsB hb, hbb⟩, ⟨mc, nsB lim1, lim2⟩⟩
  have e0 : Env0 P w K mg (hidT s₁.heap H) callerA [] s₁ H :=
    { frames := rfl, mod := md, bs := fun b o z => of_hidT z, bsz := Nat.le_of_eq (hidT_size _ _), funs := trivial,
      frf := (fun b z => absurd (show b ∈ ([] : List Addr) from z) (by simp)), hok := hok, bare := AllBare.of_eq hg }
  have run := (F _ kinB (nsB hns)).go callerA [] s₁ H ⟨[.ref a], []⟩ [.ref a] [.ref a] _ _ hr rfl e0 (hbind s₁ (.ref a)) (.cons rfl .nil) (hsp H only seq)
  refine codeAny_mono run fun r s' h => ?_
  match r, h with
  | .error e, z => obtain ⟨_, _, _, _, _, _, _, _, _, _, _, _, q⟩ := z; exact q.elim
  | .ok .next, z => exact z.elim
  | .ok .brk, z => exact z.elim
  | .ok .cont, z => exact z.elim
  | .ok (.ret u), z =>
    obtain ⟨v, H', os, bare, un, hok', rvu, q⟩ := z
    have ev : v = .bl true := q
    subst ev
    have eu : u = Value.bool true := rvu
    subst eu
    refine ⟨rfl, OldK.of_keep (fun b o zb => ?_), os, bare⟩
    cases qb : H b with
    | none => exact un.keep b o zb qb (by simp [frs]) (by simp)
    | some u =>
      obtain ⟨eb, _, eu⟩ := atH b u qb
      subst eb
      subst eu
      obtain ⟨e1, _⟩ := hok _ _ qb
      obtain ⟨e2, _⟩ := hok' _ _ (un.frzs _ _ _ qb)
      rw [zb] at e1
      cases e1
      exact e2
/-- what k_head leaves, from the law's promise -/
theorem walkG {l : PySem.W.OpenLaw} {n k : Nat} {q : Program} {loose : List Str} {XP : (Str → Option Value) → Heap → Prop} {YP : World → Heap → Prop} {d : DefRec} {K : Params → PySem.W.Frag} {sp : World → Sp} {x : Str}
    (hn : l.most = some n) (hn2 : n ≤ sizeLine) (hdf : d.params.defaults = []) (hr : Room k callerA)
    (hY : ∀ (w : World) (h : Heap), YP w h → (K w.params).In h)
    (F : ∀ (w : World) (mg : Str → Option Value) (fa : Addr) (h : Heap), (K w.params).In h → h.Ns mainGlobals mg → mg d.name = some (.ref fa) →
      ∃ fd : FuncData, (∀ (s : Shared) (u : Value), BindsTo s fd ⟨[u], []⟩ [(x, u)]) ∧
        ∀ base : Heap, (K w.params).In base → base.Ns mainGlobals mg → FnG l.prog w (K w.params) mg base k fa fd [x] (sp w))
    (hsp : ∀ (w : World) (H : Hp) (a : Addr) (ns : List Int), ns.length ≤ n → Only H → SqL (K w.params) H a (ns.map V.int) → sp w [.ref a] H (fun v _ => v = .bl true) fun _ _ _ => False) :
    PySem.W.WalkO q loose XP YP l.row.toRowW d [] (fun f vs => PySem.call f vs) := by
  apply Att.attach_call hn hdf
  intro w s₀ s₁ mg mb fa o pm cd doc a vs ns G Y ho hd hcd hmg hobj hints hlen hg
  have KX := hY w _ Y
  obtain ⟨fd, hb, hF⟩ := F w mg fa _ KX G.T.g hmg
  exact law_callG KX G.T.g G.T.b G.T.builtins G.T.nolimit hg hobj hints (Nat.le_trans hlen hn2) hr hF hb (fun H hO hS => hsp w H a ns hlen hO hS)
end Wb
set_option Elab.async false
set_option linter.all false
set_option maxRecDepth 100000
set_option maxHeartbeats 4000000
/-! Wb, before part 1: a tuple is made, and what lies there is told (no dict), so that its methods can be called. -/
namespace L2
open PySem PySem.Spec PyProof.Rows
section
variable {X : Cx} {pins : List (Addr × Obj)} {σ : St} {H : Hp} {s : Shared} {Q : VK} {xs : List V} {its : List Value}
theorem sqF {K : PySem.W.Frag} {a : Addr} {o : Obj} (h : H a = some (.frz o (.tup xs))) : SqT K H a xs := .inl (.inr ⟨o, h⟩)
/-- a wish for a new tuple -/
abbrev QT (Q : VK) (H : Hp) (xs : List V) : Prop := ∀ (p : Addr) (o : Obj), H p = none → o.dict = none → Q (.ref p) (upd H p (.frz o (.tup xs)))
theorem new_tup (I : Inv X pins σ H s) (r : Vals xs its) (hz : xs.length ≤ sizeLine) (q : QT Q H xs) : EP X pins σ Q (.ref s.heap.objs.size) { s with heap := s.heap.push { cls := .type "tuple", data := .seq its.toArray } } :=
  ⟨.ref s.heap.objs.size, _, I.laid (t' := s.toks) (o := .frz _ (.tup xs)) (fun b ob q => Heap.get?_push_of_some _ q) (Nat.le_refl _) ⟨Heap.get?_push_size _ rfl, hz, _, r, IsTup.new _ _⟩, rfl, q _ _ (I.hok.fresh (Nat.le_refl _)) rfl⟩
end
/-- a tuple is written -/
def tTupS (t : TA) : TE := fun σ H Q => t σ H fun xs H1 => xs.length ≤ sizeLine ∧ QT Q H1 xs
theorem pe_tupS {X : Cx} {es : List Expr} {t : TA} {x1 pos} (h : PA X es t) : PE X (.Tuple es x1 pos) (tTupS t) :=
  ⟨fun pins s σ H Q I hq => wpAny_Tuple_spliced (thn (h.run pos pins s σ H _ I hq) fun us s1 ⟨xs, H1, I1, r, z, q⟩ => ⟨by rw [← r.length]; exact z, new_tup I1 r z q⟩)⟩
/-- tuple(xs) -/
theorem call_tuple_S {X : Cx} : CallR X (.type "tuple") (fun xs H Q => ∃ p ys, xs = [.ref p] ∧ ((SqL X.K H p ys ∧ QT Q H ys) ∨ (SqT X.K H p ys ∧ Q (.ref p) H))) := by
  intro pins s σ H xs us Q I r h
  obtain ⟨p, ys, rfl, ⟨hq, q⟩ | ⟨hq, q⟩⟩ := h
  · obtain ⟨u, rfl, rx⟩ := vals1 r
    cases rx
    obtain ⟨its, r', pl, hz⟩ := I.list hq
    have hl := r'.length
    exact call_tuple_list pl.isList (fun h' kp => new_tup (I.kept (t' := s.toks) kp) r' hz q) (by simp only [List.size_toArray] <;> omega)
  · exact call_tuple_of pins s σ H _ us Q I r ⟨p, ys, rfl, .inr ⟨hq, q⟩⟩
/-- t[lo:hi] -/
def rSlST (K : PySem.W.Frag) : V → Option Int → Option Int → Hp → VK → Prop := fun x lo hi H Q => ∃ a xs, x = .ref a ∧ SqT K H a xs ∧
  (HT.sIx xs.length 0 lo = 0 ∧ HT.sIx xs.length xs.length hi = xs.length → Q (.ref a) H) ∧ (¬ (HT.sIx xs.length 0 lo = 0 ∧ HT.sIx xs.length xs.length hi = xs.length) → QT Q H (cutV xs lo hi))
theorem sl_tupS {X : Cx} : SlR X (rSlST X.K) := by
  intro pins s σ H x v vl vu lo hi sl Q I rx hs pl pu h
  obtain ⟨a, xs, rfl, hx, q1, q2⟩ := h
  cases rx
  obtain ⟨its, r, ht, hz⟩ := I.tuple hx
  have hlen : its.toArray.size = xs.length := by rw [List.size_toArray]; exact r.length.symm
  refine ⟨"tuple", _, PyProof.Rows.slot_tuple_getitem.lookup, ht.typeIs, ?_⟩
  by_cases hw : HT.sIx xs.length 0 lo = 0 ∧ HT.sIx xs.length xs.length hi = xs.length
  · exact getItem_tuple_whole ht hs pl pu (by rw [hlen]; exact hw) ⟨.ref a, H, I, rfl, q1 hw⟩
  · refine HT.getItem_tuple_cut ht hs pl pu (by rw [hlen]; exact hw) ?_ (by rw [hlen]; exact hz)
    rw [hlen]
    exact new_tup I ((r.drop (HT.sIx xs.length 0 lo)).take (HT.sIx xs.length xs.length hi - HT.sIx xs.length 0 lo)) (Nat.le_trans (cutV_length xs lo hi) hz) (q2 hw)
/-- t + u -/
def rCatST (K : PySem.W.Frag) : R2 := fun x y H Q => ∃ a b xs ys, x = .ref a ∧ y = .ref b ∧ SqT K H a xs ∧ SqT K H b ys ∧ xs.length + ys.length ≤ sizeLine ∧
  (xs = [] → Q (.ref b) H) ∧ (xs ≠ [] → ys = [] → Q (.ref a) H) ∧ (xs ≠ [] → ys ≠ [] → QT Q H (xs ++ ys))
theorem op_catS {X : Cx} : OpR X (binaryOp .Add) (rCatST X.K) := by
  intro pins s σ H x y v u Q I rx ry h
  obtain ⟨a, b, xs, ys, rfl, rfl, ha, hb, hz, q0, q1, q2⟩ := h
  cases rx
  cases ry
  obtain ⟨its, r1, p1, _⟩ := I.tuple ha
  obtain ⟨its2, r2, p2, _⟩ := I.tuple hb
  by_cases hx : xs = []
  · subst hx
    cases r1
    exact cat_tup0 p1 p2 ⟨.ref b, H, I, rfl, q0 rfl⟩
  · exact HT.cat_tup p1 p2 (fun z => hx (r1.nil_iff.mp z)) (fun z => ⟨.ref a, H, I, rfl, q1 hx (r2.nil_iff.mp z)⟩) (fun z => new_tup I (r1.append r2) (by rw [List.length_append]; exact hz) (q2 hx fun w => z (r2.nil_iff.mpr w)))
      (by rw [← r1.length, ← r2.length]; exact hz)
/-- t * k -/
def rRepST (K : PySem.W.Frag) : R2 := fun x y H Q => ∃ l k xs, x = .ref l ∧ y = .int k ∧ SqT K H l xs ∧ xs ≠ [] ∧ 2 ≤ k ∧ k ≤ 1000 ∧ xs.length ≤ 1000 ∧ QT Q H (List.replicate k.toNat xs).flatten
theorem op_repST {X : Cx} : OpR X (binaryOp .Mult) (rRepST X.K) := by
  intro pins s σ H x y v u Q I rx ry h
  obtain ⟨l, k, xs, rfl, rfl, hT, hne, h1, h2, hz, q⟩ := h
  cases rx
  obtain ⟨t, rfl⟩ := ry
  obtain ⟨its, r, ⟨⟨cls, dd, data, sl⟩, ho, hc, n, hd⟩, hs⟩ := I.tuple hT
  simp only at hc hd
  subst hc hd
  have hle : its.length = xs.length := r.length.symm
  have hi : its.toArray.isEmpty = false := by
    cases r with
    | nil => exact absurd rfl hne
    | cons _ _ => rfl
  have hsz : its.toArray.size = xs.length := by rw [List.size_toArray, hle]
  have big : ((its.toArray.size : Nat) : Int) * k ≤ 1000000 := by
    rw [hsz]
    have a1 : ((xs.length : Nat) : Int) * k ≤ 1000 * k := Int.mul_le_mul_of_nonneg_right (by omega) (by omega)
    omega
  have a1 : k.toNat * xs.length ≤ 1000 * 1000 := Nat.mul_le_mul (by omega) hz
  have fl : (List.replicate k.toNat its).flatten.length ≤ sizeLine := by
    rw [PyProof.Rows.lm_len_rep_flat, hle, sizeLine_eq]
    omega
  have c0 : (decide (k < -(2 ^ 63)) || decide (k ≥ 2 ^ 63)) = false := by
    rw [decide_eq_false (by omega), decide_eq_false (by omega)] <;> rfl
  have c1 : (its.toArray.isEmpty || k == 1) = false := by
    rw [hi, Bool.false_or]
    exact beq_eq_false_iff_ne.mpr (by omega)
  have c2 : (decide (k ≤ 0) || its.toArray.isEmpty) = false := by
    rw [hi, Bool.or_false]
    exact decide_eq_false (by omega)
  have c4 : Builtin.Tuple.tupleTooMany (((its.toArray.size : Nat) : Int) * k) = false := by
    unfold Builtin.Tuple.tupleTooMany
    rw [sizeLine_eq]
    exact decide_eq_false (by omega)
  refine wpAny_binaryOp_repeat_ref (T := "tuple") (U := "int") (by decide) ⟨_, ho, rfl⟩ (fun s' => typeIs_int s' k t) noFill_tuple_mul F.fills_int_mul F.slot_int_rmul repeat_tuple F.slot_int_index.lookup
    (call_meets F.slot_int_rmul (typeIs_int s k t) F.entry_int_rmul (F.args_int_rmul_2 _ _) (int_rmul_tuple k t l its.toArray n dd sl)
      ⟨ho, rfl, ⟨_, ho, rfl⟩, call_meets F.slot_tuple_mul ⟨_, ho, rfl⟩ F.entry_tuple_mul (F.args_tuple_mul_2 _ _) (tuple_mulW l its.toArray n dd sl k t c0 c1 c2 (by omega) c4 (by rw [size_rep, List.size_toArray]; exact fl)) ⟨ho, ?_⟩⟩)
  rw [size_rep]
  exact new_tup I (r.rep k.toNat) (by rw [PyProof.Rows.lm_len_rep_flat, sizeLine_eq]; omega) q
end L2
set_option Elab.async false
set_option linter.all false
set_option maxRecDepth 100000
set_option maxHeartbeats 4000000
/-! Wb, part 1: data, the tree of what a program does, what stands for what. -/
namespace Wb
open PySem PySem.Spec PyProof.Rows L2
abbrev D := PyData
/-! ### values that stand for data -/
def keyD : Key → D
  | .inl i => .int i
  | .inr x => .str x
mutual
inductive Has (H : Hp) : V → D → Prop
  | non : Has H .non .none
  | bl (b : Bool) : Has H (.bl b) (.bool b)
  | int (i : Int) : Has H (.int i) (.int i)
  | str (x : Str) : Has H (.str x) (.str x)
  | lst {a : Addr} {xs : List V} {ds : List D} : H a = some (.lst xs) → HasL H xs ds → Has H (.ref a) (.list ds)
  | tup {a : Addr} {o : Obj} {xs : List V} {ds : List D} : H a = some (.frz o (.tup xs)) → o.dict = none → HasL H xs ds → Has H (.ref a) (.tuple ds)
  | dct {a : Addr} {kvs : List (Key × V)} {ds : List (D × D)} : H a = some (.dK kvs) → HasK H kvs ds → Has H (.ref a) (.dict ds)
inductive HasL (H : Hp) : List V → List D → Prop
  | nil : HasL H [] []
  | cons {v : V} {vs : List V} {d : D} {ds : List D} : Has H v d → HasL H vs ds → HasL H (v :: vs) (d :: ds)
inductive HasK (H : Hp) : List (Key × V) → List (D × D) → Prop
  | nil : HasK H [] []
  | cons {k : Key} {v : V} {vs : List (Key × V)} {d : D} {ds : List (D × D)} : Has H v d → HasK H vs ds → HasK H ((k, v) :: vs) ((keyD k, d) :: ds)
end
mutual
theorem Has.mono {H H' : Hp} (e : Same H H') : ∀ {v : V} {d : D}, Has H v d → Has H' v d
  | _, _, .non => .non
  | _, _, .bl b => .bl b
  | _, _, .int i => .int i
  | _, _, .str x => .str x
  | _, _, .lst h r => .lst (e _ _ h) (HasL.mono e r)
  | _, _, .tup h hd r => .tup (e _ _ h) hd (HasL.mono e r)
  | _, _, .dct h r => .dct (e _ _ h) (HasK.mono e r)
theorem HasL.mono {H H' : Hp} (e : Same H H') : ∀ {v : List V} {d : List D}, HasL H v d → HasL H' v d
  | _, _, .nil => .nil
  | _, _, .cons h r => .cons (Has.mono e h) (HasL.mono e r)
theorem HasK.mono {H H' : Hp} (e : Same H H') : ∀ {v : List (Key × V)} {d : List (D × D)}, HasK H v d → HasK H' v d
  | _, _, .nil => .nil
  | _, _, .cons h r => .cons (Has.mono e h) (HasK.mono e r)
end
theorem HasL.length {H : Hp} : ∀ {vs : List V} {ds : List D}, HasL H vs ds → vs.length = ds.length
  | _, _, .nil => rfl
  | _, _, .cons _ r => by simp [HasL.length r]
theorem HasL.get {H : Hp} : ∀ {vs : List V} {ds : List D} {i : Nat} {v : V}, HasL H vs ds → vs[i]? = some v → ∃ d, ds[i]? = some d ∧ Has H v d
  | _, _, _, _, .nil, h => by simp at h
  | _, _, 0, _, .cons h _, e => by
    have e' := Option.some.inj e
    subst e'
    exact ⟨_, rfl, h⟩
  | _, _, i + 1, _, .cons _ r, e => by
    obtain ⟨d, h1, h2⟩ := HasL.get (i := i) r (by simpa using e)
    exact ⟨d, by simpa using h1, h2⟩
theorem HasL.getD {H : Hp} : ∀ {vs : List V} {ds : List D} {i : Nat} {d : D}, HasL H vs ds → ds[i]? = some d → ∃ v, vs[i]? = some v ∧ Has H v d
  | _, _, _, _, .nil, h => by simp at h
  | _, _, 0, _, .cons h _, e => by
    have e' := Option.some.inj e
    subst e'
    exact ⟨_, rfl, h⟩
  | _, _, i + 1, _, .cons _ r, e => by
    obtain ⟨d, h1, h2⟩ := HasL.getD (i := i) r (by simpa using e)
    exact ⟨d, by simpa using h1, h2⟩
theorem HasL.append {H : Hp} : ∀ {vs ws : List V} {ds es : List D}, HasL H vs ds → HasL H ws es → HasL H (vs ++ ws) (ds ++ es)
  | _, _, _, _, .nil, q => q
  | _, _, _, _, .cons h r, q => .cons h (HasL.append r q)
theorem HasL.take {H : Hp} : ∀ {vs : List V} {ds : List D} (n : Nat), HasL H vs ds → HasL H (vs.take n) (ds.take n)
  | _, _, 0, _ => .nil
  | _, _, _ + 1, .nil => .nil
  | _, _, n + 1, .cons h r => .cons h (HasL.take n r)
theorem HasL.drop {H : Hp} : ∀ {vs : List V} {ds : List D} (n : Nat), HasL H vs ds → HasL H (vs.drop n) (ds.drop n)
  | _, _, 0, r => r
  | _, _, _ + 1, .nil => .nil
  | _, _, n + 1, .cons _ r => HasL.drop n r
theorem HasL.set {H : Hp} {v : V} {d : D} (q : Has H v d) : ∀ {vs : List V} {ds : List D} (i : Nat), HasL H vs ds → HasL H (vs.set i v) (ds.set i d)
  | _, _, _, .nil => .nil
  | _, _, 0, .cons _ r => .cons q r
  | _, _, i + 1, .cons h r => .cons h (HasL.set q i r)
/-! ### what a program does: results, draws, errors -/
/-- an error: the name of its class, its fields -/
structure Exn where
  cls : Str
  fs : List (Str × D)
inductive T (α : Type) where
  | ret (a : α)
  | draw (m : Int) (k : Int → T α)
  | exc (x : Exn)
  | bad
def T.bind {α β : Type} : T α → (α → T β) → T β
  | .ret a, f => f a
  | .draw m k, f => .draw m fun i => (k i).bind f
  | .exc x, _ => .exc x
  | .bad, _ => .bad
def T.wp {α : Type} : T α → (α → Prop) → (Exn → Prop) → Prop
  | .ret a, P, _ => P a
  | .draw m k, P, E => 0 < m ∧ m < 10000000000000000000000000000000000000000 ∧ ∀ i, 0 ≤ i → i < m → (k i).wp P E
  | .exc x, _, E => E x
  | .bad, _, _ => False
theorem T.wp_bind {α β : Type} {P : β → Prop} {E : Exn → Prop} : ∀ (t : T α) (f : α → T β), (t.bind f).wp P E ↔ t.wp (fun a => (f a).wp P E) E
  | .ret _, _ => Iff.rfl
  | .draw _ k, f => ⟨fun h => ⟨h.1, h.2.1, fun i a b => (T.wp_bind (k i) f).mp (h.2.2 i a b)⟩, fun h => ⟨h.1, h.2.1, fun i a b => (T.wp_bind (k i) f).mpr (h.2.2 i a b)⟩⟩
  | .exc _, _ => Iff.rfl
  | .bad, _ => Iff.rfl
theorem T.wp_mono {α : Type} {P P' : α → Prop} {E E' : Exn → Prop} (hp : ∀ a, P a → P' a) (he : ∀ x, E x → E' x) : ∀ (t : T α), t.wp P E → t.wp P' E'
  | .ret _, h => hp _ h
  | .draw _ k, h => ⟨h.1, h.2.1, fun i a b => T.wp_mono hp he (k i) (h.2.2 i a b)⟩
  | .exc _, h => he _ h
  | .bad, h => h
@[simp] theorem T.ret_bind {α β : Type} (a : α) (f : α → T β) : (T.ret a).bind f = f a := rfl
@[simp] theorem T.exc_bind {α β : Type} (x : Exn) (f : α → T β) : (T.exc x : T α).bind f = .exc x := rfl
@[simp] theorem T.bad_bind {α β : Type} (f : α → T β) : (T.bad : T α).bind f = .bad := rfl
@[simp] theorem T.draw_bind {α β : Type} (m : Int) (k : Int → T α) (f : α → T β) : (T.draw m k).bind f = .draw m fun i => (k i).bind f := rfl
theorem T.bind_assoc {α β γ : Type} (f : α → T β) (g : β → T γ) : ∀ (t : T α), (t.bind f).bind g = t.bind fun a => (f a).bind g
  | .ret _ => rfl
  | .draw _ k => by
    show T.draw _ _ = T.draw _ _
    congr 1
    funext i
    exact T.bind_assoc f g (k i)
  | .exc _ => rfl
  | .bad => rfl
@[simp] theorem T.bind_ret {α : Type} : ∀ (t : T α), t.bind T.ret = t
  | .ret _ => rfl
  | .draw _ k => by
    show T.draw _ _ = T.draw _ _
    congr 1
    funext i
    exact T.bind_ret (k i)
  | .exc _ => rfl
  | .bad => rfl
/-- it is no code object -/
def NoC (u : HO) : Prop := ∀ c q, u ≠ LamX.CodeO c q
theorem ncLst {xs : List V} : NoC (.lst xs) := fun c q z => by
  unfold LamX.CodeO at z
  cases z
theorem ncDK {xs : List (Key × V)} : NoC (.dK xs) := fun c q z => by
  unfold LamX.CodeO at z
  cases z
theorem ncS {H : Hp} {p : Addr} {u : HO} (h : H p = some u) (n : NoC u) : ∀ c q, H p ≠ some (LamX.CodeO c q) := fun c q z => by
  rw [h] at z
  exact n c q (Option.some.inj z)
/-! ### the source of the draws -/
structure Box where
  v : V
  tabs : List (Addr × Str)
  S : Addr → Prop
  ok : Hp → Prop
  here : ∀ H a, ok H → S a → ∃ o, H a = some o
  stay : ∀ H H', ok H → (∀ a o, (S a ∨ ∃ c q, o = LamX.CodeO c q) → H a = some o → H' a = some o) → ok H'
/-- a list of three numbers -/
def springOk (p : Addr) (H : Hp) : Prop := ∃ x y z : Int, H p = some (.lst [.int x, .int y, .int z]) ∧ 0 ≤ x ∧ 0 ≤ y ∧ y < 2305843009213693951 ∧ 0 ≤ z
def springBox (p : Addr) : Box := ⟨.ref p, [], fun a => a = p, springOk p, fun H a ⟨_, _, _, h, _⟩ e => ⟨_, (congrArg H e).trans h⟩, fun H H' ⟨x, y, z, h, r⟩ k => ⟨x, y, z, k p _ (.inl rfl) h, r⟩⟩
/-- a dict of two lists and a number -/
def dictOk (b gr sm : Addr) (H : Hp) : Prop := ∃ (gs ss : List Int) (t : Int), H b = some (.dK [(.inr "great", .ref gr), (.inr "small", .ref sm), (.inr "turn", .int t)]) ∧ H gr = some (.lst (gs.map V.int)) ∧ H sm = some (.lst (ss.map V.int)) ∧
  (∀ x ∈ gs, 0 ≤ x) ∧ (∀ x ∈ ss, 0 ≤ x ∧ x < 1000000000000000000) ∧ ss ≠ [] ∧ 0 ≤ t ∧ gs.length ≤ 64 ∧ ss.length ≤ 64 ∧ gr ≠ sm
def dictBox (b gr sm : Addr) : Box := ⟨.ref b, [], fun a => a = b ∨ a = gr ∨ a = sm, dictOk b gr sm, fun H a ⟨_, _, _, h1, h2, h3, _⟩ e => by
    rcases e with e | e | e
    · exact ⟨_, (congrArg H e).trans h1⟩
    · exact ⟨_, (congrArg H e).trans h2⟩
    · exact ⟨_, (congrArg H e).trans h3⟩, fun H H' ⟨gs, ss, t, h1, h2, h3, r⟩ k => ⟨gs, ss, t, k b _ (.inl (.inl rfl)) h1, k gr _ (.inl (.inr (.inl rfl))) h2, k sm _ (.inl (.inr (.inr rfl))) h3, r⟩⟩
/-- a list of a list of numbers and of two numbers -/
def millOk (p g : Addr) (H : Hp) : Prop := ∃ (gs : List Int) (y z : Int), H p = some (.lst [.ref g, .int y, .int z]) ∧ H g = some (.lst (gs.map V.int)) ∧ (∀ x ∈ gs, 0 ≤ x) ∧ 0 ≤ y ∧ y < 2147483563 ∧ 0 ≤ z ∧ gs.length ≤ 64 ∧ p ≠ g
def millBox (p g : Addr) : Box := ⟨.ref p, [], fun a => a = p ∨ a = g, millOk p g, fun H a ⟨_, _, _, h1, h2, _⟩ e => by
    rcases e with e | e
    · exact ⟨_, (congrArg H e).trans h1⟩
    · exact ⟨_, (congrArg H e).trans h2⟩, fun H H' ⟨gs, y, z, h1, h2, r⟩ k => ⟨gs, y, z, k p _ (.inl (.inl rfl)) h1, k g _ (.inl (.inr rfl)) h2, r⟩⟩
/-- beside it the tables of code objects -/
def tabBox (β : Box) (T : List (Addr × Str)) : Box := ⟨β.v, T, fun a => β.S a ∨ ∃ p ∈ T, a = p.1, fun H => β.ok H ∧ LamX.Tabs T H, fun H a h e => by
    rcases e with e | ⟨p, hp, rfl⟩
    · exact β.here H a h.1 e
    · obtain ⟨ps, e, _⟩ := h.2 p hp
      exact ⟨_, e⟩, fun H H' h k => ⟨β.stay H H' h.1 fun a o e => k a o (e.imp .inl id), fun p hp => by
    obtain ⟨ps, e1, e2, e3⟩ := h.2 p hp
    refine ⟨ps, k _ _ (.inl (.inr ⟨p, hp, rfl⟩)) e1, e2, fun pos cv hc => ?_⟩
    obtain ⟨c, z1, z2⟩ := e3 pos cv hc
    exact ⟨c, z1, k _ _ (.inr ⟨_, _, rfl⟩) z2⟩⟩⟩
/-- the value that the box is handed on by -/
def boxIs : Bool → Box → V → Prop
  | false, β, v => ∃ p T, β = tabBox (springBox p) T ∧ v = .ref p
  | true, β, v => ∃ b gr sm T, β = tabBox (dictBox b gr sm) T ∧ v = .ref b
def milIs (β : Box) (v : V) : Prop := ∃ p g T, β = tabBox (millBox p g) T ∧ v = .ref p
/-- the known heap grows, what is private stays so, only the box's own may change -/
structure Stp (β : Box) (H0 H H0' H' : Hp) : Prop where
  grow : Same H0 H0'
  ext : Same H0' H'
  ok : β.ok H'
  boxf : ∀ a, β.S a → H0' a = none
  priv : ∀ p o, H p = some o → H0 p = none → H0' p = none ∧ (¬ β.S p → H' p = some o)
theorem Stp.refl {β : Box} {H0 H : Hp} (e : Same H0 H) (ok : β.ok H) (bf : ∀ a, β.S a → H0 a = none) : Stp β H0 H H0 H :=
  ⟨fun _ _ h => h, e, ok, bf, fun _ _ h n => ⟨n, fun _ => h⟩⟩
theorem Stp.trans {β : Box} {H0 H H0' H' H0'' H'' : Hp} (a : Stp β H0 H H0' H') (b : Stp β H0' H' H0'' H'') : Stp β H0 H H0'' H'' := by
  refine ⟨fun p o h => b.grow p o (a.grow p o h), b.ext, b.ok, b.boxf, fun p o h n => ?_⟩
  obtain ⟨n1, k1⟩ := a.priv p o h n
  by_cases hs : β.S p
  · exact ⟨b.boxf p hs, fun z => absurd hs z⟩
  · obtain ⟨n2, k2⟩ := b.priv p o (k1 hs) n1
    exact ⟨n2, fun _ => k2 hs⟩
/-- a new object, known from now on -/
theorem Stp.new {β : Box} {H0 H : Hp} {p : Addr} {o : HO} (e : Same H0 H) (ok : β.ok H) (bf : ∀ a, β.S a → H0 a = none) (hp : H p = none) : Stp β H0 H (upd H0 p o) (upd H p o) := by
  have hp0 : H0 p = none := e.free hp
  have nS : ¬ β.S p := fun z => by
    obtain ⟨u, q⟩ := β.here H p ok z
    rw [hp] at q
    cases q
  refine ⟨fun b u h => ?_, fun b u h => ?_, β.stay H _ ok (fun a u _ h => ?_), fun a h => ?_, fun b u h n => ?_⟩
  · rw [upd_ne (ne_of_none h hp0)]
    exact h
  · by_cases hb : b = p
    · subst hb
      rw [upd_same] at h ⊢
      exact h
    · rw [upd_ne hb] at h ⊢
      exact e b u h
  · rw [upd_ne (ne_of_none h hp)]
    exact h
  · have na : a ≠ p := by
      intro z
      subst z
      exact nS h
    rw [upd_ne na]
    exact bf a h
  · have hb : b ≠ p := ne_of_none h hp
    rw [upd_ne hb, upd_ne hb]
    exact ⟨n, fun _ => h⟩
/-- a new object, not known -/
theorem Stp.junk {β : Box} {H0 H : Hp} {p : Addr} {o : HO} (e : Same H0 H) (ok : β.ok H) (bf : ∀ a, β.S a → H0 a = none) (hp : H p = none) : Stp β H0 H H0 (upd H p o) :=
  ⟨fun _ _ h => h, fun b u h => by
    have h' := e b u h
    rw [upd_ne (ne_of_none h' hp)]
    exact h', β.stay H _ ok (fun a u _ h => by
    rw [upd_ne (ne_of_none h hp)]
    exact h), bf, fun b u h n => ⟨n, fun _ => by
    rw [upd_ne (ne_of_none h hp)]
    exact h⟩⟩
/-! ### lists of one's own, one for each row -/
inductive Rws (β : Box) (H0 H : Hp) : List Addr → List (List D) → Prop
  | nil : Rws β H0 H [] []
  | cons {q : Addr} {qs : List Addr} {vs : List V} {row : List D} {rows : List (List D)} : H q = some (.lst vs) → H0 q = none → ¬ β.S q → HasL H0 vs row → q ∉ qs → Rws β H0 H qs rows → Rws β H0 H (q :: qs) (row :: rows)
theorem rws_some {β : Box} {H0 H : Hp} : ∀ {qs : List Addr} {rows : List (List D)}, Rws β H0 H qs rows → ∀ q ∈ qs, (∃ vs, H q = some (.lst vs)) ∧ H0 q = none ∧ ¬ β.S q
  | _, _, .cons h n ns hl hq r, q, hm => by
    rcases List.mem_cons.mp hm with rfl | hm
    · exact ⟨⟨_, h⟩, n, ns⟩
    · exact rws_some r q hm
theorem rws_keep {β : Box} {H0 H H0' H' : Hp} (e : Same H0 H0') : ∀ {qs : List Addr} {rows : List (List D)}, Rws β H0 H qs rows → (∀ q ∈ qs, H0' q = none) → (∀ q ∈ qs, ∀ u, H q = some u → H' q = some u) → Rws β H0' H' qs rows
  | _, _, .nil, _, _ => .nil
  | _, _, .cons h n ns hl hq r, n', k => .cons (k _ (List.mem_cons_self ..) _ h) (n' _ (List.mem_cons_self ..)) ns (hl.mono e) hq (rws_keep e r (fun q m => n' q (List.mem_cons_of_mem _ m)) fun q m => k q (List.mem_cons_of_mem _ m))
/-! ### slots -/
/-- other things of one's own: a list of lists, a dict -/
inductive Oth where
  | rows (rows : List (List D))
  | dct (kvs : List (D × D))
  | dtp (kvs : List (D × D))
/-- what addresses it holds -/
def Oth.foot (H : Hp) : Oth → Option V → Addr → Prop
  | .rows _, o, a => ∃ p, o = some (.ref p) ∧ (a = p ∨ ∃ vs, H p = some (.lst vs) ∧ V.ref a ∈ vs)
  | .dct _, o, a => o = some (.ref a)
  | .dtp _, o, a => o = some (.ref a)
/-- a dict whose keys are tuples: the key, where it stands, what stands under it -/
def DctN (p : Addr) (xs : List (NestedKey × Addr × Value)) : HO := .ext fun h => ∃ (w : World) (o : Obj) (es : Array DictEntry) (ep : Nat), h.get? p = some o ∧ o.ExactDict ∧ o.data = .dict es ep ∧
  es.toList = xs.map (fun x => ⟨x.1.hash w, .ref x.2.1, x.2.2⟩) ∧ (xs.map (·.1)).Nodup
theorem ncDctN {p : Addr} {xs : List (NestedKey × Addr × Value)} : NoC (DctN p xs) := fun c q z => by
  unfold DctN LamX.CodeO at z
  injection z with z
  let o : Obj := { cls := .none, data := .fields #[.none, .str q 0] }
  let h : Heap := { objs := Array.replicate (c + p + 1) o }
  have at' : ∀ a, a < c + p + 1 → h.get? a = some o := fun a ha => by
    have e : h.objs[a]? = some o := by
      show (Array.replicate (c + p + 1) o)[a]? = some o
      rw [Array.getElem?_replicate, if_pos ha]
    unfold Heap.get?
    rw [e]
  have zc := congrFun z h
  have hc : ∃ (oc : Obj) (vs : Array Value) (t : Tok), h.get? c = some oc ∧ oc.data = .fields vs ∧ vs[1]? = some (.str q t) := ⟨o, _, 0, at' c (Nat.lt_succ_of_le (Nat.le_add_right c p)), rfl, rfl⟩
  rw [← zc] at hc
  obtain ⟨w, o', es, ep, h1, _, h2, _⟩ := hc
  rw [at' p (Nat.lt_succ_of_le (Nat.le_add_left p c))] at h1
  cases h1
  cases h2
/-- the key that data is: a number, or a tuple of such, to depth 3 -/
def nkL (f : D → Option NestedKey) : List D → Option (List NestedKey)
  | [] => some []
  | d :: r => match f d, nkL f r with
    | some k, some ks => some (k :: ks)
    | _, _ => none
def nkD : Nat → D → Option NestedKey
  | _, .int i => some (.num i)
  | n + 1, .tuple ks => (nkL (nkD n) ks).map .tup
  | _, _ => none
inductive HasN (H : Hp) : List (NestedKey × Addr × Value) → List (D × D) → Prop
  | nil : HasN H [] []
  | cons {k : NestedKey} {b : Addr} {u : Value} {v : V} {x d : D} {xs : List (NestedKey × Addr × Value)} {ds : List (D × D)} : nkD 3 x = some k → Has H (.ref b) x → RelV v u → Has H v d → HasN H xs ds → HasN H ((k, b, u) :: xs) ((x, d) :: ds)
theorem HasN.mono {H H' : Hp} (e : Same H H') : ∀ {xs : List (NestedKey × Addr × Value)} {ds : List (D × D)}, HasN H xs ds → HasN H' xs ds
  | _, _, .nil => .nil
  | _, _, .cons h1 h2 h3 h4 r => .cons h1 (h2.mono e) h3 (h4.mono e) (HasN.mono e r)
def OthOk (β : Box) (H0 H : Hp) : Oth → Option V → Prop
  | .rows rows, s => ∃ p qs, s = some (.ref p) ∧ H p = some (.lst (qs.map V.ref)) ∧ H0 p = none ∧ ¬ β.S p ∧ p ∉ qs ∧ Rws β H0 H qs rows
  | .dct ds, s => ∃ p kvs, s = some (.ref p) ∧ H p = some (.dK kvs) ∧ HasK H0 kvs ds ∧ H0 p = none ∧ ¬ β.S p
  | .dtp ds, s => ∃ p xs, s = some (.ref p) ∧ H p = some (DctN p xs) ∧ HasN H0 xs ds ∧ H0 p = none ∧ ¬ β.S p ∧ (p == sysModules) = false
theorem mem_refs {a : Addr} {qs : List Addr} : V.ref a ∈ qs.map V.ref ↔ a ∈ qs := by
  rw [List.mem_map]
  exact ⟨fun ⟨q, h, e⟩ => by cases e; exact h, fun h => ⟨a, h, rfl⟩⟩
theorem OthOk.has {β : Box} {H0 H : Hp} {x : Oth} {o : Option V} {a : Addr} (h : OthOk β H0 H x o) (f : x.foot H o a) : (∃ u, H a = some u ∧ NoC u) ∧ H0 a = none ∧ ¬ β.S a := by
  cases x with
  | rows rows =>
    obtain ⟨p, qs, rfl, h1, h2, h3, h4, h5⟩ := h
    obtain ⟨p', e, f⟩ := f
    cases e
    rcases f with rfl | ⟨vs, e1, hm⟩
    · exact ⟨⟨_, h1, ncLst⟩, h2, h3⟩
    · rw [h1] at e1
      cases e1
      obtain ⟨⟨ws, k1⟩, k2, k3⟩ := rws_some h5 a (mem_refs.mp hm)
      exact ⟨⟨_, k1, ncLst⟩, k2, k3⟩
  | dct ds =>
    obtain ⟨p, kvs, rfl, h1, h2, h3, h4⟩ := h
    cases f
    exact ⟨⟨_, h1, ncDK⟩, h3, h4⟩
  | dtp ds =>
    obtain ⟨p, kvs, rfl, h1, h2, h3, h4, h5⟩ := h
    cases f
    exact ⟨⟨_, h1, ncDctN⟩, h3, h4⟩
theorem OthOk.keep {β : Box} {H0 H H0' H' : Hp} {x : Oth} {o : Option V} (h : OthOk β H0 H x o) (e : Same H0 H0') (n : ∀ a, x.foot H o a → H0' a = none) (k : ∀ a u, x.foot H o a → H a = some u → H' a = some u) : OthOk β H0' H' x o := by
  cases x with
  | rows rows =>
    obtain ⟨p, qs, rfl, h1, h2, h3, h4, h5⟩ := h
    have fp : (Oth.rows rows).foot H (some (.ref p)) p := ⟨p, rfl, .inl rfl⟩
    have fq : ∀ q ∈ qs, (Oth.rows rows).foot H (some (.ref p)) q := fun q hq => ⟨p, rfl, .inr ⟨_, h1, mem_refs.mpr hq⟩⟩
    exact ⟨p, qs, rfl, k p _ fp h1, n p fp, h3, h4, rws_keep e h5 (fun q hq => n q (fq q hq)) fun q hq u hu => k q u (fq q hq) hu⟩
  | dct ds =>
    obtain ⟨p, kvs, rfl, h1, h2, h3, h4⟩ := h
    exact ⟨p, kvs, rfl, k p _ rfl h1, h2.mono e, n p rfl, h4⟩
  | dtp ds =>
    obtain ⟨p, kvs, rfl, h1, h2, h3, h4, h5⟩ := h
    exact ⟨p, kvs, rfl, k p _ rfl h1, h2.mono e, n p rfl, h4, h5⟩
theorem OthOk.foot {β : Box} {H0 H H' : Hp} {x : Oth} {o : Option V} {a : Addr} (h : OthOk β H0 H x o) (k : ∀ a u, x.foot H o a → H a = some u → H' a = some u) (f : x.foot H' o a) : x.foot H o a := by
  cases x with
  | rows rows =>
    obtain ⟨p, qs, rfl, h1, h2, h3, h4, h5⟩ := h
    obtain ⟨p', e, f⟩ := f
    cases e
    rcases f with rfl | ⟨vs, e1, hm⟩
    · exact ⟨_, rfl, .inl rfl⟩
    · rw [k p _ ⟨p, rfl, .inl rfl⟩ h1] at e1
      cases e1
      exact ⟨p, rfl, .inr ⟨_, h1, hm⟩⟩
  | dct ds => exact f
  | dtp ds => exact f
inductive Sl where
  | no
  | d (x : D)
  | own (xs : List D)
  | oth (x : Oth)
  | box (k : Bool)
  | ex (x : Exn)
  | fn
  | mil
abbrev Env' := List Sl
/-- the classes of errors by their names; which boxes there are -/
structure Cad where
  fn : Str → Option Addr
  bx : Box → Prop
instance : CoeFun Cad fun _ => Str → Option Addr := ⟨Cad.fn⟩
/-- how an error lies: the class's address by its name, its dict -/
structure ExcIs (cad : Cad) (x : Exn) (c : Value) (dx : Option Addr) (H0 : Hp) : Prop where
  cls : ∃ C, cad x.cls = some C ∧ c = .ref C
  dict : (x.fs = [] ∧ dx = none) ∨ ∃ d vs, dx = some d ∧ H0 d = some (.xd ((x.fs.map (·.1)).zip vs)) ∧ HasL H0 vs (x.fs.map (·.2))
theorem ExcIs.mono {cad : Cad} {x : Exn} {c : Value} {dx : Option Addr} {H0 H0' : Hp} (e : Same H0 H0') (h : ExcIs cad x c dx H0) : ExcIs cad x c dx H0' := by
  obtain ⟨h1, h2⟩ := h
  refine ⟨h1, ?_⟩
  rcases h2 with h2 | ⟨d, vs, a, b, c⟩
  · exact .inl h2
  · exact .inr ⟨d, vs, a, e _ _ b, c.mono e⟩
/-- the error that is handled: where it stands, its class, its dict -/
abbrev Xi := Option (Addr × Value × Option Addr)
def SlOk (cad : Cad) (β : Box) (ξ : Xi) (H0 H : Hp) : Sl → Option V → Prop
  | .no, _ => True
  | .d x, s => ∃ v, s = some v ∧ Has H0 v x
  | .own xs, s => ∃ p vs, s = some (.ref p) ∧ H p = some (.lst vs) ∧ HasL H0 vs xs ∧ H0 p = none ∧ ¬ β.S p
  | .oth x, s => OthOk β H0 H x s
  | .box k, s => ∃ v, s = some v ∧ boxIs k β v
  | .ex x, s => ∃ a c dx, ξ = some (a, c, dx) ∧ s = some (.ref a) ∧ ExcIs cad x c dx H0
  | .fn, s => s = some β.v
  | .mil, s => ∃ v, s = some v ∧ milIs β v
theorem SlOk.step {cad : Cad} {β : Box} {ξ : Xi} {H0 H H0' H' : Hp} (st : Stp β H0 H H0' H') : ∀ {sl : Sl} {s : Option V}, SlOk cad β ξ H0 H sl s → SlOk cad β ξ H0' H' sl s
  | .no, _, _ => trivial
  | .d _, _, ⟨v, e, h⟩ => ⟨v, e, h.mono st.grow⟩
  | .own _, _, ⟨p, vs, e, h, r, n, ns⟩ => ⟨p, vs, e, (st.priv p _ h n).2 ns, r.mono st.grow, (st.priv p _ h n).1, ns⟩
  | .oth x, _, h => OthOk.keep h st.grow (fun a f => by
      obtain ⟨⟨u, z, _⟩, n, ns⟩ := OthOk.has h f
      exact (st.priv a u z n).1) fun a u f z => by
      obtain ⟨_, n, ns⟩ := OthOk.has h f
      exact (st.priv a u z n).2 ns
  | .box _, _, h => h
  | .ex _, _, ⟨a, c, dx, e1, e2, h⟩ => ⟨a, c, dx, e1, e2, h.mono st.grow⟩
  | .fn, _, h => h
  | .mil, _, h => h
/-- what addresses a slot holds -/
def Sl.foot (H : Hp) : Sl → Option V → Addr → Prop
  | .own _, o, a => o = some (.ref a)
  | .oth x, o, a => x.foot H o a
  | _, _, _ => False
theorem SlOk.has {cad : Cad} {β : Box} {ξ : Xi} {H0 H : Hp} {s : Sl} {o : Option V} {a : Addr} (h : SlOk cad β ξ H0 H s o) (f : s.foot H o a) : (∃ u, H a = some u ∧ NoC u) ∧ H0 a = none ∧ ¬ β.S a := by
  cases s with
  | own xs =>
    obtain ⟨p, vs, rfl, h1, _, h2, h3⟩ := h
    cases f
    exact ⟨⟨_, h1, ncLst⟩, h2, h3⟩
  | oth x => exact OthOk.has h f
  | _ => exact f.elim
/-- what a slot holds stays where nothing of it changes -/
theorem SlOk.keep {cad : Cad} {β : Box} {ξ : Xi} {H0 H H0' H' : Hp} {s : Sl} {o : Option V} (h : SlOk cad β ξ H0 H s o) (e : Same H0 H0') (n : ∀ a, s.foot H o a → H0' a = none) (k : ∀ a u, s.foot H o a → H a = some u → H' a = some u) : SlOk cad β ξ H0' H' s o := by
  cases s with
  | no => trivial
  | d x =>
    obtain ⟨v, f1, f2⟩ := h
    exact ⟨v, f1, f2.mono e⟩
  | own xs =>
    obtain ⟨p, vs, rfl, h1, h4, h2, h3⟩ := h
    exact ⟨p, vs, rfl, k p _ rfl h1, h4.mono e, n p rfl, h3⟩
  | oth x => exact OthOk.keep h e n k
  | box k => exact h
  | fn => exact h
  | mil => exact h
  | ex x =>
    obtain ⟨a, c, dx, f1, f2, f3⟩ := h
    exact ⟨a, c, dx, f1, f2, f3.mono e⟩
theorem SlOk.foot {cad : Cad} {β : Box} {ξ : Xi} {H0 H H' : Hp} {s : Sl} {o : Option V} {a : Addr} (h : SlOk cad β ξ H0 H s o) (k : ∀ a u, s.foot H o a → H a = some u → H' a = some u) (f : s.foot H' o a) : s.foot H o a := by
  cases s with
  | oth x => exact OthOk.foot h k f
  | own xs => exact f
  | _ => exact f.elim
theorem SlOk.footS {cad : Cad} {β : Box} {ξ : Xi} {H0 H H0' H' : Hp} {s : Sl} {o : Option V} {a : Addr} (h : SlOk cad β ξ H0 H s o) (st : Stp β H0 H H0' H') (f : s.foot H' o a) : s.foot H o a :=
  h.foot (fun b u g z => by
    obtain ⟨_, n, ns⟩ := h.has g
    exact (st.priv b u z n).2 ns) f
/-- a slot that holds nothing of its own -/
def Sl.bare : Sl → Prop
  | .own _ => False
  | .oth _ => False
  | _ => True
theorem Sl.bare.no {H : Hp} {s : Sl} {o : Option V} {a : Addr} (h : s.bare) (f : s.foot H o a) : False := by
  cases s with
  | own xs => exact h
  | oth x => exact h
  | _ => exact f
def TabsIn (cad : Cad) (β : Box) : Prop := cad.bx β
/-- what stands for the slots -/
structure Rel (cad : Cad) (β : Box) (ξ : Xi) (H0 : Hp) (ρ : Env') (σ : L2.St) (H : Hp) : Prop where
  ext : Same H0 H
  len : ρ.length = σ.length
  sl : ∀ (i : Nat) (s : Sl) (o : Option V), ρ[i]? = some s → σ[i]? = some o → SlOk cad β ξ H0 H s o
  apt : ∀ (i j : Nat) (s t : Sl) (o u : Option V) (a : Addr), ρ[i]? = some s → ρ[j]? = some t → σ[i]? = some o → σ[j]? = some u → i ≠ j → s.foot H o a → t.foot H u a → False
  ok : β.ok H
  boxf : ∀ a, β.S a → H0 a = none
  tabs : TabsIn cad β
section
variable {cad : Cad} {β : Box} {ξ : Xi} {H0 H H0' H' : Hp} {ρ : Env'} {σ : L2.St}
theorem Rel.apart (r : Rel cad β ξ H0 ρ σ H) (i j : Nat) (xs ys : List D) (p q : Addr) (h1 : ρ[i]? = some (.own xs)) (h2 : ρ[j]? = some (.own ys)) (h3 : σ[i]? = some (some (.ref p))) (h4 : σ[j]? = some (some (.ref q))) (ne : i ≠ j) : p ≠ q := fun e =>
  r.apt i j _ _ _ _ p h1 h2 h3 h4 ne rfl (by rw [e]; rfl)
theorem Rel.step (r : Rel cad β ξ H0 ρ σ H) (st : Stp β H0 H H0' H') : Rel cad β ξ H0' ρ σ H' :=
  ⟨st.ext, r.len, fun i s o a b => (r.sl i s o a b).step st, fun i j s t o u a h1 h2 h3 h4 ne f1 f2 => r.apt i j s t o u a h1 h2 h3 h4 ne ((r.sl i s o h1 h3).footS st f1) ((r.sl j t u h2 h4).footS st f2), st.ok, st.boxf, r.tabs⟩
theorem Rel.refl (r : Rel cad β ξ H0 ρ σ H) : Stp β H0 H H0 H := Stp.refl r.ext r.ok r.boxf
theorem Rel.new (r : Rel cad β ξ H0 ρ σ H) {p : Addr} {o : HO} (hp : H p = none) : Stp β H0 H (upd H0 p o) (upd H p o) := Stp.new r.ext r.ok r.boxf hp
theorem Rel.junk (r : Rel cad β ξ H0 ρ σ H) {p : Addr} {o : HO} (hp : H p = none) : Stp β H0 H H0 (upd H p o) := Stp.junk r.ext r.ok r.boxf hp
/-- an address that is free belongs to no slot, now and later -/
theorem Rel.fresh (r : Rel cad β ξ H0 ρ σ H) {p : Addr} (hp : H p = none) {H1 H2 : Hp} (st : Stp β H0 H H1 H2) (j : Nat) (t : Sl) (u : Option V) (h1 : ρ[j]? = some t) (h2 : σ[j]? = some u) (f : t.foot H2 u p) : False := by
  obtain ⟨⟨w, z, _⟩, _⟩ := (r.sl j t u h1 h2).has ((r.sl j t u h1 h2).footS st f)
  rw [hp] at z
  cases z
theorem set_some {α : Type} {l : List α} {i j : Nat} {x y : α} (h : (l.set i x)[j]? = some y) : (j = i ∧ y = x) ∨ (j ≠ i ∧ l[j]? = some y) := by
  by_cases hj : j = i
  · subst hj
    by_cases hl : j < l.length
    · rw [List.getElem?_set_self hl] at h
      exact .inl ⟨rfl, (Option.some.inj h).symm⟩
    · rw [List.getElem?_eq_none (by simpa using hl)] at h
      cases h
  · rw [List.getElem?_set_ne (Ne.symm hj)] at h
    exact .inr ⟨hj, h⟩
/-- slots, one of which is set -/
theorem apt_set {ρ : Env'} {σ : L2.St} {H : Hp} (h : ∀ (i j : Nat) (s t : Sl) (o u : Option V) (a : Addr), ρ[i]? = some s → ρ[j]? = some t → σ[i]? = some o → σ[j]? = some u → i ≠ j → s.foot H o a → t.foot H u a → False) {k : Nat} {x : Sl} {v : Option V}
    (hx : ∀ (j : Nat) (t : Sl) (u : Option V) (a : Addr), j ≠ k → ρ[j]? = some t → σ[j]? = some u → x.foot H v a → t.foot H u a → False) :
    ∀ (i j : Nat) (s t : Sl) (o u : Option V) (a : Addr), (ρ.set k x)[i]? = some s → (ρ.set k x)[j]? = some t → (σ.set k v)[i]? = some o → (σ.set k v)[j]? = some u → i ≠ j → s.foot H o a → t.foot H u a → False := by
  intro i j s t o u a h1 h2 h3 h4 ne f1 f2
  rcases set_some h1 with ⟨rfl, rfl⟩ | ⟨n1, g1⟩ <;> rcases set_some h3 with ⟨e3, rfl⟩ | ⟨n3, g3⟩
  · rcases set_some h2 with ⟨rfl, rfl⟩ | ⟨n2, g2⟩
    · exact ne rfl
    · rcases set_some h4 with ⟨e4, rfl⟩ | ⟨n4, g4⟩
      · exact n2 e4
      · exact hx j t u a n2 g2 g4 f1 f2
  · exact n3 rfl
  · exact n1 e3
  · rcases set_some h2 with ⟨rfl, rfl⟩ | ⟨n2, g2⟩ <;> rcases set_some h4 with ⟨e4, rfl⟩ | ⟨n4, g4⟩
    · exact hx i s o a n1 g1 g3 f2 f1
    · exact n4 rfl
    · exact n2 e4
    · exact h i j s t o u a g1 g2 g3 g4 ne f1 f2
/-- a slot that holds no list of its own is set -/
theorem Rel.setB (r : Rel cad β ξ H0 ρ σ H) {i : Nat} {sl : Sl} {o : Option V} (hs : SlOk cad β ξ H0 H sl o) (hx : ∀ (j : Nat) (t : Sl) (u : Option V) (a : Addr), j ≠ i → ρ[j]? = some t → σ[j]? = some u → sl.foot H o a → t.foot H u a → False) : Rel cad β ξ H0 (ρ.set i sl) (σ.set i o) H := by
  refine ⟨r.ext, by simp [r.len], fun j s u a b => ?_, apt_set r.apt hx, r.ok, r.boxf, r.tabs⟩
  rcases set_some a with ⟨rfl, rfl⟩ | ⟨n1, g1⟩ <;> rcases set_some b with ⟨e2, rfl⟩ | ⟨n2, g2⟩
  · exact hs
  · exact (n2 rfl).elim
  · exact (n1 e2).elim
  · exact r.sl j s u g1 g2
theorem Rel.set (r : Rel cad β ξ H0 ρ σ H) {i : Nat} {sl : Sl} {o : Option V} (hs : SlOk cad β ξ H0 H sl o) (hn : sl.bare) : Rel cad β ξ H0 (ρ.set i sl) (σ.set i o) H :=
  r.setB hs fun _ _ _ _ _ _ _ f _ => hn.no f
theorem Rel.setD (r : Rel cad β ξ H0 ρ σ H) {i : Nat} {v : V} {d : D} (h : Has H0 v d) : Rel cad β ξ H0 (ρ.set i (.d d)) (σ.set i (some v)) H :=
  r.set ⟨v, rfl, h⟩ trivial
/-- a slot takes a list of its own -/
theorem Rel.setOwn (r : Rel cad β ξ H0 ρ σ H) {i : Nat} {p : Addr} {vs : List V} {xs : List D} (h : H p = some (.lst vs)) (hl : HasL H0 vs xs) (n : H0 p = none) (ns : ¬ β.S p)
    (fr : ∀ (j : Nat) (t : Sl) (u : Option V), j ≠ i → ρ[j]? = some t → σ[j]? = some u → ¬ t.foot H u p) : Rel cad β ξ H0 (ρ.set i (.own xs)) (σ.set i (some (.ref p))) H :=
  r.setB ⟨p, vs, rfl, h, hl, n, ns⟩ fun j t u a ne h1 h2 f1 f2 => by
    cases f1
    exact fr j t u ne h1 h2 f2
end
end Wb
set_option Elab.async false
set_option linter.all false
set_option maxRecDepth 100000
set_option maxHeartbeats 4000000
/-! Wb, part 2: expressions, by what they give of data. -/
namespace Wb
open PySem PySem.Spec PyProof.Rows L2
/-- what a body is read under: the classes of errors, the error that is handled, the wish about errors -/
structure Ct where
  cad : Cad
  ξ : Xi
  W : WX
  lk : Box → Hp → Hp → Prop
/-- the wish, from a state -/
def Ct.X (g : Ct) (β : Box) (H0 H : Hp) (σ : L2.St) (x : Exn) : Prop :=
  ∀ c dx H0' H', Stp β H0 H H0' H' → ExcIs g.cad x c dx H0' → g.W c dx σ H'
theorem Ct.X.step {g : Ct} {β : Box} {H0 H H0' H' : Hp} {σ : L2.St} {x : Exn} (st : Stp β H0 H H0' H') (h : g.X β H0 H σ x) : g.X β H0' H' σ x :=
  fun c dx H2 H3 s e => h c dx H2 H3 (st.trans s) e
/-- the way out with a value -/
def Out (β : Box) (H0 H : Hp) (Q : VK) (d : D) : Prop := ∀ v H0' H', Stp β H0 H H0' H' → Has H0' v d → Q v H'
theorem Out.step {β : Box} {H0 H H0' H' : Hp} {Q : VK} {d : D} (st : Stp β H0 H H0' H') (h : Out β H0 H Q d) : Out β H0' H' Q d :=
  fun v H2 H3 s e => h v H2 H3 (st.trans s) e
def tE (g : Ct) (f : Env' → T D) : TE := fun σ H Q => ∃ β H0 ρ, Rel g.cad β g.ξ H0 ρ σ H ∧ (f ρ).wp (Out β H0 H Q) (g.X β H0 H σ)
def tT (g : Ct) (f : Env' → T D) : TT := fun σ H Q => ∃ β H0 ρ, Rel g.cad β g.ξ H0 ρ σ H ∧
  (f ρ).wp (fun d => ∃ b, d = .bool b ∧ ∀ H0' H', Stp β H0 H H0' H' → Q b H') (g.X β H0 H σ)
/-- an argument: data, or the box -/
inductive Ar where
  | d (x : D)
  | box (k : Bool)
  | mil
def HasA (β : Box) (H0 : Hp) (v : V) : Ar → Prop
  | .d x => Has H0 v x
  | .box k => boxIs k β v
  | .mil => milIs β v
inductive HasAs (β : Box) (H0 : Hp) : List V → List Ar → Prop
  | nil : HasAs β H0 [] []
  | cons {v : V} {vs : List V} {a : Ar} {as : List Ar} : HasA β H0 v a → HasAs β H0 vs as → HasAs β H0 (v :: vs) (a :: as)
theorem HasA.mono {β : Box} {H0 H0' : Hp} (e : Same H0 H0') {v : V} : ∀ {a : Ar}, HasA β H0 v a → HasA β H0' v a
  | .d _, h => Has.mono e h
  | .box _, h => h
  | .mil, h => h
theorem HasAs.mono {β : Box} {H0 H0' : Hp} (e : Same H0 H0') : ∀ {vs : List V} {as : List Ar}, HasAs β H0 vs as → HasAs β H0' vs as
  | _, _, .nil => .nil
  | _, _, .cons h r => .cons (h.mono e) (HasAs.mono e r)
theorem HasAs.length {β : Box} {H0 : Hp} : ∀ {vs : List V} {as : List Ar}, HasAs β H0 vs as → vs.length = as.length
  | _, _, .nil => rfl
  | _, _, .cons _ r => by simp [HasAs.length r]
def tA (g : Ct) (f : Env' → T (List Ar)) : TA := fun σ H Q => ∃ β H0 ρ, Rel g.cad β g.ξ H0 ρ σ H ∧
  (f ρ).wp (fun as => ∀ vs H0' H', Stp β H0 H H0' H' → HasAs β H0' vs as → Q vs H') (g.X β H0 H σ)
theorem _root_.L2.PE.imp {X : Cx} {e : Expr} {t t' : TE} (h : PE X e t) (i : ∀ σ H Q, t' σ H Q → t σ H Q) : PE X e t' := ⟨fun pins s σ H Q I q => h.run pins s σ H Q I (i _ _ _ q)⟩
theorem _root_.L2.PT.imp {X : Cx} {e : Expr} {t t' : TT} (h : PT X e t) (i : ∀ σ H Q, t' σ H Q → t σ H Q) : PT X e t' := ⟨fun pins s σ H Q I q => h.run pins s σ H Q I (i _ _ _ q)⟩
theorem _root_.L2.PW.imp {X : Cx} {e : Expr} {t t' : TT} (h : PW X e t) (i : ∀ σ H Q, t' σ H Q → t σ H Q) : PW X e t' := ⟨fun w pins s σ H Q I q => h.run w pins s σ H Q I (i _ _ _ q)⟩
theorem _root_.L2.PA.imp {X : Cx} {e : List Expr} {t t' : TA} (h : PA X e t) (i : ∀ σ H Q, t' σ H Q → t σ H Q) : PA X e t' := ⟨fun p pins s σ H Q I q => h.run p pins s σ H Q I (i _ _ _ q)⟩
theorem _root_.L2.PO.imp {X : Cx} {e : Option Expr} {t t' : TO} (h : PO X e t) (i : ∀ σ H Q, t' σ H Q → t σ H Q) : PO X e t' := ⟨fun pins s σ H Q I q => h.run pins s σ H Q I (i _ _ _ q)⟩
/-! ### one after another -/
section
variable {g : Ct} {σ : L2.St} {H : Hp}
/-- a value is reckoned first -/
theorem tE_then {α : Type} {β : Box} {H0 : Hp} {ρ : Env'} {f : Env' → T D} {k : D → T α} {P : α → Prop} {Q : VK} (r : Rel g.cad β g.ξ H0 ρ σ H) (h : ((f ρ).bind k).wp P (g.X β H0 H σ))
    (hq : ∀ d v H0' H', Stp β H0 H H0' H' → Has H0' v d → (k d).wp P (g.X β H0 H σ) → Q v H') : tE g f σ H Q :=
  ⟨β, H0, ρ, r, T.wp_mono (fun d hd v H0' H' st hv => hq d v H0' H' st hv hd) (fun _ h => h) _ ((T.wp_bind _ _).mp h)⟩
theorem tA_then {α : Type} {β : Box} {H0 : Hp} {ρ : Env'} {f : Env' → T (List Ar)} {k : List Ar → T α} {P : α → Prop} {Q : List V → Hp → Prop} (r : Rel g.cad β g.ξ H0 ρ σ H) (h : ((f ρ).bind k).wp P (g.X β H0 H σ))
    (hq : ∀ as vs H0' H', Stp β H0 H H0' H' → HasAs β H0' vs as → (k as).wp P (g.X β H0 H σ) → Q vs H') : tA g f σ H Q :=
  ⟨β, H0, ρ, r, T.wp_mono (fun d hd v H0' H' st hv => hq d v H0' H' st hv hd) (fun _ h => h) _ ((T.wp_bind _ _).mp h)⟩
/-- what follows, from where one stands now -/
theorem wp_out {β : Box} {H0 H0' H' : Hp} {Q : VK} {t : T D} (st : Stp β H0 H H0' H') (h : t.wp (Out β H0 H Q) (g.X β H0 H σ)) : t.wp (Out β H0' H' Q) (g.X β H0' H' σ) :=
  T.wp_mono (fun _ q => q.step st) (fun _ q => q.step st) t h
end
/-! ### names, constants -/
def eC (d : D) : Env' → T D := fun _ => .ret d
def eV (i : Nat) : Env' → T D := fun ρ => match ρ[i]? with
  | some (.d x) => .ret x
  | _ => .bad
section
variable {X : Cx} {g : Ct} {a b c : Expr} {f h k : Env' → T D} {pos : Pos}
theorem tE_val {β : Box} {H0 H : Hp} {σ : L2.St} {ρ : Env'} {Q : VK} {v : V} {d : D} (r : Rel g.cad β g.ξ H0 ρ σ H) (hv : Has H0 v d) (q : (T.ret d).wp (Out β H0 H Q) (g.X β H0 H σ)) : Q v H :=
  q v H0 H r.refl hv
theorem r_int {i : Int} {j pos} : PE X (.Constant (.int i) j pos) (tE g (eC (.int i))) := pe_int.imp fun _ _ _ ⟨_, _, _, r, q⟩ => tE_val r (.int i) q
theorem r_bl {i : Bool} {j pos} : PE X (.Constant (.bool i) j pos) (tE g (eC (.bool i))) := pe_bl.imp fun _ _ _ ⟨_, _, _, r, q⟩ => tE_val r (.bl i) q
theorem r_non {j pos} : PE X (.Constant .none j pos) (tE g (eC .none)) := pe_non.imp fun _ _ _ ⟨_, _, _, r, q⟩ => tE_val r .non q
theorem r_str {x : Str} {j pos} : PE X (.Constant (.str x) j pos) (tE g (eC (.str x))) := pe_str.imp fun _ _ _ ⟨_, _, _, r, q⟩ => tE_val r (.str x) q
theorem r_glob {x : Str} {v : V} {u : Value} {d : D} (hg : Gl X x) (hm : X.mg x = some u) (rv : RelV v u) (hd : ∀ H, Has H v d) (hdb : (x == ("__debug__" : Str)) = false := by decide) : PE X (.Name x pos) (tE g (eC d)) :=
  (pe_glob hg hm rv hdb).imp fun _ _ _ ⟨_, _, _, r, q⟩ => tE_val r (hd _) q
theorem eV_slot {β : Box} {H0 H : Hp} {σ : L2.St} {ρ : Env'} {i : Nat} {P : D → Prop} {E : Exn → Prop} (r : Rel g.cad β g.ξ H0 ρ σ H) (q : (eV i ρ).wp P E) : ∃ v d, σ[i]? = some (some v) ∧ Has H0 v d ∧ P d := by
  unfold eV at q
  split at q
  · next x hx =>
    have hl : i < σ.length := by
      rw [← r.len]
      exact (List.getElem?_eq_some_iff.mp hx).1
    obtain ⟨v, e, hv⟩ := r.sl i _ _ hx (List.getElem?_eq_getElem hl)
    exact ⟨v, x, by rw [List.getElem?_eq_getElem hl, e], hv, q⟩
  · exact q.elim
theorem r_v (i : Nat) {x : Str} (hp : PE X (.Name x pos) (tVar i)) : PE X (.Name x pos) (tE g (eV i)) := hp.imp fun σ H Q ⟨β, H0, ρ, r, q⟩ => by
  obtain ⟨v, d, e, hv, hq⟩ := eV_slot r q
  exact ⟨v, e, hq v H0 H r.refl hv⟩
/-! ### operators -/
/-- an operation of the layer does o -/
def OpD (r : R2) (o : D → D → T D) : Prop := ∀ {β : Box} {H0 H : Hp} {v w : V} {x y : D} {Q : VK} {E : Exn → Prop}, Same H0 H → β.ok H → (∀ a, β.S a → H0 a = none) → Has H0 v x → Has H0 w y →
  (o x y).wp (Out β H0 H Q) E → r v w H Q
def UnD (r : V → Hp → VK → Prop) (o : D → T D) : Prop := ∀ {β : Box} {H0 H : Hp} {v : V} {x : D} {Q : VK} {E : Exn → Prop}, Same H0 H → β.ok H → (∀ a, β.S a → H0 a = none) → Has H0 v x →
  (o x).wp (Out β H0 H Q) E → r v H Q
def CaD (r : List V → Hp → VK → Prop) (o : List Ar → T D) : Prop := ∀ {β : Box} {H0 H : Hp} {vs : List V} {as : List Ar} {Q : VK} {E : Exn → Prop}, Same H0 H → β.ok H → (∀ a, β.S a → H0 a = none) → HasAs β H0 vs as →
  (o as).wp (Out β H0 H Q) E → r vs H Q
def eBin (o : D → D → T D) (f h : Env' → T D) : Env' → T D := fun ρ => (f ρ).bind fun x => (h ρ).bind fun y => o x y
def eUn (o : D → T D) (f : Env' → T D) : Env' → T D := fun ρ => (f ρ).bind o
theorem tOp_of {r : R2} {o : D → D → T D} (ho : OpD r o) {σ : L2.St} {H : Hp} {Q : VK} (q : tE g (eBin o f h) σ H Q) : tOp r (tE g f) (tE g h) σ H Q := by
  obtain ⟨β, H0, ρ, rr, q⟩ := q
  refine tE_then rr q fun d v H1 H2 st hv q1 => ?_
  have rr1 := rr.step st
  refine tE_then rr1 (wp_out st q1) fun d' v' H3 H4 st2 hv' q2 => ?_
  exact ho st2.ext st2.ok st2.boxf (hv.mono st2.grow) hv' (wp_out st2 q2)
theorem r_op {op : Operator} {r : R2} {o : D → D → T D} (ho : OpR X (binaryOp op) r) (hd : OpD r o) (ha : PE X a (tE g f)) (hb : PE X b (tE g h)) : PE X (.BinOp a op b pos) (tE g (eBin o f h)) :=
  (pe_op ho ha hb).imp fun _ _ _ q => tOp_of hd q
theorem r_cmp {op : CmpOp} {r : R2} {o : D → D → T D} (ho : OpR X (compareOp op) r) (hd : OpD r o) (ha : PE X a (tE g f)) (hb : PE X b (tE g h)) (hm : behindInMarks op b = false) : PE X (.Compare a [op] [b] pos) (tE g (eBin o f h)) :=
  (pe_cmpR ho ha hb hm).imp fun _ _ _ q => tOp_of hd q
theorem r_ix {r : R2} {o : D → D → T D} (hr : IxR X r) (hd : OpD r o) (ha : PE X a (tE g f)) (hb : PE X b (tE g h)) (hs : PlainIx b) : PE X (.Subscript a b pos) (tE g (eBin o f h)) :=
  (pe_ix hr ha hb hs).imp fun _ _ _ q => tOp_of hd q
theorem r_un {op : UnaryOp} {r : V → Hp → VK → Prop} {o : D → T D} (ho : UnR X (unaryOp op) r) (hd : UnD r o) (ha : PE X a (tE g f)) : PE X (.UnaryOp op a pos) (tE g (eUn o f)) :=
  (pe_un ho ha).imp fun σ H Q ⟨β, H0, ρ, rr, q⟩ => tE_then rr q fun d v H1 H2 st hv q1 => hd st.ext st.ok st.boxf hv (wp_out st q1)
/-- a op b op' c -/
def eCh (o o' : D → D → T D) (f h k : Env' → T D) : Env' → T D := fun ρ => (f ρ).bind fun x => (h ρ).bind fun y => (o x y).bind fun z => match z with
  | .bool true => (k ρ).bind fun w => o' y w
  | .bool false => .ret (.bool false)
  | _ => .bad
/-- an operation that makes nothing -/
def PuD (r : R2) (o : D → D → T D) : Prop := ∀ {H0 H : Hp} {v w : V} {x y : D} {α : Type} {Q : VK} {P : α → Prop} {E : Exn → Prop} {k : D → T α}, Same H0 H → Has H0 v x → Has H0 w y →
  ((o x y).bind k).wp P E → (∀ z b, z = .bool b → (k z).wp P E → Q (.bl b) H) → (∀ z, (∀ b, z ≠ .bool b) → (k z).wp P E → False) → r v w H Q
theorem tChain_of {r r' : R2} {o o' : D → D → T D} (ho : PuD r o) (ho' : OpD r' o') {σ : L2.St} {H : Hp} {Q : VK} (q : tE g (eCh o o' f h k) σ H Q) : tChain r r' (tE g f) (tE g h) (tE g k) σ H Q := by
  obtain ⟨β, H0, ρ, rr, q⟩ := q
  refine tE_then rr q fun d v H1 H2 st hv q1 => ?_
  have rr1 := rr.step st
  refine tE_then rr1 (wp_out st q1) fun d' v' H3 H4 st2 hv' q2 => ?_
  have rr2 := rr1.step st2
  refine ho st2.ext (hv.mono st2.grow) hv' (wp_out st2 q2) (fun z b ez qz => ?_) (fun z nz qz => ?_)
  · subst ez
    refine ⟨b, rfl, ?_⟩
    cases b with
    | true =>
      refine iteT ?_
      refine tE_then rr2 qz fun d3 v3 H5 H6 st3 hv3 q3 => ?_
      exact ho' st3.ext st3.ok st3.boxf (hv'.mono st3.grow) hv3 (wp_out st3 q3)
    | false =>
      refine iteF ?_
      exact qz (.bl false) H3 H4 rr2.refl (.bl false)
  · cases z with
    | bool b => exact nz b rfl
    | _ => exact qz
theorem r_chain {op op' : CmpOp} {r r' : R2} {o o' : D → D → T D} (ho : OpR X (compareOp op) r) (ho' : OpR X (compareOp op') r') (hd : PuD r o) (hd' : OpD r' o') (ha : PE X a (tE g f)) (hb : PE X b (tE g h)) (hc : PE X c (tE g k))
    (hm : lastMarks [op, op'] [b, c] = false := by with_unfolding_all rfl) : PE X (.Compare a [op, op'] [b, c] pos) (tE g (eCh o o' f h k)) :=
  (pe_chain ho ho' ha hb hc hm).imp fun _ _ _ q => tChain_of hd hd' q
/-! ### and, or, not, if as values -/
def eAnd (f h : Env' → T D) : Env' → T D := fun ρ => (f ρ).bind fun x => match x with
  | .bool true => h ρ
  | .bool false => .ret (.bool false)
  | _ => .bad
def eOr (f h : Env' → T D) : Env' → T D := fun ρ => (f ρ).bind fun x => match x with
  | .bool false => h ρ
  | .bool true => .ret (.bool true)
  | _ => .bad
def oNot : D → T D
  | .bool b => .ret (.bool (!b))
  | _ => .bad
def eIf (t f h : Env' → T D) : Env' → T D := fun ρ => (t ρ).bind fun x => match x with
  | .bool true => f ρ
  | .bool false => h ρ
  | _ => .bad
variable {rest : List Expr}
theorem r_and (ha : PE X a (tE g f)) (hb : PE X (.BoolOp .And (b :: rest) pos) (tE g h)) : PE X (.BoolOp .And (a :: b :: rest) pos) (tE g (eAnd f h)) :=
  (pe_and ha hb).imp fun σ H Q ⟨β, H0, ρ, rr, q⟩ => tE_then rr q fun d v H1 H2 st hv q1 => by
    cases hv with
    | bl z =>
      refine ⟨z, rfl, ?_⟩
      cases z with
      | true => exact iteT ⟨β, H1, ρ, rr.step st, wp_out st q1⟩
      | false => exact iteF (q1 (.bl false) H1 H2 st (.bl false))
    | _ => exact q1.elim
theorem r_one {op} (ha : PE X a (tE g f)) : PE X (.BoolOp op [a] pos) (tE g f) := pe_one ha
theorem r_not (ha : PE X a (tE g f)) : PE X (.UnaryOp .Not a pos) (tE g (eUn oNot f)) :=
  (pe_not ha).imp fun σ H Q ⟨β, H0, ρ, rr, q⟩ => tE_then rr q fun d v H1 H2 st hv q1 => by
    cases hv with
    | bl z => exact ⟨z, rfl, q1 (.bl (!z)) H1 H2 st (.bl _)⟩
    | _ => exact q1.elim
/-! ### tests -/
theorem q_val (ha : PE X a (tE g f)) (he : ∀ whole, isTrue a X.env whole = (do let v ← whole; standAt a.pos; holding [v] (truthy v)) := by intro _; rfl) : PT X a (tT g f) :=
  (pt_val ha he).imp fun σ H Q ⟨β, H0, ρ, rr, q⟩ => ⟨β, H0, ρ, rr, T.wp_mono (fun d hd v H1 H2 st hv => by
    obtain ⟨z, e, hq⟩ := hd
    subst e
    cases hv
    exact ⟨z, rfl, hq H1 H2 st⟩) (fun _ z => z) _ q⟩
theorem q_cmp {op : CmpOp} {r : R2} {o : D → D → T D} (ho : OpR X (compareOp op) r) (hd : OpD r o) (ha : PE X a (tE g f)) (hb : PE X b (tE g h)) (hm : behindInMarks op b = false) : PT X (.Compare a [op] [b] pos) (tT g (eBin o f h)) :=
  (pt_cmpR ho ha hb hm).imp fun σ H Q ⟨β, H0, ρ, rr, q⟩ => tOp_of (Q := fun x H' => ∃ k, x = .bl k ∧ Q k H') hd ⟨β, H0, ρ, rr, T.wp_mono (fun d hd v H1 H2 st hv => by
    obtain ⟨z, e, hq⟩ := hd
    subst e
    cases hv
    exact ⟨z, rfl, hq H1 H2 st⟩) (fun _ z => z) _ q⟩
theorem q_chain {op op' : CmpOp} {r r' : R2} {o o' : D → D → T D} (ho : OpR X (compareOp op) r) (ho' : OpR X (compareOp op') r') (hd : PuD r o) (hd' : OpD r' o') (ha : PE X a (tE g f)) (hb : PE X b (tE g h)) (hc : PE X c (tE g k))
    (hm : lastMarks [op, op'] [b, c] = false := by with_unfolding_all rfl) : PT X (.Compare a [op, op'] [b, c] pos) (tT g (eCh o o' f h k)) :=
  (pt_chain ho ho' ha hb hc hm).imp fun σ H Q ⟨β, H0, ρ, rr, q⟩ => tChain_of (Q := fun x H' => ∃ k, x = .bl k ∧ Q k H') hd hd' ⟨β, H0, ρ, rr, T.wp_mono (fun d hd v H1 H2 st hv => by
    obtain ⟨z, e, hq⟩ := hd
    subst e
    cases hv
    exact ⟨z, rfl, hq H1 H2 st⟩) (fun _ z => z) _ q⟩
theorem tT_then {α : Type} {β : Box} {H0 H : Hp} {σ : L2.St} {ρ : Env'} {kk : D → T α} {P : α → Prop} {Q : Bool → Hp → Prop} (r : Rel g.cad β g.ξ H0 ρ σ H) (hw : ((f ρ).bind kk).wp P (g.X β H0 H σ))
    (hq : ∀ z H0' H', Stp β H0 H H0' H' → (kk (.bool z)).wp P (g.X β H0 H σ) → Q z H') (hn : ∀ d, (∀ z, d ≠ .bool z) → (kk d).wp P (g.X β H0 H σ) → False) : tT g f σ H Q :=
  ⟨β, H0, ρ, r, T.wp_mono (fun d hd => by
    cases d with
    | bool z => exact ⟨z, rfl, fun H1 H2 st => hq z H1 H2 st hd⟩
    | _ => exact (hn _ (fun _ z => by cases z) hd).elim) (fun _ h => h) _ ((T.wp_bind _ _).mp hw)⟩
def outB (β : Box) (H0 H : Hp) (Q : Bool → Hp → Prop) (d : D) : Prop := ∃ b, d = .bool b ∧ ∀ H0' H', Stp β H0 H H0' H' → Q b H'
theorem wp_outB {β : Box} {H0 H H0' H' : Hp} {σ : L2.St} {Q : Bool → Hp → Prop} {t : T D} (st : Stp β H0 H H0' H') (hw : t.wp (outB β H0 H Q) (g.X β H0 H σ)) : t.wp (outB β H0' H' Q) (g.X β H0' H' σ) :=
  T.wp_mono (fun _ ⟨b, e, q⟩ => ⟨b, e, fun H2 H3 s => q H2 H3 (st.trans s)⟩) (fun _ q => q.step st) t hw
theorem q_and (ha : PT X a (tT g f)) (hb : PW X (.BoolOp .And (b :: rest) pos) (tT g h)) : PW X (.BoolOp .And (a :: b :: rest) pos) (tT g (eAnd f h)) :=
  (pw_and ha hb).imp fun σ H Q ⟨β, H0, ρ, rr, q⟩ => tT_then (f := f) rr q (fun z H1 H2 st q1 => by
    cases z with
    | true => exact iteT ⟨β, H1, ρ, rr.step st, wp_outB st q1⟩
    | false =>
      obtain ⟨b, e, hq⟩ := q1
      cases e
      exact iteF (hq H1 H2 st)) (fun d hn q1 => by
    cases d with
    | bool z => exact hn z rfl
    | _ => exact q1)
theorem q_or (ha : PT X a (tT g f)) (hb : PW X (.BoolOp .Or (b :: rest) pos) (tT g h)) : PW X (.BoolOp .Or (a :: b :: rest) pos) (tT g (eOr f h)) :=
  (pw_or ha hb).imp fun σ H Q ⟨β, H0, ρ, rr, q⟩ => tT_then (f := f) rr q (fun z H1 H2 st q1 => by
    cases z with
    | false => exact iteF ⟨β, H1, ρ, rr.step st, wp_outB st q1⟩
    | true =>
      obtain ⟨b, e, hq⟩ := q1
      cases e
      exact iteT (hq H1 H2 st)) (fun d hn q1 => by
    cases d with
    | bool z => exact hn z rfl
    | _ => exact q1)
theorem q_and1 (ha : PT X a (tT g f)) : PW X (.BoolOp .And [a] pos) (tT g f) := pw_and1 ha
theorem q_or1 (ha : PT X a (tT g f)) : PW X (.BoolOp .Or [a] pos) (tT g f) := pw_or1 ha
theorem q_not (ha : PT X a (tT g f)) : PT X (.UnaryOp .Not a pos) (tT g (eUn oNot f)) :=
  (pt_not ha).imp fun σ H Q ⟨β, H0, ρ, rr, q⟩ => tT_then (f := f) rr q (fun z H1 H2 st q1 => by
    obtain ⟨b, e, hq⟩ := q1
    cases e
    exact hq H1 H2 st) (fun d hn q1 => by
    cases d with
    | bool z => exact hn z rfl
    | _ => exact q1)
theorem r_if (ht : PT X c (tT g k)) (ha : PE X a (tE g f)) (hb : PE X b (tE g h)) : PE X (.IfExp c a b pos) (tE g (eIf k f h)) :=
  (pe_ifExp ht ha hb).imp fun σ H Q ⟨β, H0, ρ, rr, q⟩ => tT_then (f := k) rr q (fun z H1 H2 st q1 => by
    cases z with
    | true => exact iteT ⟨β, H1, ρ, rr.step st, wp_out st q1⟩
    | false => exact iteF ⟨β, H1, ρ, rr.step st, wp_out st q1⟩) (fun d hn q1 => by
    cases d with
    | bool z => exact hn z rfl
    | _ => exact q1)
/-- truth of any data -/
def oTruth : D → T D
  | .none => .ret (.bool false)
  | .bool b => .ret (.bool b)
  | .int i => .ret (.bool (i != 0))
  | .str x => if x.length ≤ 1000000 then .ret (.bool ((x.length : Int) != 0)) else .bad
  | .list xs => .ret (.bool (!xs.isEmpty))
  | .tuple xs => .ret (.bool (!xs.isEmpty))
  | .dict kvs => .ret (.bool (!kvs.isEmpty))
theorem lim_line {n : Nat} (h : n ≤ 1000000) : n ≤ sizeLine := by
  rw [sizeLine_eq]
  omega
theorem HasL.isEmpty {H : Hp} {vs : List V} {ds : List D} (h : HasL H vs ds) : vs.isEmpty = ds.isEmpty := by
  cases h <;> rfl
theorem HasK.isEmpty {H : Hp} {vs : List (Key × V)} {ds : List (D × D)} (h : HasK H vs ds) : vs.isEmpty = ds.isEmpty := by
  cases h <;> rfl
theorem q_truth (ha : PE X a (tE g f)) (he : ∀ whole, isTrue a X.env whole = (do let v ← whole; standAt a.pos; holding [v] (truthy v)) := by intro _; rfl) : PT X a (tT g (eUn oTruth f)) :=
  (pt_truth ha he).imp fun σ H Q ⟨β, H0, ρ, rr, q⟩ => tE_then rr q fun d v H1 H2 st hv q1 => by
    have fin : ∀ {z : Bool}, (T.ret (PyData.bool z)).wp (outB β H0 H Q) (g.X β H0 H σ) → Q z H2 := fun ⟨b, e, hq⟩ => by
      cases e
      exact hq H1 H2 st
    cases hv with
    | non => exact ⟨false, rfl, fin q1⟩
    | bl z => exact ⟨z, rfl, fin q1⟩
    | int i => exact ⟨i != 0, rfl, fin q1⟩
    | str x =>
      have q1 : (if x.length ≤ 1000000 then T.ret (PyData.bool ((x.length : Int) != 0)) else .bad).wp (outB β H0 H Q) (g.X β H0 H σ) := q1
      by_cases hx : x.length ≤ 1000000
      · rw [if_pos hx] at q1
        exact ⟨_, ⟨lim_line hx, rfl⟩, fin q1⟩
      · rw [if_neg hx] at q1
        exact q1.elim
    | lst h1 h2 => exact ⟨_, .inl ⟨_, SqL.of (st.ext _ _ h1), by rw [h2.isEmpty]⟩, fin q1⟩
    | tup h1 hdn h2 => exact ⟨_, .inr (.inl ⟨_, sqF (st.ext _ _ h1), by rw [h2.isEmpty]⟩), fin q1⟩
    | dct h1 h2 => exact ⟨_, .inr (.inr ⟨_, st.ext _ _ h1, by rw [h2.isEmpty]⟩), fin q1⟩
/-! ### arguments, displays, calls -/
variable {es : List Expr} {fs : Env' → T (List Ar)}
def aNil : Env' → T (List Ar) := fun _ => .ret []
def aCons (f : Env' → T D) (fs : Env' → T (List Ar)) : Env' → T (List Ar) := fun ρ => (f ρ).bind fun d => (fs ρ).bind fun r => .ret (.d d :: r)
def aBox (i : Nat) (fs : Env' → T (List Ar)) : Env' → T (List Ar) := fun ρ => match ρ[i]? with
  | some (.box k) => (fs ρ).bind fun r => .ret (.box k :: r)
  | some .mil => (fs ρ).bind fun r => .ret (.mil :: r)
  | _ => .bad
theorem a_nil : PA X [] (tA g aNil) := pa_nil.imp fun _ _ _ ⟨_, H0, _, r, q⟩ => q [] H0 _ r.refl .nil
theorem a_cons (ha : PE X a (tE g f)) (hr : PA X es (tA g fs)) (hs : starEach (a :: es) X.env = (false, eval a X.env) :: starEach es X.env := by rfl) : PA X (a :: es) (tA g (aCons f fs)) :=
  (pa_cons ha hr hs).imp fun σ H Q ⟨β, H0, ρ, rr, q⟩ => tE_then rr q fun d v H1 H2 st hv q1 => by
    have q2 := T.wp_mono (fun (as : List Ar) (h : ∀ vs H0' H', Stp β H0 H H0' H' → HasAs β H0' vs as → Q vs H') vs H0' H' s e => h vs H0' H' (st.trans s) e) (fun x (h : g.X β H0 H σ x) => h.step st) _ q1
    refine tA_then (rr.step st) q2 fun as vs H3 H4 st2 hvs q3 => ?_
    exact q3 (v :: vs) H3 H4 st2 (.cons (hv.mono st2.grow) hvs)
theorem a_box {i : Nat} {x : Str} {p : Pos} (hp : PE X (.Name x p) (tVar i)) (hr : PA X es (tA g fs)) (hs : starEach (.Name x p :: es) X.env = (false, eval (.Name x p) X.env) :: starEach es X.env := by rfl) : PA X (.Name x p :: es) (tA g (aBox i fs)) :=
  (pa_cons hp hr hs).imp fun σ H Q ⟨β, H0, ρ, rr, q⟩ => by
    unfold aBox at q
    split at q
    · next k hx =>
      have hl : i < σ.length := by
        rw [← rr.len]
        exact (List.getElem?_eq_some_iff.mp hx).1
      obtain ⟨v, e', hb⟩ := rr.sl i _ _ hx (List.getElem?_eq_getElem hl)
      refine ⟨v, by rw [List.getElem?_eq_getElem hl, e'], ?_⟩
      refine tA_then rr q fun as vs H3 H4 st2 hvs q3 => ?_
      exact q3 (v :: vs) H3 H4 st2 (.cons hb hvs)
    · next hx =>
      have hl : i < σ.length := by
        rw [← rr.len]
        exact (List.getElem?_eq_some_iff.mp hx).1
      obtain ⟨v, e', hb⟩ := rr.sl i _ _ hx (List.getElem?_eq_getElem hl)
      refine ⟨v, by rw [List.getElem?_eq_getElem hl, e'], ?_⟩
      refine tA_then rr q fun as vs H3 H4 st2 hvs q3 => ?_
      exact q3 (v :: vs) H3 H4 st2 (.cons hb hvs)
    · exact q.elim
theorem HasAs.ds {β : Box} {H0 : Hp} : ∀ {vs : List V} {as : List Ar} {ds : List D}, HasAs β H0 vs as → as = ds.map Ar.d → HasL H0 vs ds
  | _, _, [], .nil, _ => .nil
  | _, _, d :: ds, .cons h r, e => by
    rw [List.map_cons] at e
    injection e with e1 e2
    subst e1
    exact .cons h (HasAs.ds r e2)
def dsOf : List Ar → Option (List D)
  | [] => some []
  | .d x :: r => (dsOf r).map (x :: ·)
  | .box _ :: _ => none
  | .mil :: _ => none
theorem dsOf_some : ∀ {as : List Ar} {ds : List D}, dsOf as = some ds → as = ds.map Ar.d
  | [], ds, h => by
    cases h
    rfl
  | .d x :: r, ds, h => by
    unfold dsOf at h
    cases q : dsOf r with
    | none =>
      rw [q] at h
      cases h
    | some es =>
      rw [q] at h
      cases h
      rw [dsOf_some q]
      rfl
  | .box _ :: _, _, h => by cases h
  | .mil :: _, _, h => by cases h
def eTup (fs : Env' → T (List Ar)) : Env' → T D := fun ρ => (fs ρ).bind fun as => match dsOf as with
  | some ds => if ds.length ≤ 1000000 then .ret (.tuple ds) else .bad
  | none => .bad
def eLst (fs : Env' → T (List Ar)) : Env' → T D := fun ρ => (fs ρ).bind fun as => match dsOf as with
  | some ds => if ds.length ≤ 1000000 then .ret (.list ds) else .bad
  | none => .bad
theorem upd_has {H : Hp} {p : Addr} {o : HO} {vs : List V} {ds : List D} (hp : H p = none) (h : HasL H vs ds) : HasL (upd H p o) vs ds :=
  h.mono fun b u e => by
    rw [upd_ne (ne_of_none e hp)]
    exact e
theorem r_tup {x1} (hs : PA X es (tA g fs)) : PE X (.Tuple es x1 pos) (tE g (eTup fs)) :=
  (pe_tupS hs).imp fun σ H Q ⟨β, H0, ρ, rr, q⟩ => tA_then rr q fun as vs H1 H2 st hv q1 => by
    split at q1
    · next ds e =>
      split at q1
      · next hz =>
        have hl := hv.ds (dsOf_some e)
        have hlen := hl.length
        refine ⟨lim_line (by omega), fun p o hp hz => ?_⟩
        have hp1 : H1 p = none := st.ext.free hp
        exact q1 (.ref p) _ _ (st.trans (Stp.new st.ext st.ok st.boxf hp)) (.tup upd_same hz (upd_has hp1 hl))
      · exact q1.elim
    · exact q1.elim
theorem r_lst (hs : PA X es (tA g fs)) : PE X (.List es pos) (tE g (eLst fs)) :=
  (pe_lst hs).imp fun σ H Q ⟨β, H0, ρ, rr, q⟩ => tA_then rr q fun as vs H1 H2 st hv q1 => by
    split at q1
    · next ds e =>
      split at q1
      · next hz =>
        have hl := hv.ds (dsOf_some e)
        have hlen := hl.length
        refine ⟨lim_line (by omega), fun p hp => ?_⟩
        have hp1 : H1 p = none := st.ext.free hp
        exact q1 (.ref p) _ _ (st.trans (Stp.new st.ext st.ok st.boxf hp)) (.lst upd_same (upd_has hp1 hl))
      · exact q1.elim
    · exact q1.elim
/-- a built-in function, a built-in class, a module's function: by its name -/
def eCb (o : List Ar → T D) (fs : Env' → T (List Ar)) : Env' → T D := fun ρ => (fs ρ).bind o
theorem tCB_of {r : List V → Hp → VK → Prop} {o : List Ar → T D} (hd : CaD r o) {σ : L2.St} {H : Hp} {Q : VK} (q : tE g (eCb o fs) σ H Q) : tCB r (tA g fs) σ H Q := by
  obtain ⟨β, H0, ρ, rr, q⟩ := q
  exact tA_then rr q fun as vs H1 H2 st hv q1 => hd st.ext st.ok st.boxf hv (wp_out st q1)
theorem r_b {x : Str} {id : String} {p : Pos} {r : List V → Hp → VK → Prop} {o : List Ar → T D} (hc : CallR X (.builtin id) r) (hd : CaD r o) (hg : Gl X x) (hm : X.mg x = none) (hv : bootBuiltins x = some (.builtin id)) (ha : PA X (a :: es) (tA g fs))
    (hn : x ≠ "__name__" := by decide) (hdb : (x == ("__debug__" : Str)) = false := by decide)
    (he : starEach (a :: es) X.env = (false, eval a X.env) :: starEach es X.env := by rfl) (hpl : (backTo pos (starEach es X.env)).any (·.1) = false := by rfl) : PE X (.Call (.Name x p) (a :: es) [] pos) (tE g (eCb o fs)) :=
  (pe_callB hc hg hm hv ha hn hdb he hpl).imp fun _ _ _ q => tCB_of hd q
theorem r_bt {x : Str} {id : String} {p : Pos} {r : List V → Hp → VK → Prop} {o : List Ar → T D} (hc : CallR X (.type id) r) (hd : CaD r o) (hg : Gl X x) (hm : X.mg x = none) (hv : bootBuiltins x = some (.type id)) (ha : PA X (a :: es) (tA g fs))
    (hn : x ≠ "__name__" := by decide) (hdb : (x == ("__debug__" : Str)) = false := by decide)
    (he : starEach (a :: es) X.env = (false, eval a X.env) :: starEach es X.env := by rfl) (hpl : (backTo pos (starEach es X.env)).any (·.1) = false := by rfl) : PE X (.Call (.Name x p) (a :: es) [] pos) (tE g (eCb o fs)) :=
  (pe_callTy hc hg hm hv ha hn hdb he hpl).imp fun _ _ _ q => tCB_of hd q
/-! ### a def's promise in data, its call -/
/-- the def does m with its n arguments -/
def spD (cad : Cad) (n : Nat) (m : List Ar → T D) : Sp := fun vs H Q E => vs.length = n ∧ ∃ β H0 as, Same H0 H ∧ β.ok H ∧ (∀ a, β.S a → H0 a = none) ∧ TabsIn cad β ∧ HasAs β H0 vs as ∧
  (m as).wp (Out β H0 H Q) (fun x => ∀ c dx H0' H', Stp β H0 H H0' H' → ExcIs cad x c dx H0' → E c dx H')
def eCall (n : Nat) (m : List Ar → T D) (fs : Env' → T (List Ar)) : Env' → T D := fun ρ => (fs ρ).bind fun as => if as.length = n then m as else .bad
theorem tCallW_of {n : Nat} {m : List Ar → T D} {σ : L2.St} {H : Hp} {Q : VK} (q : tE g (eCall n m fs) σ H Q) : tCallW (spD g.cad n m) [] g.W (tA g fs) σ H Q := by
  obtain ⟨β, H0, ρ, rr, q⟩ := q
  refine tA_then rr q fun as vs H1 H2 st hv q1 => ?_
  by_cases hl : as.length = n
  · rw [if_pos hl] at q1
    have lv := hv.length
    rw [List.append_nil]
    exact ⟨lv.trans hl, β, H1, as, st.ext, st.ok, st.boxf, rr.tabs, hv, wp_out st q1⟩
  · rw [if_neg hl] at q1
    exact q1.elim
theorem r_call {x : Str} {p : Pos} {j n : Nat} {fa : Addr} {fd : FuncData} {ps : List Str} {m : List Ar → T D} (F : FnG X.prog X.w X.K X.mg X.base j fa fd ps (spD g.cad n m)) (hr : Room j X.A) (hgu : X.A.guards = some []) (hg : Gl X x) (hm : X.mg x = some (.ref fa))
    (hk : PySem.W.keepIn X.K (.ref fa) = true) (hb : Binds X.K fd ps []) (tk : Takes X g.W) (ha : PA X (a :: es) (tA g fs)) (hdb : (x == ("__debug__" : Str)) = false := by decide)
    (he : starEach (a :: es) X.env = (false, eval a X.env) :: starEach es X.env := by rfl) (hpl : (backTo pos (starEach es X.env)).any (·.1) = false := by rfl) : PE X (.Call (.Name x p) (a :: es) [] pos) (tE g (eCall n m fs)) :=
  (pe_callG F hr hgu hg hm hk hb .nil tk ha hdb he hpl).imp fun _ _ _ q => tCallW_of q
theorem r_call0 {x : Str} {p : Pos} {j n : Nat} {fa : Addr} {fd : FuncData} {ps : List Str} {m : List Ar → T D} (F : FnG X.prog X.w X.K X.mg X.base j fa fd ps (spD g.cad n m)) (hr : Room j X.A) (hgu : X.A.guards = some []) (hg : Gl X x) (hm : X.mg x = some (.ref fa))
    (hk : PySem.W.keepIn X.K (.ref fa) = true) (hb : Binds X.K fd ps []) (tk : Takes X g.W) (hdb : (x == ("__debug__" : Str)) = false := by decide) : PE X (.Call (.Name x p) [] [] pos) (tE g (eCall n m aNil)) :=
  (pe_callG0 F hr hgu hg hm hk hb .nil tk hdb).imp fun σ H Q ⟨β, H0, ρ, rr, q⟩ => by
    refine tCallW_of (fs := aNil) ⟨β, H0, ρ, rr, q⟩ |> fun z => ?_
    obtain ⟨β', H0', ρ', rr', z⟩ := z
    exact z [] H0' H rr'.refl .nil
/-! ### slices -/
def tO (g : Ct) (f : Env' → T (Option Int)) : TO := fun σ H Q => ∃ β H0 ρ, Rel g.cad β g.ξ H0 ρ σ H ∧ (f ρ).wp (fun o => ∀ H0' H', Stp β H0 H H0' H' → Q o H') (g.X β H0 H σ)
def pNone : Env' → T (Option Int) := fun _ => .ret none
def pSome (f : Env' → T D) : Env' → T (Option Int) := fun ρ => (f ρ).bind fun d => match d with
  | .int i => .ret (some i)
  | _ => .bad
theorem p_none : PO X none (tO g pNone) := po_none.imp fun _ _ _ ⟨_, H0, _, r, q⟩ => q H0 _ r.refl
theorem p_some (ha : PE X a (tE g f)) : PO X (some a) (tO g (pSome f)) := (po_some ha).imp fun σ H Q ⟨β, H0, ρ, rr, q⟩ => tE_then rr q fun d v H1 H2 st hv q1 => by
  cases hv with
  | int i => exact ⟨i, rfl, q1 H1 H2 st⟩
  | _ => exact q1.elim
def cutD (xs : List D) (lo hi : Option Int) : List D := (xs.drop (HT.sIx xs.length 0 lo)).take (HT.sIx xs.length xs.length hi - HT.sIx xs.length 0 lo)
theorem HasL.cut {H : Hp} {vs : List V} {ds : List D} (h : HasL H vs ds) (lo hi : Option Int) : HasL H (cutV vs lo hi) (cutD ds lo hi) := by
  unfold cutV cutD
  rw [h.length]
  exact (h.drop _).take _
def oSl (x : D) (lo hi : Option Int) : T D := match x with
  | .list xs => .ret (.list (cutD xs lo hi))
  | .tuple xs => .ret (.tuple (cutD xs lo hi))
  | _ => .bad
def eSl (f : Env' → T D) (l u : Env' → T (Option Int)) : Env' → T D := fun ρ => (f ρ).bind fun x => (l ρ).bind fun lo => (u ρ).bind fun hi => oSl x lo hi
variable {lo hi : Option Expr} {l u : Env' → T (Option Int)} {p2 : Pos}
theorem tO_then {α : Type} {β : Box} {H0 H : Hp} {σ : L2.St} {ρ : Env'} {ff : Env' → T (Option Int)} {kk : Option Int → T α} {P : α → Prop} {Q : Option Int → Hp → Prop} (r : Rel g.cad β g.ξ H0 ρ σ H) (h : ((ff ρ).bind kk).wp P (g.X β H0 H σ))
    (hq : ∀ o H0' H', Stp β H0 H H0' H' → (kk o).wp P (g.X β H0 H σ) → Q o H') : tO g ff σ H Q :=
  ⟨β, H0, ρ, r, T.wp_mono (fun d hd H0' H' st => hq d H0' H' st hd) (fun _ h => h) _ ((T.wp_bind _ _).mp h)⟩
theorem r_sl (ha : PE X a (tE g f)) (hl : PO X lo (tO g l)) (hu : PO X hi (tO g u)) : PE X (.Subscript a (.Slice lo hi none p2) pos) (tE g (eSl f l u)) :=
  (pe_slice (SlR.or sl_list sl_tupS) ha hl hu).imp fun σ H Q ⟨β, H0, ρ, rr, q⟩ => tE_then rr q fun d v H1 H2 st hv q1 => by
    have rr1 := rr.step st
    refine tO_then rr1 (wp_out st q1) fun o1 H3 H4 st2 q2 => ?_
    have rr2 := rr1.step st2
    refine tO_then rr2 (wp_out st2 q2) fun o2 H5 H6 st3 q3 => ?_
    have q4 := wp_out st3 q3
    have hv' := (hv.mono st2.grow).mono st3.grow
    cases hv' with
    | lst h1 h2 =>
      refine .inl ⟨_, _, rfl, SqL.of (st3.ext _ _ h1), fun p hp => ?_⟩
      have hp1 : H5 p = none := st3.ext.free hp
      exact q4 (.ref p) _ _ (Stp.new st3.ext st3.ok st3.boxf hp) (.lst upd_same (upd_has hp1 (h2.cut _ _)))
    | @tup a ob xs ds h1 hdn h2 =>
      refine .inr ⟨_, _, rfl, sqF (st3.ext _ _ h1), fun hw => ?_, fun hw p o hp hz => ?_⟩
      · have ec : cutD ds o1 o2 = ds := by
          unfold cutD
          rw [← h2.length, hw.1, hw.2]
          simp [h2.length]
        have q5 : (T.ret (PyData.tuple ds)).wp (Out β H5 H6 Q) (g.X β H5 H6 σ) := by
          have z : (T.ret (PyData.tuple (cutD ds o1 o2))).wp (Out β H5 H6 Q) (g.X β H5 H6 σ) := q4
          rw [ec] at z
          exact z
        exact q5 (.ref a) H5 H6 (Stp.refl st3.ext st3.ok st3.boxf) (.tup h1 hdn h2)
      · have hp1 : H5 p = none := st3.ext.free hp
        exact q4 (.ref p) _ _ (Stp.new st3.ext st3.ok st3.boxf hp) (.tup upd_same hz (upd_has hp1 (h2.cut _ _)))
    | _ => exact q4.elim
end
end Wb
set_option Elab.async false
set_option linter.all false
set_option maxRecDepth 100000
set_option maxHeartbeats 4000000
/-! Wb, part 3: the operations on data. -/
namespace Wb
open PySem PySem.Spec PyProof.Rows L2
theorem opOr {X : Cx} {f : Value → Value → Sem Value} {r r' : R2} (h : OpR X f r) (h' : OpR X f r') : OpR X f (fun x y H Q => r x y H Q ∨ r' x y H Q) := by
  intro pins s σ H x y v u Q I rx ry q
  cases q with
  | inl q => exact h pins s σ H x y v u Q I rx ry q
  | inr q => exact h' pins s σ H x y v u Q I rx ry q
section
variable {β : Box} {H0 H : Hp} {Q : VK} {E : Exn → Prop}
theorem out_ret {v : V} {d : D} (e : Same H0 H) (ok : β.ok H) (bf : ∀ a, β.S a → H0 a = none) (hv : Has H0 v d) (q : (T.ret d).wp (Out β H0 H Q) E) : Q v H := q v H0 H (Stp.refl e ok bf) hv
theorem out_lst {p : Addr} {vs : List V} {ds : List D} (e : Same H0 H) (ok : β.ok H) (bf : ∀ a, β.S a → H0 a = none) (hp : H p = none) (hv : HasL H0 vs ds) (q : (T.ret (PyData.list ds)).wp (Out β H0 H Q) E) : Q (.ref p) (upd H p (.lst vs)) :=
  q (.ref p) _ _ (Stp.new e ok bf hp) (.lst upd_same (upd_has (e.free hp) hv))
theorem out_tup {p : Addr} {o : Obj} {vs : List V} {ds : List D} (e : Same H0 H) (ok : β.ok H) (bf : ∀ a, β.S a → H0 a = none) (hp : H p = none) (hz : o.dict = none) (hv : HasL H0 vs ds) (q : (T.ret (PyData.tuple ds)).wp (Out β H0 H Q) E) : Q (.ref p) (upd H p (.frz o (.tup vs))) :=
  q (.ref p) _ _ (Stp.new e ok bf hp) (.tup upd_same hz (upd_has (e.free hp) hv))
end
/-! ### + - * // % ** -/
def oAdd : D → D → T D
  | .int i, .int j => .ret (.int (i + j))
  | .str x, .str y => if x.length + y.length ≤ 1000000 then .ret (.str (x ++ y)) else .bad
  | .tuple xs, .tuple ys => if xs.length + ys.length ≤ 1000000 then .ret (.tuple (xs ++ ys)) else .bad
  | .list xs, .list ys => if xs.length + ys.length ≤ 1000000 then .ret (.list (xs ++ ys)) else .bad
  | _, _ => .bad
def rAddD (K : PySem.W.Frag) : R2 := fun x y H Q => rI0 (fun i j => .int (i + j)) x y H Q ∨ (∃ i j, x = .str i ∧ y = .str j ∧ i.length + j.length ≤ sizeLine ∧ Q (.str (i ++ j)) H) ∨ rCatST K x y H Q ∨ rCat x y H Q
theorem op_addD {X : Cx} : OpR X (binaryOp .Add) (rAddD X.K) := opOr op_add (opOr op_add_str (opOr op_catS op_cat))
theorem d_add {K : PySem.W.Frag} : OpD (rAddD K) oAdd := by
  intro β H0 H v w x y Q E e ok bf hv hw q
  cases hv with
  | int i =>
    cases hw with
    | int j => exact .inl ⟨i, j, rfl, rfl, out_ret e ok bf (.int _) q⟩
    | _ => exact q.elim
  | str a =>
    cases hw with
    | str b =>
      have q : (if a.length + b.length ≤ 1000000 then T.ret (PyData.str (a ++ b)) else .bad).wp (Out β H0 H Q) E := q
      by_cases z : a.length + b.length ≤ 1000000
      · rw [if_pos z] at q
        exact .inr (.inl ⟨a, b, rfl, rfl, lim_line z, out_ret e ok bf (.str _) q⟩)
      · rw [if_neg z] at q
        exact q.elim
    | _ => exact q.elim
  | @tup a ob xs ds h1 hdn h2 =>
    cases hw with
    | @tup b ob' ys es h3 hdm h4 =>
      have q : (if ds.length + es.length ≤ 1000000 then T.ret (PyData.tuple (ds ++ es)) else .bad).wp (Out β H0 H Q) E := q
      by_cases z : ds.length + es.length ≤ 1000000
      · rw [if_pos z] at q
        have l1 := h2.length
        have l2 := h4.length
        refine .inr (.inr (.inl ⟨a, b, xs, ys, rfl, rfl, sqF (e _ _ h1), sqF (e _ _ h3), lim_line (by omega), fun ex => ?_, fun _ ey => ?_, fun _ _ p o hp hz => ?_⟩))
        · subst ex
          cases h2
          exact out_ret e ok bf (.tup h3 hdm h4) q
        · subst ey
          cases h4
          rw [List.append_nil] at q
          exact out_ret e ok bf (.tup h1 hdn h2) q
        · exact out_tup e ok bf hp hz (h2.append h4) q
      · rw [if_neg z] at q
        exact q.elim
    | _ => exact q.elim
  | @lst a xs ds h1 h2 =>
    cases hw with
    | @lst b ys es h3 h4 =>
      have q : (if ds.length + es.length ≤ 1000000 then T.ret (PyData.list (ds ++ es)) else .bad).wp (Out β H0 H Q) E := q
      by_cases z : ds.length + es.length ≤ 1000000
      · rw [if_pos z] at q
        have l1 := h2.length
        have l2 := h4.length
        exact .inr (.inr (.inr ⟨a, b, xs, ys, rfl, rfl, e _ _ h1, e _ _ h3, lim_line (by omega), fun p hp => out_lst e ok bf hp (h2.append h4) q⟩))
      · rw [if_neg z] at q
        exact q.elim
    | _ => exact q.elim
  | _ => exact q.elim
def oInt2 (C : Int → Int → Bool) (h : Int → Int → D) : D → D → T D
  | .int i, .int j => if C i j = true then .ret (h i j) else .bad
  | _, _ => .bad
theorem d_int2 {r : R2} {C : Int → Int → Bool} {h : Int → Int → D} (hr : ∀ (i j : Int) (H : Hp) (Q : VK) (v : V), C i j = true → (∀ H0, Has H0 v (h i j)) → Q v H → r (.int i) (.int j) H Q) (hv' : ∀ i j, ∃ v, ∀ H0, Has H0 v (h i j)) : OpD r (oInt2 C h) := by
  intro β H0 H v w x y Q E e ok bf hv hw q
  cases hv with
  | int i =>
    cases hw with
    | int j =>
      have q : (if C i j = true then T.ret (h i j) else .bad).wp (Out β H0 H Q) E := q
      by_cases z : C i j = true
      · rw [if_pos z] at q
        obtain ⟨u, hu⟩ := hv' i j
        exact hr i j H Q u z hu (out_ret e ok bf (hu H0) q)
      · rw [if_neg z] at q
        exact q.elim
    | _ => exact q.elim
  | _ => exact q.elim
abbrev oSub := oInt2 (fun _ _ => true) (fun i j => .int (i - j))
theorem has_int_eq {v : V} {i : Int} (h : ∀ H0, Has H0 v (.int i)) : v = .int i := by
  cases h (fun _ => none)
  rfl
theorem has_bl_eq {v : V} {b : Bool} (h : ∀ H0, Has H0 v (.bool b)) : v = .bl b := by
  cases h (fun _ => none)
  rfl
theorem d_sub : OpD (rI0 fun i j => .int (i - j)) oSub := d_int2 (fun i j H Q v _ hv q => by
  rw [has_int_eq hv] at q
  exact ⟨i, j, rfl, rfl, q⟩) fun i j => ⟨.int _, fun _ => .int _⟩
/-- a factor below 2 ^ 64, or both together below a million bits; also a tuple, a list so many times -/
def cMul (i j : Int) : Bool := decide (i.natAbs < 18446744073709551616) || decide (j.natAbs < 18446744073709551616) || decide (i.natAbs.log2 + j.natAbs.log2 < 1000000)
def oMul : D → D → T D
  | .int i, .int j => if cMul i j = true then .ret (.int (i * j)) else .bad
  | .tuple xs, .int k => if xs ≠ [] ∧ 2 ≤ k ∧ k ≤ 1000 ∧ xs.length ≤ 1000 then .ret (.tuple (List.replicate k.toNat xs).flatten) else .bad
  | .list xs, .int k => if 0 ≤ k ∧ k ≤ 1000 ∧ xs.length ≤ 1000 then .ret (.list (List.replicate k.toNat xs).flatten) else .bad
  | _, _ => .bad
def rMulD (K : PySem.W.Frag) : R2 := fun x y H Q => rI CMul (fun i j => .int (i * j)) x y H Q ∨ rI CMulW (fun i j => .int (i * j)) x y H Q ∨ rRepST K x y H Q ∨ rRep x y H Q
theorem op_mulD {X : Cx} : OpR X (binaryOp .Mult) (rMulD X.K) := opOr op_mul (opOr op_mulW (opOr op_repST op_rep))
theorem HasL.rep {H : Hp} {vs : List V} {ds : List D} (h : HasL H vs ds) : ∀ n : Nat, HasL H (List.replicate n vs).flatten (List.replicate n ds).flatten
  | 0 => .nil
  | n + 1 => by
    rw [List.replicate_succ, List.replicate_succ, List.flatten_cons, List.flatten_cons]
    exact h.append (HasL.rep h n)
theorem natAbs_small {i : Int} (h : i.natAbs < 18446744073709551616) : -(2 ^ 64) < i ∧ i < 2 ^ 64 := by
  constructor <;> omega
theorem cMul_int {i j : Int} (h : cMul i j = true) : CMul i j ∨ CMulW i j := by
  unfold cMul at h
  simp only [Bool.or_eq_true, decide_eq_true_eq] at h
  rcases h with (h | h) | h
  · exact .inl (.inl (natAbs_small h))
  · exact .inl (.inr (natAbs_small h))
  · exact .inr h
theorem d_mul {K : PySem.W.Frag} : OpD (rMulD K) oMul := by
  intro β H0 H v w x y Q E e ok bf hv hw q
  cases hv with
  | int i =>
    cases hw with
    | int j =>
      have q : (if cMul i j = true then T.ret (PyData.int (i * j)) else .bad).wp (Out β H0 H Q) E := q
      by_cases z : cMul i j = true
      · rw [if_pos z] at q
        rcases cMul_int z with c | c
        · exact .inl ⟨i, j, rfl, rfl, c, out_ret e ok bf (.int _) q⟩
        · exact .inr (.inl ⟨i, j, rfl, rfl, c, out_ret e ok bf (.int _) q⟩)
      · rw [if_neg z] at q
        exact q.elim
    | _ => exact q.elim
  | @tup a ob xs ds h1 hdn h2 =>
    cases hw with
    | int k =>
      have q : (if ds ≠ [] ∧ 2 ≤ k ∧ k ≤ 1000 ∧ ds.length ≤ 1000 then T.ret (PyData.tuple (List.replicate k.toNat ds).flatten) else .bad).wp (Out β H0 H Q) E := q
      by_cases z : ds ≠ [] ∧ 2 ≤ k ∧ k ≤ 1000 ∧ ds.length ≤ 1000
      · rw [if_pos z] at q
        have l1 := h2.length
        have ne : xs ≠ [] := fun c => by
          subst c
          cases h2
          exact z.1 rfl
        exact .inr (.inr (.inl ⟨a, k, xs, rfl, rfl, sqF (e _ _ h1), ne, z.2.1, z.2.2.1, by omega, fun p o hp hz => out_tup e ok bf hp hz (h2.rep _) q⟩))
      · rw [if_neg z] at q
        exact q.elim
    | _ => exact q.elim
  | @lst a xs ds h1 h2 =>
    cases hw with
    | int k =>
      have q : (if 0 ≤ k ∧ k ≤ 1000 ∧ ds.length ≤ 1000 then T.ret (PyData.list (List.replicate k.toNat ds).flatten) else .bad).wp (Out β H0 H Q) E := q
      by_cases z : 0 ≤ k ∧ k ≤ 1000 ∧ ds.length ≤ 1000
      · rw [if_pos z] at q
        have l1 := h2.length
        have hk : xs.length * k.toNat ≤ 1000 * 1000 := Nat.mul_le_mul (by omega) (by omega)
        refine .inr (.inr (.inr ⟨a, k, xs, rfl, rfl, e _ _ h1, by omega, by omega, lim_line (by omega), fun p hp => ?_⟩))
        exact out_lst e ok bf hp (h2.rep _) q
      · rw [if_neg z] at q
        exact q.elim
    | _ => exact q.elim
  | _ => exact q.elim
def rFdivD : R2 := fun x y H Q => rI CDivN (fun i j => .int (i.fdiv j)) x y H Q ∨ rI CDivW (fun i j => .int (i / j)) x y H Q
theorem op_fdivD {X : Cx} : OpR X (binaryOp .FloorDiv) rFdivD := opOr op_fdivN op_fdivW
abbrev oPow := oInt2 (fun i j => decide (0 ≤ j) && decide (j ≤ 1000) && decide (i.natAbs < 1000)) (fun i j => .int (i ^ j.toNat))
theorem d_pow : OpD (rI CPow fun i j => .int (i ^ j.toNat)) oPow := d_int2 (fun i j H Q v c hv q => by
  rw [has_int_eq hv] at q
  simp only [Bool.and_eq_true, decide_eq_true_eq] at c
  exact ⟨i, j, rfl, rfl, ⟨c.1.1, by omega, by omega⟩, q⟩) fun i j => ⟨.int _, fun _ => .int _⟩
def oNeg : D → T D
  | .int i => .ret (.int (-i))
  | _ => .bad
theorem d_neg : UnD (rU fun i => .int (-i)) oNeg := by
  intro β H0 H v x Q E e ok bf hv q
  cases hv with
  | int i => exact ⟨i, rfl, out_ret e ok bf (.int _) q⟩
  | _ => exact q.elim
/-! ### comparisons -/
abbrev oCmp (c : Int → Int → Bool) := oInt2 (fun _ _ => true) (fun i j => .bool (c i j))
theorem d_cmp {c : Int → Int → Bool} : OpD (rI0 fun i j => .bl (c i j)) (oCmp c) := d_int2 (fun i j H Q v _ hv q => by
  rw [has_bl_eq hv] at q
  exact ⟨i, j, rfl, rfl, q⟩) fun i j => ⟨.bl _, fun _ => .bl _⟩
theorem u_cmp {c : Int → Int → Bool} : PuD (rI0 fun i j => .bl (c i j)) (oCmp c) := by
  intro H0 H v w x y α Q P E k e hv hw q h1 h2
  cases hv with
  | int i =>
    cases hw with
    | int j => exact ⟨i, j, rfl, rfl, h1 _ _ rfl q⟩
    | _ => exact q.elim
  | _ => exact q.elim
abbrev oLt := oCmp fun i j => decide (i < j)
abbrev oLe := oCmp fun i j => decide (i ≤ j)
abbrev oGt := oCmp fun i j => decide (j < i)
abbrev oGe := oCmp fun i j => decide (j ≤ i)
mutual
theorem Has.dp {K : PySem.W.Frag} {H0 H : Hp} (e : Same H0 H) : ∀ {v : V} {d : D}, Has H0 v d → d.hasDict = false → Dp K H v d
  | _, _, .non, _ => .non
  | _, _, .bl b, _ => .bl b
  | _, _, .int i, _ => .int i
  | _, _, .str x, _ => .str x
  | _, _, .lst h r, n => .lst (SqL.of (e _ _ h)) (HasL.dp e r n)
  | _, _, .tup h _ r, n => .tup (sqF (e _ _ h)) (HasL.dp e r n)
  | _, _, .dct h r, n => by cases n
theorem HasL.dp {K : PySem.W.Frag} {H0 H : Hp} (e : Same H0 H) : ∀ {v : List V} {d : List D}, HasL H0 v d → PyData.hasDictAll d = false → DpAll K H v d
  | _, _, .nil, _ => .nil
  | _, _, .cons h r, n => by
    unfold PyData.hasDictAll at n
    rw [Bool.or_eq_false_iff] at n
    exact .cons (Has.dp e h n.1) (HasL.dp e r n.2)
end
def cEq (x : D) : Bool := !x.hasDict && SeqAt.shaped x
def twoStr : D → D → Bool
  | .str _, .str _ => true
  | _, _ => false
def oEq (x y : D) : T D := if (twoStr x y || (cEq x && cEq y)) = true then .ret (.bool (PyData.eqv x y)) else .bad
def oNe (x y : D) : T D := if (twoStr x y || (cEq x && cEq y)) = true then .ret (.bool (!PyData.eqv x y)) else .bad
theorem op_eqW {X : Cx} (hu : X.A.units + 64 < cLine) : OpR X (compareOp .Eq) (fun x y H Q => rEq x y H Q ∨ rEqD X.K x y H Q) := opOr op_eq (op_eqD hu)
theorem op_neW {X : Cx} (hu : X.A.units + 64 < cLine) : OpR X (compareOp .NotEq) (fun x y H Q => rNe x y H Q ∨ rNeD X.K x y H Q) := opOr op_ne (op_neD hu)
theorem cEq_of {x : D} (h : cEq x = true) : x.hasDict = false ∧ SeqAt.shaped x = true := by
  unfold cEq at h
  rw [Bool.and_eq_true] at h
  exact ⟨by simpa using h.1, h.2⟩
theorem d_eq {K : PySem.W.Frag} : OpD (fun x y H Q => rEq x y H Q ∨ rEqD K x y H Q) oEq := by
  intro β H0 H v w x y Q E e ok bf hv hw q
  unfold oEq at q
  split at q
  · next c =>
    rw [Bool.or_eq_true] at c
    rcases c with c | c
    · cases hv with
      | str a =>
        cases hw with
        | str b =>
          refine .inl ⟨rfl, ?_⟩
          rw [dec_str]
          exact out_ret e ok bf (.bl _) q
        | _ => cases c
      | _ => cases c
    · rw [Bool.and_eq_true] at c
      obtain ⟨a1, a2⟩ := cEq_of c.1
      obtain ⟨b1, b2⟩ := cEq_of c.2
      exact .inr ⟨x, y, hv.dp e a1, hw.dp e b1, a2, b2, out_ret e ok bf (.bl _) q⟩
  · exact q.elim
theorem d_ne {K : PySem.W.Frag} : OpD (fun x y H Q => rNe x y H Q ∨ rNeD K x y H Q) oNe := by
  intro β H0 H v w x y Q E e ok bf hv hw q
  unfold oNe at q
  split at q
  · next c =>
    rw [Bool.or_eq_true] at c
    rcases c with c | c
    · cases hv with
      | str a =>
        cases hw with
        | str b =>
          refine .inl ⟨rfl, ?_⟩
          rw [dec_str]
          exact out_ret e ok bf (.bl _) q
        | _ => cases c
      | _ => cases c
    · rw [Bool.and_eq_true] at c
      obtain ⟨a1, a2⟩ := cEq_of c.1
      obtain ⟨b1, b2⟩ := cEq_of c.2
      exact .inr ⟨x, y, hv.dp e a1, hw.dp e b1, a2, b2, out_ret e ok bf (.bl _) q⟩
  · exact q.elim
/-- is None -/
def oIsN (x y : D) : T D := match y with
  | .none => .ret (.bool (match x with | .none => true | _ => false))
  | _ => .bad
def oNotN (x y : D) : T D := match y with
  | .none => .ret (.bool (match x with | .none => false | _ => true))
  | _ => .bad
theorem d_isN : OpD (fun x y H Q => y = .non ∧ Q (.bl (decide (x = .non))) H) oIsN := by
  intro β H0 H v w x y Q E e ok bf hv hw q
  cases hw with
  | non =>
    refine ⟨rfl, ?_⟩
    cases hv <;> exact out_ret e ok bf (.bl _) q
  | _ => exact q.elim
theorem d_notN : OpD (fun x y H Q => y = .non ∧ Q (.bl (!decide (x = .non))) H) oNotN := by
  intro β H0 H v w x y Q E e ok bf hv hw q
  cases hw with
  | non =>
    refine ⟨rfl, ?_⟩
    cases hv <;> exact out_ret e ok bf (.bl _) q
  | _ => exact q.elim
/-! ### items -/
def oIx : D → D → T D
  | .list xs, .int i => match atI xs i with
    | some d => .ret d
    | none => .bad
  | .tuple xs, .int i => match atI xs i with
    | some d => .ret d
    | none => .bad
  | _, _ => .bad
theorem atI_has {H : Hp} {vs : List V} {ds : List D} {i : Int} {d : D} (h : HasL H vs ds) (e : atI ds i = some d) : ∃ v, atI vs i = some v ∧ Has H v d := by
  unfold atI at e ⊢
  rw [h.length]
  cases q : ixN ds.length i with
  | none =>
    rw [q] at e
    cases e
  | some j =>
    rw [q] at e
    exact h.getD e
theorem d_ix {K : PySem.W.Frag} : OpD (rIx K) oIx := by
  intro β H0 H v w x y Q E e ok bf hv hw q
  cases hv with
  | lst h1 h2 =>
    cases hw with
    | int i =>
      unfold oIx at q
      simp only at q
      split at q
      · next d hd =>
        obtain ⟨u, hu, hh⟩ := atI_has h2 hd
        exact .inl ⟨_, _, i, u, rfl, rfl, SqL.of (e _ _ h1), hu, out_ret e ok bf hh q⟩
      · exact q.elim
    | _ => exact q.elim
  | tup h1 hdn h2 =>
    cases hw with
    | int i =>
      unfold oIx at q
      simp only at q
      split at q
      · next d hd =>
        obtain ⟨u, hu, hh⟩ := atI_has h2 hd
        exact .inr (.inl ⟨_, _, i, u, rfl, rfl, sqF (e _ _ h1), hu, out_ret e ok bf hh q⟩)
      · exact q.elim
    | _ => exact q.elim
  | _ => exact q.elim
/-! ### built-in calls -/
def oLen : List Ar → T D
  | [.d (.list xs)] => .ret (.int xs.length)
  | [.d (.tuple xs)] => .ret (.int xs.length)
  | _ => .bad
theorem d_len {K : PySem.W.Frag} : CaD (fun xs H Q => ∃ p ys, xs = [.ref p] ∧ (SqL K H p ys ∨ SqT K H p ys) ∧ Q (.int ys.length) H) oLen := by
  intro β H0 H vs as Q E e ok bf hv q
  cases hv with
  | nil => exact q.elim
  | @cons v vs a as h1 h2 =>
    cases a with
    | box _ => exact q.elim
    | mil => exact q.elim
    | d x =>
      cases h2 with
      | cons _ _ =>
        cases x <;> exact q.elim
      | nil =>
        cases (show Has H0 v x from h1) with
        | lst a1 a2 =>
          refine ⟨_, _, rfl, .inl (SqL.of (e _ _ a1)), ?_⟩
          rw [a2.length]
          exact out_ret e ok bf (.int _) q
        | tup a1 hdn a2 =>
          refine ⟨_, _, rfl, .inr (sqF (e _ _ a1)), ?_⟩
          rw [a2.length]
          exact out_ret e ok bf (.int _) q
        | _ => exact q.elim
/-- one argument of data -/
def o1 (o : D → T D) : List Ar → T D
  | [.d x] => o x
  | _ => .bad
def o2 (o : D → D → T D) : List Ar → T D
  | [.d x, .d y] => o x y
  | _ => .bad
theorem d_1 {r : List V → Hp → VK → Prop} {o : D → T D} (h : UnD (fun v H Q => r [v] H Q) o) : CaD r (o1 o) := by
  intro β H0 H vs as Q E e ok bf hv q
  cases hv with
  | nil => exact q.elim
  | @cons v vs a as h1 h2 =>
    cases a with
    | box _ =>
      cases h2 <;> exact q.elim
    | mil =>
      cases h2 <;> exact q.elim
    | d x =>
      cases h2 with
      | cons _ _ => exact q.elim
      | nil => exact h e ok bf h1 q
def oAbs : D → T D
  | .int i => .ret (.int (if i < 0 then -i else i))
  | _ => .bad
def oInt : D → T D
  | .int i => .ret (.int i)
  | .bool b => .ret (.int (if b then 1 else 0))
  | _ => .bad
theorem d_int : CaD (fun xs H Q => (∃ i, xs = [.int i] ∧ Q (.int i) H) ∨ ∃ k, xs = [.bl k] ∧ Q (.int (if k then 1 else 0)) H) (o1 oInt) := by
  apply d_1
  intro β H0 H v x Q E e ok bf hv q
  cases hv with
  | int i => exact .inl ⟨i, rfl, out_ret e ok bf (.int _) q⟩
  | bl b => exact .inr ⟨b, rfl, out_ret e ok bf (.int _) q⟩
  | _ => exact q.elim
/-- a list of ints -/
def intsOf : List D → Option (List Int)
  | [] => some []
  | .int i :: r => (intsOf r).map (i :: ·)
  | _ :: _ => none
@[simp] theorem intsOf_map : ∀ ns : List Int, intsOf (ns.map PyData.int) = some ns
  | [] => rfl
  | n :: ns => by
    rw [List.map_cons]
    show (intsOf (ns.map PyData.int)).map (n :: ·) = _
    rw [intsOf_map ns]
    rfl
def oSum : D → T D
  | .list ds => match intsOf ds with
    | some ns => .ret (.int ns.sum)
    | none => .bad
  | _ => .bad
def oTupleOf : D → T D
  | .list ds => .ret (.tuple ds)
  | .tuple ds => .ret (.tuple ds)
  | _ => .bad
theorem d_tuple {K : PySem.W.Frag} : CaD (fun xs H Q => ∃ p ys, xs = [.ref p] ∧ ((SqL K H p ys ∧ QT Q H ys) ∨ (SqT K H p ys ∧ Q (.ref p) H))) (o1 oTupleOf) := by
  apply d_1
  intro β H0 H v x Q E e ok bf hv q
  cases hv with
  | lst h1 h2 => exact ⟨_, _, rfl, .inl ⟨SqL.of (e _ _ h1), fun p o hp hz => out_tup e ok bf hp hz h2 q⟩⟩
  | tup h1 hdn h2 => exact ⟨_, _, rfl, .inr ⟨sqF (e _ _ h1), out_ret e ok bf (.tup h1 hdn h2) q⟩⟩
  | _ => exact q.elim
def oListOf : D → T D
  | .list ds => .ret (.list ds)
  | .tuple ds => .ret (.list ds)
  | _ => .bad
def boolsOf : List D → Option (List Bool)
  | [] => some []
  | .bool i :: r => (boolsOf r).map (i :: ·)
  | _ :: _ => none
theorem boolsOf_some : ∀ {ds : List D} {ns : List Bool}, boolsOf ds = some ns → ds = ns.map PyData.bool
  | [], ns, h => by
    cases h
    rfl
  | .bool i :: r, ns, h => by
    unfold boolsOf at h
    cases q : boolsOf r with
    | none =>
      rw [q] at h
      cases h
    | some es =>
      rw [q] at h
      cases h
      rw [boolsOf_some q]
      rfl
  | .none :: _, _, h => by cases h
  | .int _ :: _, _, h => by cases h
  | .str _ :: _, _, h => by cases h
  | .list _ :: _, _, h => by cases h
  | .tuple _ :: _, _, h => by cases h
  | .dict _ :: _, _, h => by cases h
@[simp] theorem boolsOf_map : ∀ ns : List Bool, boolsOf (ns.map PyData.bool) = some ns
  | [] => rfl
  | n :: ns => by
    rw [List.map_cons]
    show (boolsOf (ns.map PyData.bool)).map (n :: ·) = _
    rw [boolsOf_map ns]
    rfl
theorem HasL.bools_eq {H : Hp} : ∀ {vs : List V} {ns : List Bool}, HasL H vs (ns.map PyData.bool) → vs = ns.map V.bl
  | _, [], .nil => rfl
  | _, n :: ns, h => by
    rw [List.map_cons] at h
    cases h with
    | cons h1 h2 =>
      cases h1
      rw [HasL.bools_eq h2]
      rfl
def oAll : D → T D
  | .list ds => match boolsOf ds with
    | some bs => .ret (.bool (bs.all id))
    | none => .bad
  | _ => .bad
theorem d_all {K : PySem.W.Frag} : CaD (rAll K) (o1 oAll) := by
  apply d_1
  intro β H0 H v x Q E e ok bf hv q
  cases hv with
  | lst h1 h2 =>
    unfold oAll at q
    simp only at q
    split at q
    · next ns hn =>
      rw [boolsOf_some hn] at h2
      rw [h2.bools_eq] at h1
      exact ⟨_, ns, rfl, SqL.of (e _ _ h1), out_ret e ok bf (.bl _) q⟩
    · exact q.elim
  | _ => exact q.elim
/-! ### isinstance(x, T) -/
def tyD : D → String
  | .none => "NoneType"
  | .bool _ => "bool"
  | .int _ => "int"
  | .str _ => "str"
  | .list _ => "list"
  | .tuple _ => "tuple"
  | .dict _ => "dict"
/-- isinstance of data: bool is int too -/
def isaD (n : String) (d : D) : Bool := tyD d == n || (n == "int" && tyD d == "bool")
theorem Has.ty {K : PySem.W.Frag} {H0 H : Hp} {v : V} {d : D} (e : Same H0 H) (h : Has H0 v d) : TyX K H v (.type (tyD d)) := by
  cases h with
  | non => exact .base .non
  | bl b => exact .base (.bl b)
  | int i => exact .base (.int i)
  | str x => exact .base (.str x)
  | lst a b => exact .base (.lst (e _ _ a))
  | tup a hdn b => exact .fTuple (e _ _ a)
  | dct a b => exact .base (.dK (e _ _ a))
end Wb
set_option Elab.async false
set_option linter.all false
set_option maxRecDepth 100000
set_option maxHeartbeats 4000000
/-! Wb, part 4: what is walked, targets, comprehensions. -/
namespace Wb
open PySem PySem.Spec PyProof.Rows L2 RZ
/-- an iterator that gives these data -/
def Gives (J : It) (ds : List D) (H0 : Hp) : Prop := ∃ (G : Hp → Prop) (Y : Nat → Hp → V → Hp → Prop), Walk J ds.length G Y ∧ (∀ H1, Same H0 H1 → G H1) ∧
  ∀ (i : Nat) (H1 : Hp) (x : V) (H2 : Hp) (d : D) (H0' : Hp), ds[i]? = some d → Same H0 H0' → Same H0' H1 → Y i H1 x H2 →
    (H2 = H1 ∧ Has H0' x d) ∨ ∃ tp o vs es, x = .ref tp ∧ H1 tp = none ∧ o.dict = none ∧ H2 = upd H1 tp (.frz o (.tup vs)) ∧ d = .tuple es ∧ HasL H0' vs es
def tI (g : Ct) (f : Env' → T (List D)) : TI := fun σ H R => ∃ β H0 ρ, Rel g.cad β g.ξ H0 ρ σ H ∧
  (f ρ).wp (fun ds => ∀ J H0' H', Stp β H0 H H0' H' → Gives J ds H0' → R J H') (g.X β H0 H σ)
theorem _root_.L2.PI.imp {X : Cx} {tg e : Expr} {t t' : TI} (h : PI X tg e t) (i : ∀ σ H Q, t' σ H Q → t σ H Q) : PI X tg e t' := ⟨fun pins s σ H Q I q => h.run pins s σ H Q I (i _ _ _ q)⟩
theorem _root_.L2.PG.imp {X : Cx} {e : Expr} {t t' : TG} (h : PG X e t) (i : ∀ v σ H Q, t' v σ H Q → t v σ H Q) : PG X e t' := ⟨fun pins s σ H v u Q I r q => h.run pins s σ H v u Q I r (i _ _ _ _ q)⟩
theorem _root_.L2.PS.imp {X : Cx} {e : Stmt} {t t' : TS} (h : PS X e t) (i : ∀ D σ H, t' D σ H → t D σ H) : PS X e t' := ⟨fun pins s σ H D I q => h.run pins s σ H D I (i _ _ _ q)⟩
theorem _root_.L2.PSs.imp {X : Cx} {e : List Stmt} {t t' : TS} (h : PSs X e t) (i : ∀ D σ H, t' D σ H → t D σ H) : PSs X e t' := ⟨fun pins s σ H D I q => h.run pins s σ H D I (i _ _ _ q)⟩
theorem gives_list {K : PySem.W.Frag} {H0 : Hp} {a : Addr} {vs : List V} {ds : List D} (h : H0 a = some (.lst vs)) (hl : HasL H0 vs ds) : Gives (Itl K a) ds H0 := by
  refine ⟨fun H => SqL K H a vs, YAt vs, by rw [← hl.length]; exact walk_list, fun H1 e => SqL.of (e _ _ h), fun i H1 x H2 d H0' hd e0 e1 y => .inl ⟨y.1, ?_⟩⟩
  obtain ⟨d', h1, h2⟩ := hl.get y.2
  rw [hd] at h1
  cases h1
  exact h2.mono e0
theorem gives_tup {K : PySem.W.Frag} {H0 : Hp} {a : Addr} {o : Obj} {vs : List V} {ds : List D} (h : H0 a = some (.frz o (.tup vs))) (hl : HasL H0 vs ds) : Gives (Itt K a) ds H0 := by
  refine ⟨fun H => SqT K H a vs, YAt vs, by rw [← hl.length]; exact walk_tup, fun H1 e => sqF (e _ _ h), fun i H1 x H2 d H0' hd e0 e1 y => .inl ⟨y.1, ?_⟩⟩
  obtain ⟨d', h1, h2⟩ := hl.get y.2
  rw [hd] at h1
  cases h1
  exact h2.mono e0
/-- lo, lo + 1, .. -/
def rangeD (lo : Int) (n : Nat) : List D := (List.range n).map fun i => .int (lo + (i : Nat))
theorem gives_range {H0 : Hp} {lo : Int} {n : Nat} : Gives (Itr lo n) (rangeD lo n) H0 := by
  have hl : (rangeD lo n).length = n := by simp [rangeD]
  refine ⟨fun _ => True, YFn fun i => .int (lo + i), by rw [hl]; exact walk_range, fun _ _ => trivial, fun i H1 x H2 d H0' hd _ _ y => .inl ⟨y.1, ?_⟩⟩
  have e : x = .int (lo + (i : Nat)) := y.2
  have hi : i < n := by
    have := (List.getElem?_eq_some_iff.mp hd).1
    omega
  have e2 : (rangeD lo n)[i]? = some (.int (lo + (i : Nat))) := by simp [rangeD, hi]
  rw [hd] at e2
  cases e2
  rw [e]
  exact .int _
section
variable {X : Cx} {g : Ct} {a b c : Expr} {f h k : Env' → T D} {pos : Pos} {tg : Expr} {es : List Expr} {fs : Env' → T (List Ar)}
/-- the items of a list or a tuple -/
def iSeq (f : Env' → T D) : Env' → T (List D) := fun ρ => (f ρ).bind fun d => match d with
  | .list ds => .ret ds
  | .tuple ds => .ret ds
  | _ => .bad
def iSeqV (K : PySem.W.Frag) (tl : TE) : TI := fun σ H R => tl σ H fun x H1 => ∃ a, x = .ref a ∧ (((∃ xs, SqL K H1 a xs) ∧ R (Itl K a) H1) ∨ ((∃ xs, SqT K H1 a xs) ∧ R (Itt K a) H1))
theorem pi_seqV {l : Expr} {tl : TE} (hl : PE X l tl) : PI X tg l (iSeqV X.K tl) := by
  constructor
  intro pins s σ H R I h
  refine thn (hl.run pins s σ H _ I h) ?_
  rintro v s1 ⟨x, H1, I1, r1, a, rfl, q1⟩
  cases r1
  have fresh : ∀ b ∈ [s1.heap.objs.size], FpOk X pins H1 b := by
    intro b hb
    rw [List.mem_singleton] at hb
    subst hb
    exact I1.fpOk (Nat.le_refl _) (I1.hok.fresh (Nat.le_refl _))
  rcases q1 with ⟨⟨xs, hq⟩, q⟩ | ⟨⟨xs, hq⟩, q⟩
  · obtain ⟨its, rv, p, hz⟩ := I1.list hq
    apply wpAny_pyIter_list p.isList
    have kept := I1.kept (t' := s1.toks) (h' := s1.heap.push { cls := .type "list_iterator", data := .fields #[.ref a, .int 0 0] })
    exact ⟨_, [s1.heap.objs.size], _, _, H1, rfl, I1.kept (t' := s1.toks) (fun b o z => Heap.get?_push_of_some _ z), turn_list a _,
      ⟨_, Heap.get?_push_size _ rfl, rfl, rfl⟩, fresh, q⟩
  · obtain ⟨its, rv, p, hz⟩ := I1.tuple hq
    apply wpAny_pyIter_tuple (show s1.heap.IsTuple a its.toArray from p)
    exact ⟨_, [s1.heap.objs.size], _, _, H1, rfl, I1.kept (t' := s1.toks) (fun b o z => Heap.get?_push_of_some _ z), turn_tuple a _,
      ⟨_, Heap.get?_push_size _ rfl, rfl, rfl⟩, fresh, q⟩
theorem i_seq (ha : PE X a (tE g f)) : PI X tg a (tI g (iSeq f)) := (pi_seqV ha).imp fun σ H R ⟨β, H0, ρ, rr, q⟩ => tE_then rr q fun d v H1 H2 st hv q1 => by
  cases hv with
  | lst h1 h2 => exact ⟨_, rfl, .inl ⟨⟨_, SqL.of (st.ext _ _ h1)⟩, q1 _ _ _ st (gives_list h1 h2)⟩⟩
  | tup h1 hdn h2 => exact ⟨_, rfl, .inr ⟨⟨_, sqF (st.ext _ _ h1)⟩, q1 _ _ _ st (gives_tup h1 h2)⟩⟩
  | _ => exact q1.elim
theorem HasAs.one {β : Box} {H0 : Hp} {vs : List V} {x : D} (h : HasAs β H0 vs [.d x]) : ∃ v, vs = [v] ∧ Has H0 v x := by
  cases h with
  | cons h1 h2 =>
    cases h2
    exact ⟨_, rfl, h1⟩
theorem HasAs.two {β : Box} {H0 : Hp} {vs : List V} {x y : D} (h : HasAs β H0 vs [.d x, .d y]) : ∃ v w, vs = [v, w] ∧ Has H0 v x ∧ Has H0 w y := by
  cases h with
  | cons h1 h2 =>
    cases h2 with
    | cons h3 h4 =>
      cases h4
      exact ⟨_, _, rfl, h1, h3⟩
theorem Has.int_eq {H0 : Hp} {v : V} {i : Int} (h : Has H0 v (.int i)) : v = .int i := by
  cases h
  rfl
def oRng1 : List Ar → T (List D)
  | [.d (.int n)] => if n.natAbs < 1000000000000 then .ret (rangeD 0 n.toNat) else .bad
  | _ => .bad
def oRng2 : List Ar → T (List D)
  | [.d (.int l), .d (.int n)] => if l.natAbs < 1000000000000 ∧ n.natAbs < 1000000000000 then .ret (rangeD l (n - l).toNat) else .bad
  | _ => .bad
def iArg (o : List Ar → T (List D)) (fs : Env' → T (List Ar)) : Env' → T (List D) := fun ρ => (fs ρ).bind o
theorem oRng1_cases {as : List Ar} {P : List D → Prop} {E : Exn → Prop} (h : (oRng1 as).wp P E) : ∃ n : Int, as = [.d (.int n)] ∧ n.natAbs < 1000000000000 ∧ P (rangeD 0 n.toNat) := by
  unfold oRng1 at h
  split at h
  · next n =>
    split at h
    · next c => exact ⟨n, rfl, c, h⟩
    · exact h.elim
  · exact h.elim
theorem oRng2_cases {as : List Ar} {P : List D → Prop} {E : Exn → Prop} (h : (oRng2 as).wp P E) :
    ∃ l n : Int, as = [.d (.int l), .d (.int n)] ∧ l.natAbs < 1000000000000 ∧ n.natAbs < 1000000000000 ∧ P (rangeD l (n - l).toNat) := by
  unfold oRng2 at h
  split at h
  · next l n =>
    split at h
    · next c => exact ⟨l, n, rfl, c.1, c.2, h⟩
    · exact h.elim
  · exact h.elim
theorem i_rng1 {p : Pos} (hg : Gl X "range") (hm : X.mg "range" = none) (ha : PA X [a] (tA g fs)) (hs : starEach [a] X.env = [(false, eval a X.env)] := by rfl) : PI X tg (.Call (.Name "range" p) [a] [] pos) (tI g (iArg oRng1 fs)) :=
  (pi_range1 hg hm ha hs).imp fun σ H R ⟨β, H0, ρ, rr, q⟩ => tA_then (k := oRng1) rr q fun as vs H1 H2 st hv q1 => by
    obtain ⟨n, e, c, hq⟩ := oRng1_cases q1
    subst e
    obtain ⟨v, rfl, hh⟩ := hv.one
    have ev := hh.int_eq
    subst ev
    exact ⟨n, rfl, by omega, by omega, hq _ H1 H2 st gives_range⟩
theorem i_rng2 {p : Pos} (hg : Gl X "range") (hm : X.mg "range" = none) (ha : PA X [a, b] (tA g fs)) (hs : starEach [a, b] X.env = [(false, eval a X.env), (false, eval b X.env)] := by rfl) (hs2 : starEach [b] X.env = [(false, eval b X.env)] := by rfl) :
    PI X tg (.Call (.Name "range" p) [a, b] [] pos) (tI g (iArg oRng2 fs)) :=
  (pi_range2 hg hm ha hs hs2).imp fun σ H R ⟨β, H0, ρ, rr, q⟩ => tA_then (k := oRng2) rr q fun as vs H1 H2 st hv q1 => by
    obtain ⟨l, n, e, c1, c2, hq⟩ := oRng2_cases q1
    subst e
    obtain ⟨v, w, rfl, h1, h2⟩ := hv.two
    have e1 := h1.int_eq
    have e2 := h2.int_eq
    subst e1 e2
    exact ⟨l, n, rfl, ⟨by omega, by omega, by omega, by omega⟩, hq _ H1 H2 st gives_range⟩
def oZip : List Ar → T (List D)
  | [.d (.list xs), .d (.list ys)] => .ret ((xs.zip ys).map fun p => .tuple [p.1, p.2])
  | [.d (.tuple xs), .d (.tuple ys)] => .ret ((xs.zip ys).map fun p => .tuple [p.1, p.2])
  | _ => .bad
/-! ### targets: names, tuples of such -/
/-- a target takes data -/
def setT : Nat → D → Env' → Env' := fun i d ρ => ρ.set i (.d d)
/-- lists of one's own: none but those that were there -/
def OwnSub (ρ : Env') (σ : L2.St) (ρ' : Env') (σ' : L2.St) : Prop := ∀ (i : Nat) (s : Sl) (o : Option V), ¬ s.bare → ρ'[i]? = some s → σ'[i]? = some o → ρ[i]? = some s ∧ σ[i]? = some o
theorem OwnSub.set {ρ : Env'} {σ : L2.St} {i : Nat} {d : D} {v : V} : OwnSub ρ σ (ρ.set i (.d d)) (σ.set i (some v)) := fun j s o nb a b => by
  rcases set_some a with ⟨_, rfl⟩ | ⟨n1, g1⟩
  · exact (nb trivial).elim
  · rcases set_some b with ⟨e, _⟩ | ⟨_, g2⟩
    · exact (n1 e).elim
    · exact ⟨g1, g2⟩
theorem OwnSub.trans {ρ ρ' ρ'' : Env'} {σ σ' σ'' : L2.St} (a : OwnSub ρ σ ρ' σ') (b : OwnSub ρ' σ' ρ'' σ'') : OwnSub ρ σ ρ'' σ'' := fun i s o nb h1 h2 =>
  let ⟨h3, h4⟩ := b i s o nb h1 h2
  a i s o nb h3 h4
/-- a reading of a target: the data go into slots of js -/
def tG (g : Ct) (js : List Nat) (bd : D → Env' → Option Env') : TG := fun v σ H Q => ∃ β H0 ρ d ρ', Rel g.cad β g.ξ H0 ρ σ H ∧ Has H0 v d ∧ bd d ρ = some ρ' ∧
  ∀ σ', Rel g.cad β g.ξ H0 ρ' σ' H → (∀ vs : List Nat, (∀ j ∈ js, j ∈ vs) → wipe σ' vs = wipe σ vs) → OwnSub ρ σ ρ' σ' → Q σ' H
def bName (i : Nat) : D → Env' → Option Env' := fun d ρ => some (ρ.set i (.d d))
theorem wipe_set {σ : L2.St} {j : Nat} {x : Option V} : ∀ {vs : List Nat}, j ∈ vs → wipe (σ.set j x) vs = wipe σ vs
  | v :: vs, h => by
    show (wipe (σ.set j x) vs).set v none = (wipe σ vs).set v none
    by_cases hm : j ∈ vs
    · rw [wipe_set hm]
    · have e : j = v := by
        rcases List.mem_cons.mp h with e | e
        · exact e
        · exact absurd e hm
      subst e
      have key : ∀ (vs : List Nat) (σ : L2.St), j ∉ vs → wipe (σ.set j x) vs = (wipe σ vs).set j x := by
        intro vs
        induction vs with
        | nil => intro σ _; rfl
        | cons w ws ih =>
          intro σ hn
          show (wipe (σ.set j x) ws).set w none = ((wipe σ ws).set w none).set j x
          rw [ih σ (fun z => hn (List.mem_cons_of_mem _ z))]
          exact List.set_comm _ _ (fun z => hn (z ▸ List.mem_cons_self))
      rw [key vs σ hm, List.set_set]
theorem g_name {i : Nat} {x : Str} {p : Pos} (h : PG X (.Name x p) (gName i)) : PG X (.Name x p) (tG g [i] (bName i)) := h.imp fun v σ H Q ⟨β, H0, ρ, d, ρ', rr, hv, e, q⟩ => by
  cases e
  exact q _ (rr.setD hv) (fun vs hj => wipe_set (hj i List.mem_cons_self)) OwnSub.set
def bNames : List Nat → List D → Env' → Option Env'
  | [], [], ρ => some ρ
  | i :: is, d :: ds, ρ => bNames is ds (ρ.set i (.d d))
  | _, _, _ => none
def bTup (is : List Nat) : D → Env' → Option Env' := fun d ρ => match d with
  | .tuple ds => bNames is ds ρ
  | _ => none
def gNames : List Nat → TGs
  | [] => gNil
  | i :: is => gCons (gName i) (gNames is)
theorem bNames_len : ∀ {is : List Nat} {ds : List D} {ρ ρ' : Env'}, bNames is ds ρ = some ρ' → ds.length = is.length
  | [], [], _, _, _ => rfl
  | _ :: is, _ :: ds, _, _, e => by simp [bNames_len (is := is) e]
  | [], _ :: _, _, _, e => by cases e
  | _ :: _, [], _, _, e => by cases e
end
/-! ### comprehensions -/
def T.quiet {α : Type} : T α → T α
  | .ret a => .ret a
  | .draw m k => .draw m fun i => (k i).quiet
  | .exc _ => .bad
  | .bad => .bad
theorem T.wp_quiet {α : Type} {P : α → Prop} {E E' : Exn → Prop} : ∀ {t : T α}, t.quiet.wp P E → t.wp P E'
  | .ret _, h => h
  | .draw _ _, h => ⟨h.1, h.2.1, fun i a b => T.wp_quiet (h.2.2 i a b)⟩
  | .exc _, h => h.elim
  | .bad, h => h
@[simp] theorem T.quiet_ret {α : Type} (a : α) : (T.ret a).quiet = .ret a := rfl
def wipeE (ρ : Env') : List Nat → Env'
  | [] => ρ
  | v :: vs => (wipeE ρ vs).set v .no
theorem Rel.wipe {cad : Cad} {β : Box} {ξ : Xi} {H0 H : Hp} {ρ : Env'} {σ : L2.St} (r : Rel cad β ξ H0 ρ σ H) : ∀ vs : List Nat, Rel cad β ξ H0 (wipeE ρ vs) (wipe σ vs) H
  | [] => r
  | v :: vs => (Rel.wipe r vs).set (sl := .no) trivial trivial
def lcGo (bd : D → Env' → Option Env') (t : Env' → T D) (e : Env' → T D) (ρ : Env') : List D → T (List D)
  | [] => .ret []
  | d :: r => match bd d ρ with
    | none => .bad
    | some ρ1 => (t ρ1).quiet.bind fun b => match b with
      | .bool true => (e ρ1).quiet.bind fun y => (lcGo bd t e ρ r).bind fun out => .ret (y :: out)
      | .bool false => lcGo bd t e ρ r
      | _ => .bad
def eLc (vs : List Nat) (it : Env' → T (List D)) (bd : D → Env' → Option Env') (t : Env' → T D) (e : Env' → T D) : Env' → T D := fun ρ =>
  (it ρ).bind fun ds => if ds.length ≤ 1000000 then (lcGo bd t e (wipeE ρ vs) ds).bind fun out => .ret (.list out) else .bad
def tTrue : Env' → T D := fun _ => .ret (.bool true)
/-- nothing is let out -/
def Ct.q (g : Ct) : Ct := { g with W := fun _ _ _ _ => False }
theorem pts_yes {X : Cx} {g : Ct} : PTs X [] (tT g tTrue) := ⟨fun pins s σ H Q I h => pts_nil.run pins s σ H Q I (by
  obtain ⟨β, H0, ρ, rr, b, e, q⟩ := h
  cases e
  exact q H0 H rr.refl)⟩
theorem pts_if {X : Cx} {g : Ct} {c : Expr} {f : Env' → T D} (h : PT X c (tT g f)) : PTs X [c] (tT g f) := pts_one h
theorem Stp.mine {β : Box} {A B C H : Hp} {p : Addr} {o : HO} (st : Stp β A B C H) (h1 : B p = none) (h2 : C p = none) (hS : ¬ β.S p) (he : ∀ c q, H p ≠ some (LamX.CodeO c q)) : Stp β A B C (upd H p o) := by
  refine ⟨st.grow, fun b u h => ?_, β.stay H _ st.ok (fun a u hs h => ?_), st.boxf, fun q u h n => ?_⟩
  · rw [upd_ne (ne_of_none h h2)]
    exact st.ext b u h
  · have na : a ≠ p := fun z => by
      subst z
      rcases hs with hs | ⟨c, q, rfl⟩
      · exact hS hs
      · exact he c q h
    rw [upd_ne na]
    exact h
  · obtain ⟨n1, k⟩ := st.priv q u h n
    refine ⟨n1, fun hs => ?_⟩
    rw [upd_ne (ne_of_none h h1)]
    exact k hs
theorem Stp.known {β : Box} {A B C H : Hp} {p : Addr} {o : HO} (st : Stp β A B C H) (h1 : B p = none) (h2 : C p = none) (hS : ¬ β.S p) (h : H p = some o) : Stp β A B (upd C p o) H := by
  refine ⟨fun b u z => ?_, fun b u z => ?_, st.ok, fun a z => ?_, fun q u z n => ?_⟩
  · have z' := st.grow b u z
    rw [upd_ne (ne_of_none z' h2)]
    exact z'
  · by_cases e : b = p
    · subst e
      rw [upd_same] at z
      rw [h]
      exact z
    · rw [upd_ne e] at z
      exact st.ext b u z
  · have na : a ≠ p := fun e => hS (e ▸ z)
    rw [upd_ne na]
    exact st.boxf a z
  · obtain ⟨n1, k⟩ := st.priv q u z n
    rw [upd_ne (ne_of_none z h1)]
    exact ⟨n1, k⟩
theorem upd_has' {H : Hp} {p : Addr} {o : HO} {v : V} {d : D} (hp : H p = none) (h : Has H v d) : Has (upd H p o) v d :=
  h.mono fun b u e => by
    rw [upd_ne (ne_of_none e hp)]
    exact e
section
variable {g : Ct} {vs js : List Nat} {it : Env' → T (List D)} {bd : D → Env' → Option Env'} {t e : Env' → T D}
theorem wipe_wipe {σ : L2.St} {ws : List Nat} : ∀ {us : List Nat}, (∀ j ∈ us, j ∈ ws) → wipe (wipe σ us) ws = wipe σ ws
  | [], _ => rfl
  | u :: us, h => by
    show wipe ((wipe σ us).set u none) ws = wipe σ ws
    rw [wipe_set (h u List.mem_cons_self)]
    exact wipe_wipe fun j hj => h j (List.mem_cons_of_mem _ hj)
/-- a new list, private so far -/
def OutL (β : Box) (H0 H : Hp) (Q : VK) (ds : List D) : Prop := ∀ p H0' H' vs, Stp β H0 H H0' H' → H p = none → H' p = some (.lst vs) → H0' p = none → ¬ β.S p → HasL H0' vs ds → Q (.ref p) H'
theorem OutL.step {β : Box} {H0 H H0' H' : Hp} {Q : VK} {ds : List D} (st : Stp β H0 H H0' H') (h : OutL β H0 H Q ds) : OutL β H0' H' Q ds := fun p H2 H3 vs s hn h1 h2 h3 h4 => by
  refine h p H2 H3 vs (st.trans s) ?_ h1 h2 h3 h4
  cases e : H p with
  | none => rfl
  | some o =>
    exfalso
    cases e0 : H0 p with
    | none =>
      by_cases hS : β.S p
      · exact h3 hS
      · have := (st.priv p o e e0).2 hS
        rw [hn] at this
        cases this
    | some u =>
      have := st.ext p u (st.grow p u e0)
      rw [hn] at this
      cases this
/-- a list that is made, from the tree of its items -/
def tEL (g : Ct) (f : Env' → T (List D)) : TE := fun σ H Q => ∃ β H0 ρ, Rel g.cad β g.ξ H0 ρ σ H ∧ (f ρ).wp (OutL β H0 H Q) (g.X β H0 H σ)
def lLc (vs : List Nat) (it : Env' → T (List D)) (bd : D → Env' → Option Env') (t : Env' → T D) (e : Env' → T D) : Env' → T (List D) := fun ρ =>
  (it ρ).bind fun ds => if ds.length ≤ 1000000 then lcGo bd t e (wipeE ρ vs) ds else .bad
/-- the list becomes known -/
theorem tEL_of {f : Env' → T (List D)} {σ : L2.St} {H : Hp} {Q : VK} (h : tE g (fun ρ => (f ρ).bind fun out => .ret (.list out)) σ H Q) : tEL g f σ H Q := by
  obtain ⟨β, H0, ρ, rr, q⟩ := h
  refine ⟨β, H0, ρ, rr, T.wp_mono (fun out z p H0' H' vs st hn h1 h2 h3 h4 => ?_) (fun _ z => z) _ ((T.wp_bind _ _).mp q)⟩
  exact z (.ref p) _ H' (st.known hn h2 h3 h1) (.lst upd_same (upd_has h2 h4))
theorem tLc_core (hj : ∀ j ∈ js, j ∈ vs) {σ : L2.St} {H : Hp} {Q : VK} (h : tEL g (lLc vs it bd t e) σ H Q) : tLc (tI g it) (tG g.q js bd) (tT g.q t) (tE g.q e) vs σ H Q := by
  obtain ⟨β, H0, ρ, rr, q⟩ := h
  refine ⟨β, H0, ρ, rr, T.wp_mono (fun ds q1 J H1 Hb st gv Dl hD => ?_) (fun _ z => z) _ ((T.wp_bind _ _).mp q)⟩
  split at q1
  · next hz =>
    have rr1 := rr.step st
    have nS : ¬ β.S Dl := fun z => by
      obtain ⟨u, w⟩ := β.here Hb Dl st.ok z
      rw [hD] at w
      cases w
    have hD1 : H1 Dl = none := st.ext.free hD
    obtain ⟨G, Y, walk, hG, hY⟩ := gv
    have q2 := q1
    refine lc_it walk (D := Dl) (fun i Hc => ∃ H0' acc outs, Stp β H1 Hb H0' Hc ∧ Hc Dl = some (.lst acc) ∧ H0' Dl = none ∧ HasL H0' acc outs ∧ outs.length ≤ i ∧
      (lcGo bd t e (wipeE ρ vs) (ds.drop i)).wp (fun rest => OutL β H1 Hb Q (outs ++ rest)) (g.X β H1 Hb σ)) ?_ ?_ ?_ ?_
    · refine ⟨H1, [], [], Stp.junk rr1.ext rr1.ok rr1.boxf hD, upd_same, hD1, .nil, Nat.le_refl _, ?_⟩
      exact T.wp_mono (fun rest z => z.step st) (fun x z => z.step st) _ q2
    · rintro i Hc _ ⟨H0', acc, outs, s, _⟩
      exact hG _ (fun b o z => s.ext b o (s.grow b o z))
    · rintro i x Hc H2 hi ⟨H0', acc, outs, s, hc, hn, hl, ho, hw⟩ hy
      have hd : ds[i]? = some ds[i] := List.getElem?_eq_getElem hi
      have ed : ds.drop i = ds[i] :: ds.drop (i + 1) := List.drop_eq_getElem_cons hi
      rw [ed] at hw
      -- the item, from a state that is known
      have turn : ∀ H0n H2n, Stp β H1 Hb H0n H2n → H2n Dl = some (.lst acc) → H0n Dl = none → HasL H0n acc outs → Has H0n x ds[i] →
          tG g.q js bd x (wipe σ vs) H2n fun σ2 H2 => wipe σ2 vs = wipe σ vs ∧ tT g.q t σ2 H2 fun b H3 => if b = true then tE g.q e σ2 H3 fun y H4 => ∃ acc, H4 Dl = some (.lst acc) ∧ acc.length < sizeLine ∧
            (∃ H0' acc' outs, Stp β H1 Hb H0' (upd H4 Dl (.lst (acc ++ [y]))) ∧ (upd H4 Dl (.lst (acc ++ [y]))) Dl = some (.lst acc') ∧ H0' Dl = none ∧ HasL H0' acc' outs ∧ outs.length ≤ i + 1 ∧
              (lcGo bd t e (wipeE ρ vs) (ds.drop (i + 1))).wp (fun rest => OutL β H1 Hb Q (outs ++ rest)) (g.X β H1 Hb σ)) else
            ∃ H0' acc' outs, Stp β H1 Hb H0' H3 ∧ H3 Dl = some (.lst acc') ∧ H0' Dl = none ∧ HasL H0' acc' outs ∧ outs.length ≤ i + 1 ∧
              (lcGo bd t e (wipeE ρ vs) (ds.drop (i + 1))).wp (fun rest => OutL β H1 Hb Q (outs ++ rest)) (g.X β H1 Hb σ) := by
        intro H0n H2n sn hcn hnn hln hx
        have rw1 := (rr1.step sn).wipe vs
        unfold lcGo at hw
        split at hw
        · exact hw.elim
        · next ρ1 hb =>
          refine ⟨β, H0n, wipeE ρ vs, ds[i], ρ1, rw1, hx, hb, fun σ2 r2 w2 _ => ⟨(w2 vs hj).trans (wipe_wipe fun _ z => z), ?_⟩⟩
          have hw2 := (T.wp_bind _ _).mp hw
          refine ⟨β, H0n, ρ1, r2, T.wp_mono (fun b hb2 => ?_) (fun _ z => z) _ (T.wp_quiet hw2)⟩
          cases b with
          | bool z =>
            refine ⟨z, rfl, fun H0m H3 st3 => ?_⟩
            have s3 := sn.trans st3
            obtain ⟨n3, k3⟩ := st3.priv Dl _ hcn hnn
            have hc3 := k3 nS
            cases z with
            | false => exact iteF ⟨H0m, acc, outs, s3, hc3, n3, hln.mono st3.grow, by omega, hb2⟩
            | true =>
              refine iteT ⟨β, H0m, ρ1, r2.step st3, T.wp_mono (fun y hy2 v H0k H4 st4 hv => ?_) (fun _ z => z) _ (T.wp_quiet ((T.wp_bind _ _).mp hb2))⟩
              obtain ⟨n4, k4⟩ := st4.priv Dl _ hc3 n3
              have hc4 := k4 nS
              have s4 := s3.trans st4
              have la := (hln.mono st3.grow).mono st4.grow
              refine ⟨acc, hc4, ?_, H0k, acc ++ [v], outs ++ [y], s4.mine hD n4 nS (ncS hc4 ncLst), upd_same, n4, la.append (.cons hv .nil), by simp; omega, ?_⟩
              · have := la.length
                rw [sizeLine_eq]
                omega
              · refine T.wp_mono (fun rest z => ?_) (fun _ z => z) _ ((T.wp_bind _ _).mp hy2)
                rw [List.append_assoc]
                exact z
          | _ => exact hb2.elim
      rcases hY i Hc x H2 ds[i] H0' hd s.grow s.ext hy with ⟨e2, hx⟩ | ⟨tp, ob, us, es, e1, hn2, hz, e2, e3, hu⟩
      · subst e2
        exact turn H0' H2 s hc hn hl hx
      · subst e1
        subst e2
        have nD : Dl ≠ tp := ne_of_none hc hn2
        have htp : H0' tp = none := s.ext.free hn2
        refine turn (upd H0' tp (.frz ob (.tup us))) _ (s.trans (Stp.new s.ext s.ok s.boxf hn2)) ?_ ?_ (upd_has htp hl) ?_
        · rw [upd_ne nD]
          exact hc
        · rw [upd_ne nD]
          exact hn
        · rw [e3]
          exact .tup upd_same hz (upd_has htp hu)
    · rintro Hc ⟨H0', acc, outs, s, hc, hn, hl, ho, hw⟩
      rw [List.drop_length] at hw
      have q3 : OutL β H1 Hb Q (outs ++ []) := hw
      rw [List.append_nil] at q3
      exact q3 Dl H0' Hc acc s hD hc hn nS hl
  · exact q1.elim
theorem eLc_l {ρ : Env'} : eLc vs it bd t e ρ = (lLc vs it bd t e ρ).bind fun out => .ret (.list out) := by
  unfold eLc lLc
  rw [T.bind_assoc]
  congr 1
  funext ds
  split <;> rfl
theorem tLc_of (hj : ∀ j ∈ js, j ∈ vs) {σ : L2.St} {H : Hp} {Q : VK} (h : tE g (eLc vs it bd t e) σ H Q) : tLc (tI g it) (tG g.q js bd) (tT g.q t) (tE g.q e) vs σ H Q := by
  refine tLc_core hj (tEL_of ?_)
  have ee : (fun ρ => (lLc vs it bd t e ρ).bind fun out => T.ret (PyData.list out)) = eLc vs it bd t e := by
    funext ρ
    exact eLc_l.symm
  rw [ee]
  exact h
end
section
variable {X : Cx} {g : Ct} {tg iter elt : Expr} {ifs : List Expr} {scope : Scope} {own : List (Str × Nat)} {pos : Pos} {js : List Nat} {it : Env' → T (List D)} {bd : D → Env' → Option Env'} {t e : Env' → T D}
theorem r_lc (hc : X.calm = true) (hN : X.N.Nodup) (hi : PI X tg iter (tI g it)) (ok : BlkOk X.N X.env.scope scope own)
    (hg : ∀ (s : Shared) (H : Hp) (C : Addr) (cl : List (Str × Addr)) (fp : List Addr), PG (X.blk s H scope (compEnvC scope cl C X.env) fp) tg (tG g.q js bd))
    (ht : ∀ (s : Shared) (H : Hp) (C : Addr) (cl : List (Str × Addr)) (fp : List Addr), PTs (X.blk s H scope (compEnvC scope cl C X.env) fp) ifs (tT g.q t))
    (he : ∀ (s : Shared) (H : Hp) (C : Addr) (cl : List (Str × Addr)) (fp : List Addr), PE (X.blk s H scope (compEnvC scope cl C X.env) fp) elt (tE g.q e))
    (hj : ∀ j ∈ js, j ∈ own.map (·.2)) (hs : ∀ x, foldedSetIterable iter X.env x = pure x := by intro _; rfl) :
    PE X (.ListComp elt [⟨tg, iter, ifs, 0⟩] scope pos) (tE g (eLc (own.map (·.2)) it bd t e)) :=
  (pe_lc hc hN hi ok hg ht he hs).imp fun _ _ _ q => tLc_of hj q
end
end Wb
set_option Elab.async false
set_option linter.all false
set_option maxRecDepth 100000
set_option maxHeartbeats 4000000
/-! Wb, part 5: statements, loops, defs. -/
namespace Wb
open PySem PySem.Spec PyProof.Rows L2
/-- what a statement comes to -/
inductive Fl where
  | nx (ρ : Env')
  | ret (d : D)
  | brk (ρ : Env')
  | cnt (ρ : Env')
  | exc (x : Exn) (ρ : Env')
/-- what stands: from the def's entry (A known, B in all), what is known since (C), known now (H0) -/
structure SR (g : Ct) (β : Box) (A B C : Hp) (H0 : Hp) (ρ : Env') (σ : L2.St) (H : Hp) : Prop where
  rel : Rel g.cad β g.ξ H0 ρ σ H
  st : Stp β A B H0 H
  base : Same C H0
  lk : g.lk β A B
  ow : ∀ (i : Nat) (s : Sl) (o : Option V) (a : Addr), ρ[i]? = some s → σ[i]? = some o → s.foot H o a → B a = none
section
variable {g : Ct} {β : Box} {A B C H0 H H0' H' : Hp} {ρ : Env'} {σ : L2.St}
theorem SR.own (r : SR g β A B C H0 ρ σ H) (i : Nat) (xs : List D) (p : Addr) (h1 : ρ[i]? = some (.own xs)) (h2 : σ[i]? = some (some (.ref p))) : B p = none := r.ow i _ _ p h1 h2 rfl
theorem SR.step (r : SR g β A B C H0 ρ σ H) (s : Stp β H0 H H0' H') : SR g β A B C H0' ρ σ H' := ⟨r.rel.step s, r.st.trans s, r.base.trans s.grow, r.lk, fun i t o a h1 h2 f => r.ow i t o a h1 h2 ((r.rel.sl i t o h1 h2).footS s f)⟩
theorem SR.rebase {C' : Hp} (r : SR g β A B C H0 ρ σ H) (e : Same C' H0) : SR g β A B C' H0 ρ σ H := ⟨r.rel, r.st, e, r.lk, r.ow⟩
theorem ow_set {ρ : Env'} {σ : L2.St} {H B : Hp} (h : ∀ (i : Nat) (s : Sl) (o : Option V) (a : Addr), ρ[i]? = some s → σ[i]? = some o → s.foot H o a → B a = none) {k : Nat} {x : Sl} {v : Option V} (hx : ∀ a, x.foot H v a → B a = none) :
    ∀ (i : Nat) (s : Sl) (o : Option V) (a : Addr), (ρ.set k x)[i]? = some s → (σ.set k v)[i]? = some o → s.foot H o a → B a = none := by
  intro i s o a h1 h2 f
  rcases set_some h1 with ⟨rfl, rfl⟩ | ⟨n1, g1⟩ <;> rcases set_some h2 with ⟨e2, rfl⟩ | ⟨n2, g2⟩
  · exact hx a f
  · exact (n2 rfl).elim
  · exact (n1 e2).elim
  · exact h i s o a g1 g2 f
theorem SR.setB (r : SR g β A B C H0 ρ σ H) {i : Nat} {sl : Sl} {o : Option V} (hs : SlOk g.cad β g.ξ H0 H sl o) (hx : ∀ (j : Nat) (t : Sl) (u : Option V) (a : Addr), j ≠ i → ρ[j]? = some t → σ[j]? = some u → sl.foot H o a → t.foot H u a → False) (hB : ∀ a, sl.foot H o a → B a = none) :
    SR g β A B C H0 (ρ.set i sl) (σ.set i o) H := ⟨r.rel.setB hs hx, r.st, r.base, r.lk, ow_set r.ow hB⟩
theorem SR.set {sl : Sl} {o : Option V} {i : Nat} (r : SR g β A B C H0 ρ σ H) (hs : SlOk g.cad β g.ξ H0 H sl o) (hn : sl.bare) : SR g β A B C H0 (ρ.set i sl) (σ.set i o) H :=
  r.setB hs (fun _ _ _ _ _ _ _ f _ => hn.no f) fun _ f => (hn.no f).elim
theorem SR.setD (r : SR g β A B C H0 ρ σ H) {i : Nat} {v : V} {d : D} (h : Has H0 v d) : SR g β A B C H0 (ρ.set i (.d d)) (σ.set i (some v)) H := r.set ⟨v, rfl, h⟩ trivial
end
def FlOut (g : Ct) (β : Box) (A B C : Hp) (E : Ends) : Fl → Prop
  | .nx ρ' => ∀ σ' H0' H', SR g β A B C H0' ρ' σ' H' → E.nx σ' H'
  | .ret d => ∀ v H0' H', Stp β A B H0' H' → Has H0' v d → E.rt v H'
  | .brk ρ' => ∀ σ' H0' H', SR g β A B C H0' ρ' σ' H' → E.bk σ' H'
  | .cnt ρ' => ∀ σ' H0' H', SR g β A B C H0' ρ' σ' H' → E.ct σ' H'
  | .exc x ρ' => ∀ c dx σ' H0' H', SR g β A B C H0' ρ' σ' H' → ExcIs g.cad x c dx H0' → g.W c dx σ' H'
def noE : Exn → Prop := fun _ => False
def tS (g : Ct) (F : Env' → T Fl) : TS := fun E σ H => ∃ β A B C H0 ρ, SR g β A B C H0 ρ σ H ∧ (F ρ).wp (FlOut g β A B C E) noE
/-- an expression within a statement: its error becomes the statement's -/
def T.lift {α : Type} : T α → Env' → (α → T Fl) → T Fl
  | .ret a, _, k => k a
  | .draw m f, ρ, k => .draw m fun i => (f i).lift ρ k
  | .exc x, ρ, _ => .ret (.exc x ρ)
  | .bad, _, _ => .bad
@[simp] theorem T.lift_ret {α : Type} (a : α) (ρ : Env') (k : α → T Fl) : (T.ret a).lift ρ k = k a := rfl
@[simp] theorem T.lift_exc {α : Type} (x : Exn) (ρ : Env') (k : α → T Fl) : (T.exc x : T α).lift ρ k = .ret (.exc x ρ) := rfl
@[simp] theorem T.lift_bad {α : Type} (ρ : Env') (k : α → T Fl) : (T.bad : T α).lift ρ k = .bad := rfl
@[simp] theorem T.lift_draw {α : Type} (m : Int) (f : Int → T α) (ρ : Env') (k : α → T Fl) : (T.draw m f).lift ρ k = .draw m fun i => (f i).lift ρ k := rfl
theorem T.wp_lift {α : Type} {P : Fl → Prop} {E : Exn → Prop} {ρ : Env'} {k : α → T Fl} : ∀ (t : T α), (t.lift ρ k).wp P E ↔ t.wp (fun a => (k a).wp P E) (fun x => P (.exc x ρ))
  | .ret _ => Iff.rfl
  | .draw _ f => ⟨fun h => ⟨h.1, h.2.1, fun i a b => (T.wp_lift (f i)).mp (h.2.2 i a b)⟩, fun h => ⟨h.1, h.2.1, fun i a b => (T.wp_lift (f i)).mpr (h.2.2 i a b)⟩⟩
  | .exc _ => Iff.rfl
  | .bad => Iff.rfl
theorem T.lift_bind {α γ : Type} {ρ : Env'} {k : γ → T Fl} (f : α → T γ) : ∀ (t : T α), (t.bind f).lift ρ k = t.lift ρ fun a => (f a).lift ρ k
  | .ret _ => rfl
  | .draw _ h => by
    show T.draw _ _ = T.draw _ _
    congr 1
    funext i
    exact T.lift_bind f (h i)
  | .exc _ => rfl
  | .bad => rfl
section
variable {g : Ct} {β : Box} {A B C H0 H : Hp} {ρ : Env'} {σ : L2.St} {E : Ends}
theorem excX {x : Exn} (r : SR g β A B C H0 ρ σ H) (h : FlOut g β A B C E (.exc x ρ)) : g.X β H0 H σ x := fun c dx H1 H2 st e => h c dx σ H1 H2 (r.step st) e
theorem tE_lift {f : Env' → T D} {k : D → T Fl} {Q : VK} (r : SR g β A B C H0 ρ σ H) (h : ((f ρ).lift ρ k).wp (FlOut g β A B C E) noE)
    (hq : ∀ d v H0' H', Stp β H0 H H0' H' → Has H0' v d → (k d).wp (FlOut g β A B C E) noE → Q v H') : tE g f σ H Q :=
  ⟨β, H0, ρ, r.rel, T.wp_mono (fun d hd v H1 H2 st hv => hq d v H1 H2 st hv hd) (fun _ z => excX r z) _ ((T.wp_lift _).mp h)⟩
theorem tA_lift {f : Env' → T (List Ar)} {k : List Ar → T Fl} {Q : List V → Hp → Prop} (r : SR g β A B C H0 ρ σ H) (h : ((f ρ).lift ρ k).wp (FlOut g β A B C E) noE)
    (hq : ∀ d v H0' H', Stp β H0 H H0' H' → HasAs β H0' v d → (k d).wp (FlOut g β A B C E) noE → Q v H') : tA g f σ H Q :=
  ⟨β, H0, ρ, r.rel, T.wp_mono (fun d hd v H1 H2 st hv => hq d v H1 H2 st hv hd) (fun _ z => excX r z) _ ((T.wp_lift _).mp h)⟩
theorem tT_lift {f : Env' → T D} {k : D → T Fl} {Q : Bool → Hp → Prop} (r : SR g β A B C H0 ρ σ H) (h : ((f ρ).lift ρ k).wp (FlOut g β A B C E) noE)
    (hq : ∀ z H0' H', Stp β H0 H H0' H' → (k (.bool z)).wp (FlOut g β A B C E) noE → Q z H') (hn : ∀ d, (∀ z, d ≠ .bool z) → (k d).wp (FlOut g β A B C E) noE → False) : tT g f σ H Q :=
  ⟨β, H0, ρ, r.rel, T.wp_mono (fun d hd => by
    cases d with
    | bool z => exact ⟨z, rfl, fun H1 H2 st => hq z H1 H2 st hd⟩
    | _ => exact (hn _ (fun _ z => by cases z) hd).elim) (fun _ z => excX r z) _ ((T.wp_lift _).mp h)⟩
theorem tI_lift {f : Env' → T (List D)} {k : List D → T Fl} {R : It → Hp → Prop} (r : SR g β A B C H0 ρ σ H) (h : ((f ρ).lift ρ k).wp (FlOut g β A B C E) noE)
    (hq : ∀ ds J H0' H', Stp β H0 H H0' H' → Gives J ds H0' → (k ds).wp (FlOut g β A B C E) noE → R J H') : tI g f σ H R :=
  ⟨β, H0, ρ, r.rel, T.wp_mono (fun d hd J H1 H2 st gv => hq d J H1 H2 st gv hd) (fun _ z => excX r z) _ ((T.wp_lift _).mp h)⟩
end
/-! ### small statements -/
def sSet (i : Nat) (f : Env' → T D) : Env' → T Fl := fun ρ => (f ρ).lift ρ fun d => .ret (.nx (ρ.set i (.d d)))
def sRet (f : Env' → T D) : Env' → T Fl := fun ρ => (f ρ).lift ρ fun d => .ret (.ret d)
def sDrop (f : Env' → T D) : Env' → T Fl := fun ρ => (f ρ).lift ρ fun _ => .ret (.nx ρ)
def sNil : Env' → T Fl := fun ρ => .ret (.nx ρ)
def thenS (G : Env' → T Fl) : Fl → T Fl
  | .nx ρ => G ρ
  | .ret d => .ret (.ret d)
  | .brk ρ => .ret (.brk ρ)
  | .cnt ρ => .ret (.cnt ρ)
  | .exc x ρ => .ret (.exc x ρ)
def sSeq (F G : Env' → T Fl) : Env' → T Fl := fun ρ => (F ρ).bind (thenS G)
def onB (F G : T Fl) : D → T Fl
  | .bool true => F
  | .bool false => G
  | _ => .bad
def sIf (t : Env' → T D) (F G : Env' → T Fl) : Env' → T Fl := fun ρ => (t ρ).lift ρ (onB (F ρ) (G ρ))
section
variable {X : Cx} {g : Ct} {a b c : Expr} {f h t : Env' → T D} {pos : Pos} {st : Stmt} {rest : List Stmt} {F G : Env' → T Fl}
theorem tAsg_of {i : Nat} {E : Ends} {σ : L2.St} {H : Hp} (q : tS g (sSet i f) E σ H) : tAsg (tE g f) (gName i) E σ H := by
  obtain ⟨β, A, B, C, H0, ρ, r, q⟩ := q
  exact tE_lift r q fun d v H1 H2 s hv q1 => q1 _ H1 H2 ((r.step s).setD hv)
theorem s_set {i : Nat} (hs : PS X st (tAsg (tE g f) (gName i))) : PS X st (tS g (sSet i f)) := hs.imp fun _ _ _ q => tAsg_of q
theorem s_setLc {i : Nat} {vs js : List Nat} {it : Env' → T (List D)} {bd : D → Env' → Option Env'} {t e : Env' → T D} (hs : PS X st (tAsg (tLc (tI g it) (tG g.q js bd) (tT g.q t) (tE g.q e) vs) (gName i))) (hj : ∀ j ∈ js, j ∈ vs) : PS X st (tS g (sSet i (eLc vs it bd t e))) :=
  hs.imp fun E σ H q => tLc_of hj (Q := fun x H1 => gName i x σ H1 E.nx) (tAsg_of q)
theorem s_ret (ha : PE X a (tE g f)) : PS X (.Return (some a) pos) (tS g (sRet f)) := (ps_ret ha).imp fun E σ H ⟨β, A, B, C, H0, ρ, r, q⟩ =>
  tE_lift r q fun d v H1 H2 s hv q1 => q1 v H1 H2 (r.st.trans s) hv
theorem ss_nil : PSs X [] (tS g sNil) := pss_nil.imp fun E σ H ⟨β, A, B, C, H0, ρ, r, q⟩ => q σ H0 H r
theorem FlOut.seq {β : Box} {A B C : Hp} {E : Ends} : ∀ {fl : Fl}, (thenS G fl).wp (FlOut g β A B C E) noE → FlOut g β A B C { E with nx := tS g G E } fl
  | .nx ρ, h => fun σ' H0' H' r => ⟨β, A, B, C, H0', ρ, r, h⟩
  | .ret _, h => h
  | .brk _, h => h
  | .cnt _, h => h
  | .exc _ _, h => h
theorem ss_cons (h1 : PS X st (tS g F)) (h2 : PSs X rest (tS g G)) : PSs X (st :: rest) (tS g (sSeq F G)) := (pss_cons h1 h2).imp fun E σ H ⟨β, A, B, C, H0, ρ, r, q⟩ =>
  ⟨β, A, B, C, H0, ρ, r, T.wp_mono (fun _ z => FlOut.seq z) (fun _ z => z) _ ((T.wp_bind _ _).mp q)⟩
theorem ss_one (h1 : PS X st (tS g F)) : PSs X [st] (tS g F) := pss_one h1
theorem s_if {as bs : List Stmt} (hc : PT X c (tT g t)) (ha : PSs X as (tS g F)) (hb : PSs X bs (tS g G)) : PS X (.If c as bs pos) (tS g (sIf t F G)) := (ps_if hc ha hb).imp fun E σ H ⟨β, A, B, C, H0, ρ, r, q⟩ =>
  tT_lift r q (fun z H1 H2 s q1 => by
    cases z with
    | true => exact iteT ⟨β, A, B, C, H1, ρ, r.step s, q1⟩
    | false => exact iteF ⟨β, A, B, C, H1, ρ, r.step s, q1⟩) (fun d hn q1 => by
    cases d with
    | bool z => exact hn z rfl
    | _ => exact q1)
/-- a, b = x, y -/
def sPar (i j : Nat) (fs : Env' → T (List Ar)) : Env' → T Fl := fun ρ => (fs ρ).lift ρ fun as => match as with
  | [.d x, .d y] => .ret (.nx ((ρ.set i (.d x)).set j (.d y)))
  | _ => .bad
theorem s_par {i j : Nat} {fs : Env' → T (List Ar)} (hs : PS X st (tPar i j (tA g fs))) : PS X st (tS g (sPar i j fs)) := hs.imp fun E σ H ⟨β, A, B, C, H0, ρ, r, q⟩ => tA_lift r q fun as vs H1 H2 s hv q1 => by
  split at q1
  · next x y =>
    obtain ⟨v, w, rfl, h1, h2⟩ := hv.two
    exact ⟨v, w, rfl, q1 _ H1 H2 (((r.step s).setD h1).setD h2)⟩
  · exact q1.elim
/-- a, b, .. = e -/
def sUnp (bd : D → Env' → Option Env') (f : Env' → T D) : Env' → T Fl := fun ρ => (f ρ).lift ρ fun d => match bd d ρ with
  | some ρ' => .ret (.nx ρ')
  | none => .bad
theorem SR.names {β : Box} {A B C H0 H : Hp} : ∀ {is : List Nat} {ds : List D} {vs : List V} {ρ ρ' : Env'} {σ : L2.St} {Q : L2.St → Hp → Prop}, SR g β A B C H0 ρ σ H → HasL H0 vs ds → bNames is ds ρ = some ρ' →
    (∀ σ', SR g β A B C H0 ρ' σ' H → Q σ' H) → gNames is vs σ H Q
  | [], [], vs, ρ, ρ', σ, Q, rr, hl, e, q => by
    cases hl
    cases e
    exact ⟨rfl, q σ rr⟩
  | i :: is, d :: ds, vs, ρ, ρ', σ, Q, rr, hl, e, q => by
    cases hl with
    | @cons v vs _ _ h1 h2 => exact ⟨v, vs, rfl, SR.names (rr.setD h1) h2 e q⟩
  | [], _ :: _, _, _, _, _, _, _, _, e, _ => by cases e
  | _ :: _, [], _, _, _, _, _, _, _, e, _ => by cases e
theorem s_unp {is : List Nat} {n : Nat} (hn : n = is.length) (hs : PS X st (tAsg (tE g f) (gTup X.K n (gNames is)))) : PS X st (tS g (sUnp (bTup is) f)) := hs.imp fun E σ H ⟨β, A, B, C, H0, ρ, r, q⟩ => tE_lift r q fun d v H1 H2 s hv q1 => by
  split at q1
  · next ρ' hb =>
    have rr := r.step s
    cases hv with
    | tup h1 hdn h2 =>
      have e' : bNames is _ ρ = some ρ' := hb
      refine ⟨_, _, rfl, sqF (s.ext _ _ h1), ?_, SR.names rr h2 e' fun σ' r' => q1 σ' H1 H2 r'⟩
      rw [h2.length, bNames_len e', hn]
    | _ => cases hb
  · exact q1.elim
/-! ### loops -/
def forGo (bd : D → Env' → Option Env') (F : Env' → T Fl) : List D → Env' → T Fl
  | [], ρ => .ret (.nx ρ)
  | d :: r, ρ => match bd d ρ with
    | none => .bad
    | some ρ1 => (F ρ1).bind fun fl => match fl with
      | .nx ρ' => forGo bd F r ρ'
      | .cnt ρ' => forGo bd F r ρ'
      | .brk ρ' => .ret (.nx ρ')
      | .ret d => .ret (.ret d)
      | .exc x ρ' => .ret (.exc x ρ')
def sFor (it : Env' → T (List D)) (bd : D → Env' → Option Env') (F : Env' → T Fl) : Env' → T Fl := fun ρ => (it ρ).lift ρ fun ds => forGo bd F ds ρ
/-- a target within a statement -/
def PB (K : PySem.W.Frag) (g : Ct) (tg : TG) (bd : D → Env' → Option Env') : Prop := ∀ {β : Box} {A B C H0 H : Hp} {ρ ρ' : Env'} {σ : L2.St} {v : V} {d : D} {Q : L2.St → Hp → Prop},
  SR g β A B C H0 ρ σ H → Has H0 v d → bd d ρ = some ρ' → (∀ σ', SR g β A B C H0 ρ' σ' H → Q σ' H) → tg v σ H Q
theorem b_name {K : PySem.W.Frag} {i : Nat} : PB K g (gName i) (bName i) := fun r hv e q => by
  cases e
  exact q _ (r.setD hv)
theorem b_tup {K : PySem.W.Frag} {is : List Nat} {n : Nat} (hn : n = is.length) : PB K g (gTup K n (gNames is)) (bTup is) := by
  intro β A B C H0 H ρ ρ' σ v d Q r hv e q
  cases hv with
  | tup h1 hdn h2 =>
    have e' : bNames is _ ρ = some ρ' := e
    refine ⟨_, _, rfl, sqF (r.rel.ext _ _ h1), ?_, SR.names r h2 e' q⟩
    rw [h2.length, bNames_len e', hn]
  | _ => cases e
theorem s_for {it : Env' → T (List D)} {tg : TG} {bd : D → Env' → Option Env'} (hb : PB X.K g tg bd) (hs : PS X st (tFor (tI g it) tg (tS g F))) : PS X st (tS g (sFor it bd F)) := hs.imp fun E σ H ⟨β, A, B, C, H0, ρ, r, q⟩ =>
  tI_lift r q fun ds J H1 H2 s gv q1 => by
    obtain ⟨Gd, Y, walk, hG, hY⟩ := gv
    have r1 := r.step s
    refine for_it walk (D := E) (fun i σ' H' => ∃ H0' ρ', SR g β A B H1 H0' ρ' σ' H' ∧ (forGo bd F (ds.drop i) ρ').wp (FlOut g β A B C E) noE) ⟨H1, ρ, r1.rebase fun _ _ z => z, q1⟩ ?_ ?_ ?_
    · rintro i σ' H' _ ⟨H0', ρ', r', _⟩
      exact hG _ (fun b o z => r'.rel.ext b o (r'.base b o z))
    · rintro i x σ' Hc H3 hi ⟨H0', ρ', r', hw⟩ hy
      have hd : ds[i]? = some ds[i] := List.getElem?_eq_getElem hi
      have ed : ds.drop i = ds[i] :: ds.drop (i + 1) := List.drop_eq_getElem_cons hi
      rw [ed] at hw
      have turn : ∀ H0n H2n, SR g β A B H1 H0n ρ' σ' H2n → Has H0n x ds[i] → tg x σ' H2n fun σ2 H2 => tS g F { E with
            nx := fun σ' H' => ∃ H0' ρ', SR g β A B H1 H0' ρ' σ' H' ∧ (forGo bd F (ds.drop (i + 1)) ρ').wp (FlOut g β A B C E) noE
            ct := fun σ' H' => ∃ H0' ρ', SR g β A B H1 H0' ρ' σ' H' ∧ (forGo bd F (ds.drop (i + 1)) ρ').wp (FlOut g β A B C E) noE
            bk := E.nx } σ2 H2 := by
        intro H0n H2n rn hx
        unfold forGo at hw
        split at hw
        · exact hw.elim
        · next ρ1 hb1 =>
          refine hb rn hx hb1 fun σ2 r2 => ⟨β, A, B, H1, H0n, ρ1, r2, T.wp_mono (fun fl z => ?_) (fun _ z => z) _ ((T.wp_bind _ _).mp hw)⟩
          cases fl with
          | nx ρ2 => exact fun σ' H0' H' r' => ⟨H0', ρ2, r', z⟩
          | cnt ρ2 => exact fun σ' H0' H' r' => ⟨H0', ρ2, r', z⟩
          | brk ρ2 => exact fun σ' H0' H' r' => z σ' H0' H' (r'.rebase (r1.base.trans r'.base))
          | ret d => exact z
          | exc e ρ2 => exact fun c dx σ' H0' H' r' he => z c dx σ' H0' H' (r'.rebase (r1.base.trans r'.base)) he
      rcases hY i Hc x H3 ds[i] H0' hd r'.base r'.rel.ext hy with ⟨e2, hx⟩ | ⟨tp, ob, us, es, e1, hn2, hz, e2, e3, hu⟩
      · subst e2
        exact turn H0' H3 r' hx
      · subst e1
        subst e2
        have htp : H0' tp = none := r'.rel.ext.free hn2
        refine turn (upd H0' tp (.frz ob (.tup us))) _ (r'.step (r'.rel.new hn2)) ?_
        rw [e3]
        exact .tup upd_same hz (upd_has htp hu)
    · rintro σ' H' ⟨H0', ρ', r', hw⟩
      rw [List.drop_length] at hw
      exact hw σ' H0' H' (r'.rebase (r1.base.trans r'.base))
def whGo (t : Env' → T D) (F : Env' → T Fl) : Nat → Env' → T Fl
  | 0, _ => .bad
  | n + 1, ρ => (t ρ).lift ρ (onB ((F ρ).bind fun fl => match fl with
      | .nx ρ' => whGo t F n ρ'
      | .cnt ρ' => whGo t F n ρ'
      | .brk ρ' => .ret (.nx ρ')
      | .ret d => .ret (.ret d)
      | .exc x ρ' => .ret (.exc x ρ')) (.ret (.nx ρ)))
def sWhile (n : Nat) (t : Env' → T D) (F : Env' → T Fl) : Env' → T Fl := fun ρ => whGo t F n ρ
theorem s_while {n : Nat} (hs : PS X st (tWhile (tT g t) (tS g F))) : PS X st (tS g (sWhile n t F)) := hs.imp fun E σ H ⟨β, A, B, C, H0, ρ, r, q⟩ => by
  refine ⟨fun m σ' H' => ∃ H0' ρ', SR g β A B C H0' ρ' σ' H' ∧ (whGo t F m ρ').wp (FlOut g β A B C E) noE, ⟨n, H0, ρ, r, q⟩, ?_⟩
  rintro m σ' H' ⟨H0', ρ', r', hw⟩
  cases m with
  | zero => exact hw.elim
  | succ m =>
    refine tT_lift r' hw (fun z H1 H2 s q1 => ?_) (fun d hn q1 => ?_)
    · cases z with
      | true =>
        refine iteT ⟨fun σ' H' => ∃ H0' ρ', SR g β A B C H0' ρ' σ' H' ∧ (whGo t F m ρ').wp (FlOut g β A B C E) noE, fun σ3 H3 w => ⟨m, Nat.lt_succ_self m, w⟩, ?_⟩
        refine ⟨β, A, B, C, H1, ρ', r'.step s, T.wp_mono (fun fl z => ?_) (fun _ z => z) _ ((T.wp_bind _ _).mp q1)⟩
        cases fl with
        | nx ρ2 => exact fun σ' H0' H' r' => ⟨H0', ρ2, r', z⟩
        | cnt ρ2 => exact fun σ' H0' H' r' => ⟨H0', ρ2, r', z⟩
        | brk ρ2 => exact z
        | ret d => exact z
        | exc e ρ2 => exact z
      | false => exact iteF (q1 σ' H1 H2 (r'.step s))
    · cases d with
      | bool z => exact hn z rfl
      | _ => exact q1
end
/-! ### defs -/
def arSl : Ar → Sl
  | .d x => .d x
  | .box k => .box k
  | .mil => .mil
def startE (N : Nat) (as : List Ar) : Env' := as.map arSl ++ List.replicate (N - as.length) .no
def endF : Fl → T D
  | .nx _ => .ret .none
  | .ret d => .ret d
  | .exc x _ => .exc x
  | _ => .bad
def T.run : T Fl → T D
  | .ret fl => endF fl
  | .draw m k => .draw m fun i => (k i).run
  | .exc _ => .bad
  | .bad => .bad
@[simp] theorem T.run_ret (fl : Fl) : (T.ret fl).run = endF fl := rfl
@[simp] theorem T.run_draw (m : Int) (k : Int → T Fl) : (T.draw m k).run = .draw m fun i => (k i).run := rfl
theorem T.wp_run {P : D → Prop} {E : Exn → Prop} : ∀ (t : T Fl), t.run.wp P E ↔ t.wp (fun fl => (endF fl).wp P E) noE
  | .ret _ => Iff.rfl
  | .draw _ k => ⟨fun h => ⟨h.1, h.2.1, fun i a b => (T.wp_run (k i)).mp (h.2.2 i a b)⟩, fun h => ⟨h.1, h.2.1, fun i a b => (T.wp_run (k i)).mpr (h.2.2 i a b)⟩⟩
  | .exc _ => Iff.rfl
  | .bad => Iff.rfl
def mkDef (N : Nat) (F : Env' → T Fl) : List Ar → T D := fun as => (F (startE N as)).run
theorem HasAs.get {β : Box} {H0 : Hp} : ∀ {vs : List V} {as : List Ar} {i : Nat} {a : Ar}, HasAs β H0 vs as → as[i]? = some a → ∃ v, vs[i]? = some v ∧ HasA β H0 v a
  | _, _, _, _, .nil, h => by simp at h
  | _, _, 0, _, .cons h _, e => by
    have e' := Option.some.inj e
    subst e'
    exact ⟨_, rfl, h⟩
  | _, _, i + 1, _, .cons _ r, e => by
    obtain ⟨d, h1, h2⟩ := HasAs.get (i := i) r (by simpa using e)
    exact ⟨d, by simpa using h1, h2⟩
theorem startE_bare {n : Nat} {as : List Ar} (i : Nat) (s : Sl) (z : (startE n as)[i]? = some s) : s.bare := by
  unfold startE at z
  rw [List.getElem?_append] at z
  split at z
  · rw [List.getElem?_map] at z
    cases q : as[i]? with
    | none =>
      rw [q] at z
      cases z
    | some a =>
      rw [q] at z
      cases a <;> cases z <;> trivial
  · rw [List.getElem?_replicate] at z
    split at z
    · cases z
      trivial
    · cases z
theorem rel_start {cad : Cad} {β : Box} {ξ : Xi} {H0 H : Hp} {N : List Str} {vs : List V} {as : List Ar} (e : Same H0 H) (ok : β.ok H) (bf : ∀ a, β.S a → H0 a = none) (tb : TabsIn cad β) (h : HasAs β H0 vs as) :
    Rel cad β ξ H0 (startE N.length as) (L2.start N vs) H := by
  have hl := h.length
  refine ⟨e, ?_, fun i s o a b => ?_, fun i j s t o u a h1 _ _ _ _ f _ => (startE_bare i s h1).no f, ok, bf, tb⟩
  · unfold startE L2.start
    simp [hl]
  · unfold startE at a
    unfold L2.start at b
    by_cases hi : i < as.length
    · rw [List.getElem?_append_left (by simpa using hi), List.getElem?_map] at a
      rw [List.getElem?_append_left (by simp; omega), List.getElem?_map] at b
      rw [List.getElem?_eq_getElem hi] at a
      obtain ⟨v, hv, hh⟩ := h.get (List.getElem?_eq_getElem hi)
      rw [hv] at b
      cases a
      cases b
      generalize as[i] = z at hh
      cases z with
      | d x => exact ⟨v, rfl, hh⟩
      | box k => exact ⟨v, rfl, hh⟩
      | mil => exact ⟨v, rfl, hh⟩
    · rw [List.getElem?_append_right (by simpa using hi), List.getElem?_replicate] at a
      split at a
      · cases a
        trivial
      · cases a
theorem FnG.ofDE {P : Program} {w : World} {K : PySem.W.Frag} {mg : Str → Option Value} {base : Heap} {cad : Cad} {x qual : Str} {st : Stmt} {fa : Addr} {fd : FuncData} {N ps : List Str} {k : Nat} {F : Env' → T Fl} (Fu : Fun K x qual st fa fd) (S : FnScope N ps (defScope st))
    (hbody : ∀ (cdv : Value) (A : Around) (outer : List Env) (s : Shared) (H : Hp) (E : XK), fd.code = cdv → Room k (A.deeper (envOfC qual (defScope st) s.heap.objs.size fa cdv)) → (A.deeper (envOfC qual (defScope st) s.heap.objs.size fa cdv)).guards = some [] →
      PSs (bodyX P w K mg base N qual st fa cdv A outer s H E) (defBody st) (tS ⟨cad, none, fun c d _ H' => E c d H', fun _ _ _ => True⟩ F)) :
    FnG P w K mg base (k + 1) fa fd ps (spD cad ps.length (mkDef N.length F)) := by
  refine FnG.ofE Fu S (fun vs H Q E h => h.1) fun cdv A outer s H vs Q E hc hr hg h => ⟨_, hbody cdv A outer s H E hc hr hg, ?_⟩
  obtain ⟨_, β, H0, as, e, ok, bf, tb, ha, q⟩ := h
  refine ⟨β, H0, H, H0, H0, startE N.length as, ⟨rel_start e ok bf tb ha, Stp.refl e ok bf, fun _ _ z => z, trivial, fun i s o a h1 _ f => ((startE_bare i s h1).no f).elim⟩, T.wp_mono (fun fl z => ?_) (fun x z => z) _ ((T.wp_run _).mp q)⟩
  cases fl with
  | nx ρ' => exact fun σ' H0' H' r => z .non H0' H' r.st .non
  | ret d => exact z
  | exc y ρ' => exact fun c dx σ' H0' H' r he => z c dx H0' H' r.st he
  | brk _ => exact z.elim
  | cnt _ => exact z.elim
theorem FnG.ofD {P : Program} {w : World} {K : PySem.W.Frag} {mg : Str → Option Value} {base : Heap} {cad : Cad} {x qual : Str} {st : Stmt} {fa : Addr} {fd : FuncData} {N ps : List Str} {k : Nat} {F : Env' → T Fl} (Fu : Fun K x qual st fa fd) (S : FnScope N ps (defScope st))
    (hbody : ∀ (cdv : Value) (A : Around) (outer : List Env) (s : Shared) (H : Hp) (E : XK), Room k (A.deeper (envOfC qual (defScope st) s.heap.objs.size fa cdv)) → (A.deeper (envOfC qual (defScope st) s.heap.objs.size fa cdv)).guards = some [] →
      PSs (bodyX P w K mg base N qual st fa cdv A outer s H E) (defBody st) (tS ⟨cad, none, fun c d _ H' => E c d H', fun _ _ _ => True⟩ F)) :
    FnG P w K mg base (k + 1) fa fd ps (spD cad ps.length (mkDef N.length F)) :=
  FnG.ofDE Fu S fun cdv A outer s H E _ hr hg => hbody cdv A outer s H E hr hg
end Wb
set_option Elab.async false
set_option linter.all false
set_option maxRecDepth 100000
set_option maxHeartbeats 4000000
/-! Wb, part 6: errors, isinstance, repr. -/
namespace Wb
open PySem PySem.Spec PyProof.Rows L2
/-! ### an error class with one field, two fields -/
def spI1 (C : Addr) (f : Str) : Sp := fun vs H Q _ => ∃ a v, vs = [.ref a, v] ∧ H a = some (exo a C none) ∧
  ∀ dx, H dx = none → dx ≠ a → Q .non (upd (upd H dx (exd dx [(f, v)])) a (exo a C (some dx)))
/-- what the written part says of the class at C and of its __init__ -/
structure ErrC (K : PySem.W.Frag) (mg : Str → Option Value) (x : Str) (C fI : Addr) : Prop where
  oex : OexC K C
  xf : XfC K C
  gC : mg x = some (.ref C)
  iC : PySem.W.findIn K (.ref C) "__init__" = some (some (.ref fI))
  tI : PySem.W.typeIn K (.ref fI) = some (.type "function")
theorem del_back {H : Hp} {a d : Addr} {o1 o2 o3 o4 : HO} (ha : H a = none) (hne : d ≠ a) : upd (del (upd (upd (upd H a o1) d o2) a o3) a) d o4 = upd H d o4 := by
  funext b
  by_cases h1 : b = d
  · subst h1
    rw [upd_same, upd_same]
  · rw [upd_ne h1, upd_ne h1]
    by_cases h2 : b = a
    · subst h2
      rw [del_same, ha]
    · rw [del_ne h2, upd_ne h2, upd_ne h1, upd_ne h2]
def sRaise1 (c fl : Str) (f : Env' → T D) : Env' → T Fl := fun ρ => (f ρ).lift ρ fun d => .ret (.exc ⟨c, [(fl, d)]⟩ ρ)
section
variable {X : Cx} {g : Ct} {a : Expr} {f : Env' → T D} {x fl : Str} {p pos pos2 : Pos} {C fI : Addr} {j : Nat} {fd : FuncData} {ps : List Str}
theorem s_raise1 (hc : X.calm = true) (tk : Takes X g.W) (T : ErrC X.K X.mg x C fI) (hcad : g.cad x = some C) (F1 : FnOk X.prog X.w X.K X.mg X.base CX0 j fI fd ps (spI1 C fl)) (hr : Room (j + 1) X.A) (hb : Binds X.K fd ps []) (hg : Gl X x)
    (ha : PE X a (tE g f)) (hdb : (x == ("__debug__" : Str)) = false := by decide) (hs : starEach [a] X.env = (false, eval a X.env) :: starEach [] X.env := by rfl) (hpl : (backTo pos (starEach [] X.env)).any (·.1) = false := by rfl) :
    PS X (.Raise (some (.Call (.Name x p) [a] [] pos)) none pos2) (tS g (sRaise1 x fl f)) :=
  (ps_raise hc tk (pmk_oex T.oex T.iC T.tI F1 hr hb .nil pass0 hg T.gC (pa_cons ha pa_nil hs) hdb hs hpl)).imp fun E σ H ⟨β, A, B, C', H0, ρ, r, q⟩ => by
    refine tE_lift r q fun d v H1 H2 s hv q1 => ⟨by show 1 ≤ 1000; omega, fun e he => ?_⟩
    refine ⟨e, v, rfl, upd_same, fun dx hdx hne => ⟨rfl, dx, [(fl, v)], upd_same, ?_, ?_, ?_⟩⟩
    · rw [upd_ne hne, upd_same]
    · rw [upd_ne hne] at hdx
      exact hdx
    · rw [del_back he hne]
      rw [upd_ne hne] at hdx
      have st2 := Stp.new (o := .xd [(fl, v)]) s.ext s.ok s.boxf hdx
      exact q1 (.ref C) (some dx) σ _ _ ((r.step s).step st2) ⟨⟨C, hcad, rfl⟩, .inr ⟨dx, [v], rfl, upd_same, .cons (upd_has' (s.ext.free hdx) hv) .nil⟩⟩
/-- the body of such an __init__ -/
theorem init1_ok {P : Program} {w : World} {K : PySem.W.Frag} {mg : Str → Option Value} {base : Heap} {qual : Str} {st : Stmt} {p1 p2 p3 p4 : Pos} (F : Fun K "__init__" qual st fI fd) (S : FnScope [("self" : Str), fl] [("self" : Str), fl] (defScope st))
    (hbd : defBody st = [.Assign [.Attribute (.Name "self" p1) fl p2] (.Name fl p3) p4]) (T : OexC K C) (hno : PySem.W.findIn K (.ref C) fl = some none)
    (h0 : ∀ X : Cx, X.N = [("self" : Str), fl] → X.env.scope = defScope st → PE X (.Name "self" p1) (tVar 0)) (h1 : ∀ X : Cx, X.N = [("self" : Str), fl] → X.env.scope = defScope st → PE X (.Name fl p3) (tVar 1)) : FnOk P w K mg base CX0 1 fI fd [("self" : Str), fl] (spI1 C fl) := by
  refine F.ok S (fun vs H Q E h => ?_) (fun cdv A outer s H vs Q E hr h => ?_)
  · obtain ⟨a, v, rfl, _⟩ := h
    rfl
  · obtain ⟨a, v, rfl, ea, q⟩ := h
    rw [hbd]
    refine ⟨_, pss_one (ps_ost (h0 _ rfl rfl) (h1 _ rfl rfl)), ?_⟩
    exact ⟨v, rfl, .ref a, rfl, a, C, rfl, T, hno, .inl ⟨ea, fun dx nx ne => q dx nx ne⟩⟩
end
/-! ### try: .. except X as n: .. -/
def clrS : Sl → Sl
  | .ex _ => .no
  | s => s
def clrE (ρ : Env') : Env' := ρ.map clrS
def afterX (i : Nat) : Fl → T Fl
  | .nx ρ => .ret (.nx (clrE (ρ.set i .no)))
  | .ret d => .ret (.ret d)
  | .brk ρ => .ret (.brk (clrE (ρ.set i .no)))
  | .cnt ρ => .ret (.cnt (clrE (ρ.set i .no)))
  | .exc _ _ => .bad
/-- cm: which classes the clause takes -/
def sTry (i : Nat) (cm : Str → Option Bool) (F G : Env' → T Fl) : Env' → T Fl := fun ρ => (F ρ).bind fun fl => match fl with
  | .exc x ρ' => match cm x.cls with
    | some true => (G (ρ'.set i (.ex x))).bind (afterX i)
    | some false => .ret (.exc x ρ')
    | none => .bad
  | .nx ρ' => .ret (.nx ρ')
  | .ret d => .ret (.ret d)
  | .brk ρ' => .ret (.brk ρ')
  | .cnt ρ' => .ret (.cnt ρ')
section
variable {cad : Cad} {β : Box} {ξ ξ' : Xi} {H0 H : Hp} {ρ : Env'} {σ : L2.St}
theorem clr_get {j : Nat} {s : Sl} (h : (clrE ρ)[j]? = some s) : ∃ u, ρ[j]? = some u ∧ s = clrS u := by
  unfold clrE at h
  rw [List.getElem?_map] at h
  cases q : ρ[j]? with
  | none =>
    rw [q] at h
    cases h
  | some u =>
    rw [q] at h
    exact ⟨u, rfl, (Option.some.inj h).symm⟩
theorem SlOk.clr {sl : Sl} {o : Option V} (h : SlOk cad β ξ H0 H sl o) : SlOk cad β ξ' H0 H (clrS sl) o := by
  cases sl with
  | no => trivial
  | d x => exact h
  | own xs => exact h
  | oth x => exact h
  | box => exact h
  | fn => exact h
  | mil => exact h
  | ex x => trivial
theorem clr_foot {H : Hp} {u : Sl} {o : Option V} {a : Addr} (f : (clrS u).foot H o a) : u.foot H o a := by
  cases u with
  | ex x => exact f.elim
  | _ => exact f
theorem Rel.clr (r : Rel cad β ξ H0 ρ σ H) : Rel cad β ξ' H0 (clrE ρ) σ H := by
  refine ⟨r.ext, by simp [clrE, r.len], fun j s o a b => ?_, fun i j s t o v a h1 h2 h3 h4 ne f1 f2 => ?_, r.ok, r.boxf, r.tabs⟩
  · obtain ⟨u, hu, rfl⟩ := clr_get a
    exact (r.sl j u o hu b).clr
  · obtain ⟨u, hu, rfl⟩ := clr_get h1
    obtain ⟨w, hw, rfl⟩ := clr_get h2
    exact r.apt i j u w o v a hu hw h3 h4 ne (clr_foot f1) (clr_foot f2)
/-- from outside of a handler to within: no slot holds an error -/
theorem SlOk.enter {sl : Sl} {o : Option V} (h : SlOk cad β none H0 H sl o) : SlOk cad β ξ' H0 H sl o := by
  cases sl with
  | no => trivial
  | d x => exact h
  | own xs => exact h
  | oth x => exact h
  | box => exact h
  | fn => exact h
  | mil => exact h
  | ex x =>
    obtain ⟨_, _, _, e, _⟩ := h
    cases e
theorem Rel.enter (r : Rel cad β none H0 ρ σ H) : Rel cad β ξ' H0 ρ σ H := ⟨r.ext, r.len, fun j s o a b => (r.sl j s o a b).enter, r.apt, r.ok, r.boxf, r.tabs⟩
end
section
variable {g : Ct} {β : Box} {A B C H0 H : Hp} {ρ : Env'} {σ : L2.St}
theorem ow_clr (h : ∀ (i : Nat) (s : Sl) (o : Option V) (a : Addr), ρ[i]? = some s → σ[i]? = some o → s.foot H o a → B a = none) (i : Nat) (s : Sl) (o : Option V) (a : Addr) (h1 : (clrE ρ)[i]? = some s) (h2 : σ[i]? = some o) (f : s.foot H o a) : B a = none := by
  obtain ⟨u, hu, rfl⟩ := clr_get h1
  exact h i u o a hu h2 (clr_foot f)
/-- the context of a handler -/
def Ct.h (g : Ct) (a : Addr) (c : Value) (dx : Option Addr) : Ct := ⟨g.cad, some (a, c, dx), fun _ _ _ _ => False, g.lk⟩
theorem s_try {X : Cx} {st : Stmt} {i : Nat} {c : Value} {cm : Str → Option Bool} {F G : Env' → T Fl} (hx : g.ξ = none) (hcm : ∀ x C b, g.cad x = some C → cm x = some b → PySem.W.exmOne X.K (.ref C) c = some b)
    (hs : PS X st (fun D σ H => tS { g with W := wAs X.K c i (fun a cls d => tS (g.h a cls d) G) g.W D } F D σ H)) : PS X st (tS g (sTry i cm F G)) := hs.imp fun E σ H ⟨β, A, B, C, H0, ρ, r, q⟩ => by
  refine ⟨β, A, B, C, H0, ρ, ⟨r.rel, r.st, r.base, r.lk, r.ow⟩, T.wp_mono (fun fl z => ?_) (fun _ z => z) _ ((T.wp_bind _ _).mp q)⟩
  cases fl with
  | nx ρ' => exact fun σ' H0' H' r' => z σ' H0' H' ⟨r'.rel, r'.st, r'.base, r'.lk, r'.ow⟩
  | ret d => exact z
  | brk ρ' => exact fun σ' H0' H' r' => z σ' H0' H' ⟨r'.rel, r'.st, r'.base, r'.lk, r'.ow⟩
  | cnt ρ' => exact fun σ' H0' H' r' => z σ' H0' H' ⟨r'.rel, r'.st, r'.base, r'.lk, r'.ow⟩
  | exc x ρ' =>
    intro cv dx σ' H0' H' r' he
    have he' : ExcIs g.cad x cv dx H0' := he
    have r0 : SR g β A B C H0' ρ' σ' H' := ⟨r'.rel, r'.st, r'.base, r'.lk, r'.ow⟩
    obtain ⟨⟨C', hC', ec⟩, hd⟩ := id he'
    subst ec
    simp only at z
    split at z
    · next hm =>
      refine ⟨true, hcm _ _ _ hC' hm, fun _ a ha => ?_, fun w => by cases w⟩
      have rr : SR (g.h a (.ref C') dx) β A B C H0' (ρ'.set i (.ex x)) (σ'.set i (some (.ref a))) H' := by
        have r1 : SR (g.h a (.ref C') dx) β A B C H0' ρ' σ' H' := ⟨by
          have rel := r0.rel
          rw [hx] at rel
          exact rel.enter, r0.st, r0.base, r0.lk, r0.ow⟩
        exact r1.set ⟨a, .ref C', dx, rfl, rfl, he'⟩ trivial
      refine ⟨β, A, B, C, H0', _, rr, T.wp_mono (fun fl2 z2 => ?_) (fun _ z => z) _ ((T.wp_bind _ _).mp z)⟩
      have back : ∀ {ρ2 : Env'} {σ2 : L2.St} {H2 H3 : Hp}, SR (g.h a (.ref C') dx) β A B C H2 ρ2 σ2 H3 → SR g β A B C H2 (clrE (ρ2.set i .no)) (σ2.set i none) H3 := fun {ρ2 σ2 H2 H3} r2 => by
        have r3 := r2.set (i := i) (sl := .no) (o := none) trivial trivial
        exact ⟨r3.rel.clr, r3.st, r3.base, r3.lk, ow_clr r3.ow⟩
      cases fl2 with
      | nx ρ2 => exact fun σ2 H2 H3 r2 => z2 _ H2 H3 (back r2)
      | ret d => exact z2
      | brk ρ2 => exact fun σ2 H2 H3 r2 => z2 _ H2 H3 (back r2)
      | cnt ρ2 => exact fun σ2 H2 H3 r2 => z2 _ H2 H3 (back r2)
      | exc _ _ => exact z2.elim
    · next hm =>
      exact ⟨false, hcm _ _ _ hC' hm, (fun w => by cases w), fun _ => z _ dx σ' H0' H' r0 he'⟩
    · exact z.elim
end
/-! ### a field of the error that is handled -/
def eFld (i : Nat) (c fl : Str) : Env' → T D := fun ρ => match ρ[i]? with
  | some (.ex x) => if x.cls = c then match x.fs.lookup fl with
    | some d => .ret d
    | none => .bad
    else .bad
  | _ => .bad
theorem zip_lookup {H0 : Hp} {fl : Str} {d : D} : ∀ {fs : List (Str × D)} {vs : List V}, HasL H0 vs (fs.map (·.2)) → fs.lookup fl = some d → ∃ v, ((fs.map (·.1)).zip vs).lookup fl = some v ∧ Has H0 v d
  | [], _, _, e => by cases e
  | (n, x) :: fs, vs, h, e => by
    cases h with
    | @cons v vs _ _ h1 h2 =>
      show ∃ w, List.lookup fl ((n, v) :: (fs.map (·.1)).zip vs) = some w ∧ Has H0 w d
      rw [List.lookup_cons] at e ⊢
      cases q : fl == n with
      | true =>
        rw [q] at e
        cases e
        exact ⟨v, rfl, h1⟩
      | false =>
        rw [q] at e
        exact zip_lookup h2 e
theorem r_fld {X : Cx} {g : Ct} {i : Nat} {a C : Addr} {oe : Obj} {cls : Value} {dx : Option Addr} {pn : List (Addr × Obj)} {x c fl : Str} {p pos : Pos} (T : XfC X.K C) (hno : PySem.W.findIn X.K (.ref C) fl = some none) (hcad : g.cad c = some C) (hxi : g.ξ = some (a, cls, dx))
    (hz : Zc cls dx oe) (hf : ∃ vs, oe.data = .fields vs) (hp : PE (X.suite a ((a, oe) :: pn)) (.Name x p) (tVar i)) (hb : attributeBase (.Name x p) fl X.env (eval (.Name x p) X.env) = eval (.Name x p) X.env := by rfl) :
    PE (X.suite a ((a, oe) :: pn)) (.Attribute (.Name x p) fl pos) (tE g (eFld i c fl)) := (pe_xf T hno hz hf hp hb).imp fun σ H Q ⟨β, H0, ρ, r, q⟩ => by
  unfold eFld at q
  split at q
  · next y hy =>
    split at q
    · next ec =>
      split at q
      · next d hd =>
        have hl : i < σ.length := by
          rw [← r.len]
          exact (List.getElem?_eq_some_iff.mp hy).1
        obtain ⟨a', c', dx', e1, e2, he⟩ := r.sl i _ _ hy (List.getElem?_eq_getElem hl)
        rw [hxi] at e1
        cases e1
        obtain ⟨⟨C', hC', ec'⟩, hdd⟩ := he
        rw [ec, hcad] at hC'
        cases hC'
        rcases hdd with ⟨hn, _⟩ | ⟨dd, vs, ed, hx, hv⟩
        · rw [hn] at hd
          cases hd
        · obtain ⟨v, lv, hv'⟩ := zip_lookup hv hd
          exact ⟨.ref a, by rw [List.getElem?_eq_getElem hl, e2], rfl, ec', dd, _, v, ed, r.ext _ _ hx, lv, q v H0 H r.refl hv'⟩
      · exact q.elim
    · exact q.elim
  · exact q.elim
/-! ### isinstance(x, T), T a built-in class -/
theorem r_isa {X : Cx} {g : Ct} {a c : Expr} {f : Env' → T D} {p pos : Pos} {n : String} (hg : Gl X "isinstance") (hm : X.mg "isinstance" = none) (hc : PE X c (tC (.ty n))) (ha : PE X a (tE g f)) (hk : ∀ m ∈ ["NoneType", "bool", "int", "str", "list", "tuple", "dict"], PySem.W.kitOne X.K (.type m) (.type n) = some (m == n || (n == "int" && m == "bool")))
    (hs : starEach [a, c] X.env = (false, eval a X.env) :: starEach [c] X.env := by rfl) (hs2 : starEach [c] X.env = (false, eval c X.env) :: starEach [] X.env := by rfl) (hpl : (backTo pos (starEach [c] X.env)).any (·.1) = false := by rfl) :
    PE X (.Call (.Name "isinstance" p) [a, c] [] pos) (tE g (eUn (fun d => .ret (.bool (isaD n d))) f)) :=
  (pe_callB call_isi hg hm (by decide +kernel) (pa_cons ha (pa_cons hc pa_nil hs2) hs) (by decide) (by decide) hs hpl).imp fun σ H Q ⟨β, H0, ρ, r, q⟩ => tE_then r q fun d v H1 H2 st hv q1 => by
    refine ⟨v, .ty n, .type (tyD d), .type n, _, rfl, .ty n, hv.ty st.ext, hk (tyD d) ?_, q1 _ H1 H2 st (.bl _)⟩
    cases d <;> simp [tyD]
end Wb
set_option Elab.async false
set_option linter.all false
set_option maxRecDepth 100000
set_option maxHeartbeats 4000000
/-! Wb, part 7: repr of data. -/
namespace Wb
open PySem PySem.Spec PyProof.Rows L2
/-- what a value reads as, and what its repr is, at a heap -/
structure Rep (prog : Program) (w : World) (h : Heap) (u : Value) (d : D) : Prop where
  rd : ∃ as, Reads h u d as
  kr : ∃ bs, ReadAtMost h d.depth bs ∧ ReprK prog w bs h d.depth u d.shown
structure RepAll (prog : Program) (w : World) (h : Heap) (us : List Value) (ds : List D) : Prop where
  rd : ∃ as, ReadsAll h us ds as
  kr : ∃ bs, ReadAtMost h (PyData.depthAll ds) bs ∧ ReprAllK prog w bs h (PyData.depthAll ds) us (PyData.shownAll ds)
section
variable {prog : Program} {w : World} {h : Heap}
theorem RepAll.nil : RepAll prog w h [] [] := ⟨⟨[], .nil⟩, [], (fun _ z => nomatch z), by simp only [PyData.shownAll]; exact .nil⟩
theorem RepAll.cons {u : Value} {us : List Value} {d : D} {ds : List D} (a : Rep prog w h u d) (b : RepAll prog w h us ds) : RepAll prog w h (u :: us) (d :: ds) := by
  obtain ⟨⟨as, r1⟩, bs1, n1, k1⟩ := a
  obtain ⟨⟨as', r2⟩, bs2, n2, k2⟩ := b
  refine ⟨⟨_, .cons r1 r2⟩, bs1 ++ bs2, ?_, ?_⟩
  · intro c hc
    simp only [PyData.depthAll]
    rcases List.mem_append.mp hc with z | z
    · obtain ⟨d', as'', r', hd'⟩ := n1 c z
      exact ⟨d', as'', r', by omega⟩
    · obtain ⟨d', as'', r', hd'⟩ := n2 c z
      exact ⟨d', as'', r', by omega⟩
  · simp only [PyData.depthAll, PyData.shownAll]
    refine .cons ((k1.more fun c hc => ?_).level_le ?_) (k2.more_le (fun c hc => ?_) ?_)
    · exact List.mem_append_left _ hc
    · omega
    · exact List.mem_append_right _ hc
    · omega
theorem Rep.list {a : Addr} {o : Obj} {vs : List Value} {n : Nat} {ds : List D} (h1 : h.get? a = some o) (h2 : o.cls = .type "list") (h3 : o.data = .seq vs.toArray n) (r : RepAll prog w h vs ds) : Rep prog w h (.ref a) (.list ds) := by
  obtain ⟨⟨as, rd⟩, bs, nb, kr⟩ := r
  have r0 : Reads h (.ref a) (.list ds) (a :: as) := .list h1 h2 h3 rd
  have hna : a ∉ bs := by
    apply not_mem_of_deeper r0 _ nb
    simp only [PyData.depth]
    omega
  refine ⟨⟨_, r0⟩, a :: bs, ?_, ?_⟩
  · apply ReadAtMost.cons r0 _ nb
    simp only [PyData.depth]
    omega
  · simp only [PyData.depth, PyData.shown]
    cases vs with
    | nil =>
      cases rd
      simp only [PyData.shownAll, listText_nil]
      exact ReprK.listEmpty h1 h2 h3
    | cons x l =>
      refine ReprK.list h1 h2 h3 hna ?_ (fun i y e => ?_)
      · have := kr.length_eq
        simpa using this
      · exact kr.item i y (by simpa using e)
theorem Rep.tuple {a : Addr} {o : Obj} {vs : List Value} {n : Nat} {ds : List D} (h1 : h.get? a = some o) (h2 : o.cls = .type "tuple") (h3 : o.data = .seq vs.toArray n) (r : RepAll prog w h vs ds) : Rep prog w h (.ref a) (.tuple ds) := by
  obtain ⟨⟨as, rd⟩, bs, nb, kr⟩ := r
  have r0 : Reads h (.ref a) (.tuple ds) as := .tuple h1 h2 h3 rd
  have hna : a ∉ bs := by
    apply not_mem_of_deeper r0 _ nb
    simp only [PyData.depth]
    omega
  refine ⟨⟨_, r0⟩, a :: bs, ?_, ?_⟩
  · apply ReadAtMost.cons r0 _ nb
    simp only [PyData.depth]
    omega
  · simp only [PyData.depth, PyData.shown]
    exact ReprK.tuple h1 h2 h3 hna kr
theorem Rep.dict {a : Addr} {o : Obj} {es : Array DictEntry} {n : Nat} {kvs : List (D × D)} (h1 : h.get? a = some o) (h2 : o.cls = .type "dict") (h3 : o.data = .dict es n) (hs : (a == sysModules) = false)
    (r1 : RepAll prog w h (es.toList.map (·.key)) (kvs.map (·.1))) (r2 : RepAll prog w h (es.toList.map (·.val)) (kvs.map (·.2))) : Rep prog w h (.ref a) (.dict kvs) := by
  obtain ⟨⟨as1, rd1⟩, bs1, nb1, kr1⟩ := r1
  obtain ⟨⟨as2, rd2⟩, bs2, nb2, kr2⟩ := r2
  have r0 : Reads h (.ref a) (.dict kvs) (a :: as1 ++ as2) := .dict h1 h2 h3 rd1 rd2
  have nb : ReadAtMost h (PyData.depthKv kvs) (bs1 ++ bs2) := (nb1.mono (PyData.depthAll_keys_le kvs)).append (nb2.mono (PyData.depthAll_vals_le kvs))
  have hna : a ∉ bs1 ++ bs2 := by
    apply not_mem_of_deeper r0 _ nb
    simp only [PyData.depth]
    omega
  refine ⟨⟨_, r0⟩, a :: (bs1 ++ bs2), ?_, ?_⟩
  · apply ReadAtMost.cons r0 _ nb
    simp only [PyData.depth]
    omega
  · simp only [PyData.depth, PyData.shown, PyData.shownKv_eq]
    have e1 := kr1.more_le (as' := bs1 ++ bs2) (fun c hc => List.mem_append_left _ hc) (PyData.depthAll_keys_le kvs)
    have e2 := kr2.more_le (as' := bs1 ++ bs2) (fun c hc => List.mem_append_right _ hc) (PyData.depthAll_vals_le kvs)
    exact ReprK.dict h1 h2 h3 hs hna (ReprEntriesK.of_two es.toList _ _ e1 e2)
theorem Rep.int {i : Int} {t : Tok} (hs : i.natAbs.log2 < 1920) : Rep prog w h (.int i t) (.int i) :=
  ⟨⟨[], .int i t⟩, [], (fun _ z => nomatch z), by simp only [PyData.shown]; exact .of_is (ReprIs.int t hs) _ _ _⟩
theorem Rep.str {x : Str} {t : Tok} (hz : (reprText x).length ≤ sizeLine) : Rep prog w h (.str x t) (.str x) :=
  ⟨⟨[], .str x t⟩, [], (fun _ z => nomatch z), by simp only [PyData.shown]; exact .of_is (ReprIs.str x t hz) _ _ _⟩
theorem Rep.key {K : Key} {u : Value} (hk : keyIs K u = true) (hs : (keyD K).showable = true) (hz : (keyD K).shown.length ≤ sizeLine) : Rep prog w h u (keyD K) := by
  rcases keyIs_shape hk with ⟨i, t, rfl, rfl⟩ | ⟨x, t, rfl, rfl⟩
  · exact Rep.int (by simpa [keyD, PyData.showable] using hs)
  · exact Rep.str (by simpa only [keyD, PyData.shown] using hz)
end
section
variable {X : Cx} {pins : List (Addr × Obj)} {σ : L2.St} {H : Hp} {s : Shared}
mutual
theorem Has.repr (I : Inv X pins σ H s) : ∀ {d : D} {v : V} {u : Value}, Has H v d → RelV v u → d.showable = true → d.shown.length ≤ sizeLine → Rep X.prog X.w s.heap u d
  | .none, _, _, .non, r, _, _ => by
    cases r
    exact ⟨⟨[], .none⟩, [], (fun _ z => nomatch z), by simp only [PyData.shown]; exact .of_is ReprIs.none _ _ _⟩
  | .bool b, _, _, .bl _, r, _, _ => by
    cases r
    exact ⟨⟨[], .bool b⟩, [], (fun _ z => nomatch z), by simp only [PyData.shown]; exact .of_is (ReprIs.bool b) _ _ _⟩
  | .int i, _, _, .int _, r, hs, _ => by
    obtain ⟨t, rfl⟩ := r
    exact Rep.int (by simpa [PyData.showable] using hs)
  | .str x, _, _, .str _, r, _, hz => by
    obtain ⟨t, rfl⟩ := r
    exact Rep.str (by simpa only [PyData.shown] using hz)
  | .list ds, _, _, .lst h1 h2, r, hs, hz => by
    cases r
    obtain ⟨its, n, rv, ho, _⟩ := I.lst h1
    have hz' : (listText (PyData.shownAll ds)).length ≤ sizeLine := by simpa only [PyData.shown] using hz
    exact Rep.list ho rfl rfl (HasL.repr I h2 rv (by simpa [PyData.showable] using hs) fun t ht => Nat.le_trans (listText_mem_le ht) hz')
  | .tuple ds, _, _, .tup h1 _ h2, r, hs, hz => by
    cases r
    obtain ⟨its, rv, ⟨o, ho, hc, n, hd⟩, _⟩ := I.tuple (sqF h1)
    have hz' : (tupleText (PyData.shownAll ds)).length ≤ sizeLine := by simpa only [PyData.shown] using hz
    exact Rep.tuple ho hc hd (HasL.repr I h2 rv (by simpa [PyData.showable] using hs) fun t ht => Nat.le_trans (tupleText_mem_le ht) hz')
  | .dict kvs, _, _, .dct h1 h2, r, hs, hz => by
    cases r
    obtain ⟨_, hsys, vs, kv, o, es, ep, ho, hx, hd, _, pr, _⟩ := I.hok _ _ h1
    have hz' : (dictText (PyData.shownKv kvs)).length ≤ sizeLine := by simpa only [PyData.shown] using hz
    obtain ⟨p1, p2⟩ := HasK.repr I h2 kv pr (by simpa [PyData.showable] using hs) fun t ht => Nat.le_trans (dictText_mem_le ht) hz'
    exact Rep.dict ho hx.1 hd hsys p1 p2
theorem HasL.repr (I : Inv X pins σ H s) : ∀ {ds : List D} {vs : List V} {us : List Value}, HasL H vs ds → Vals vs us → PyData.showableAll ds = true → (∀ t ∈ PyData.shownAll ds, t.length ≤ sizeLine) → RepAll X.prog X.w s.heap us ds
  | [], _, _, .nil, r, _, _ => by
    cases r
    exact RepAll.nil
  | d :: ds, _, _, .cons h1 h2, r, hs, hz => by
    cases r with
    | cons r1 r2 =>
      have hs' : d.showable = true ∧ PyData.showableAll ds = true := by simpa [PyData.showableAll] using hs
      refine RepAll.cons (Has.repr I h1 r1 hs'.1 (hz _ ?_)) (HasL.repr I h2 r2 hs'.2 fun t ht => hz t ?_)
      · simp only [PyData.shownAll]
        exact List.mem_cons_self ..
      · simp only [PyData.shownAll]
        exact List.mem_cons_of_mem _ ht
theorem HasK.repr (I : Inv X pins σ H s) : ∀ {ds : List (D × D)} {kvs : List (Key × V)} {vs : List (Key × Value)} {es : List DictEntry}, HasK H kvs ds → KV kvs vs → Pairs (mixKind X.prog X.w) es vs → PyData.showableKv ds = true →
    (∀ t ∈ PyData.shownKv ds, t.length ≤ sizeLine) → RepAll X.prog X.w s.heap (es.map (·.key)) (ds.map (·.1)) ∧ RepAll X.prog X.w s.heap (es.map (·.val)) (ds.map (·.2))
  | [], _, _, _, .nil, r, p, _, _ => by
    cases r
    cases p
    exact ⟨RepAll.nil, RepAll.nil⟩
  | _ :: ds, _, _, _, .cons (k := k) (d := d) h1 h2, r, p, hs, hz => by
    cases r with
    | @cons _ q _ _ r1 r2 =>
      obtain ⟨k', u⟩ := q
      obtain ⟨ek, rv⟩ := r1
      have ek' : k = k' := ek
      subst ek'
      cases p with
      | cons p1 p2 p3 =>
        have hs' : ((keyD k).showable = true ∧ d.showable = true) ∧ PyData.showableKv ds = true := by simpa [PyData.showableKv] using hs
        have hz0 : (keyD k).shown.length + 2 + d.shown.length ≤ sizeLine := by
          have := hz ((keyD k).shown ++ ": " ++ d.shown) (by simp only [PyData.shownKv]; exact List.mem_cons_self ..)
          have e2 : ((keyD k).shown ++ (": " : Str) ++ d.shown).length = (keyD k).shown.length + 2 + d.shown.length := by
            rw [Str.length_append, Str.length_append]
            rfl
          omega
        obtain ⟨a1, a2⟩ := HasK.repr I h2 r2 p3 hs'.2 fun t ht => hz t (by simp only [PyData.shownKv]; exact List.mem_cons_of_mem _ ht)
        have rv' : RelV _ u := rv
        have p2' : _ = u := p2
        refine ⟨RepAll.cons (Rep.key p1 hs'.1.1 (by omega)) a1, RepAll.cons ?_ a2⟩
        simp only [p2']
        exact Has.repr I h1 rv' hs'.1.2 (by omega)
end
end
/-! ### repr(x) -/
/-- small enough to be shown -/
def okRep (d : D) : Bool := d.showable && decide (d.shown.length ≤ 10000000) && decide (d.depth ≤ 100)
def oRepr : D → T D := fun d => if okRep d = true then .ret (.str d.shown) else .bad
theorem call_repr {X : Cx} (hg : X.A.guards = some []) (hu : X.A.units + 200 < cLine) : CallR X (.builtin "repr") (fun xs H Q => ∃ v d, xs = [v] ∧ Has H v d ∧ okRep d = true ∧ Q (.str d.shown) H) := by
  intro pins s σ H xs us Q I r hh
  obtain ⟨v, d, rfl, hv, ok, q⟩ := hh
  obtain ⟨u, rfl, ru⟩ := vals1 r
  unfold okRep at ok
  simp only [Bool.and_eq_true, decide_eq_true_eq] at ok
  obtain ⟨⟨o1, o2⟩, o3⟩ := ok
  have hz : d.shown.length ≤ sizeLine := by
    rw [sizeLine_eq]
    omega
  have fin : ∀ (h' : Heap) (t : Tok) (tk : Nat), (∀ b o, s.heap.get? b = some o → h'.get? b = some o) → EP X pins σ Q (.str d.shown t) { s with heap := h', toks := tk } := fun h' t tk k =>
    ⟨.str d.shown, H, I.kept k, ⟨t, rfl⟩, q⟩
  have noC : ∀ (bs : List Addr), ∀ b ∈ bs, Clear [] b := fun _ b _ => Clear.nil b
  cases hv with
  | non =>
    cases ru
    simp only [PyData.shown] at fin
    exact PySem.P.repr_of_none (fin s.heap _ _ fun _ _ e => e)
  | bl b =>
    cases ru
    simp only [PyData.shown] at fin
    exact PySem.P.repr_of_bool (fin s.heap _ _ fun _ _ e => e)
  | int i =>
    obtain ⟨t, rfl⟩ := ru
    simp only [PyData.shown] at fin
    exact PySem.P.repr_of_int (by simpa [PyData.showable] using o1) (fin s.heap _ _ fun _ _ e => e)
  | str x =>
    obtain ⟨t, rfl⟩ := ru
    simp only [PyData.shown] at fin hz
    exact PySem.P.repr_of_str (fin s.heap _ _ fun _ _ e => e) hz
  | @lst a xs ds h1 h2 =>
    cases ru
    obtain ⟨its, n, rv, ho, _⟩ := I.lst h1
    simp only [PyData.shown] at fin hz
    have R := HasL.repr I h2 rv (by simpa [PyData.showable] using o1) fun t ht => Nat.le_trans (listText_mem_le ht) hz
    obtain ⟨⟨as, rd⟩, bs, nb, kr⟩ := R
    simp only [PyData.depth] at o3
    have r0 : Reads s.heap (.ref a) (.list ds) (a :: as) := .list ho rfl rfl rd
    have hna : a ∉ bs := by
      apply not_mem_of_deeper r0 _ nb
      simp only [PyData.depth]
      omega
    refine call_repr_slot (T := "list") (by omega) ⟨_, ho, rfl⟩ F.slot_list_repr.toG ?_
    cases its with
    | nil =>
      cases rd
      simp only [PyData.shownAll, listText_nil] at fin
      exact call_list_repr_empty ⟨_, ho, rfl⟩ ho rfl ⟨_, _, rfl, fin s.heap _ _ fun _ _ e => e⟩
    | cons y l =>
      refine call_list_reprK ho rfl rfl hna (by have := kr.length_eq; simpa using this) (fun i y e => kr.item i y (by simpa using e)) hg (noC _) (by show X.A.units + 1 + _ < cLine; omega) (fun _ _ e => e)
        (fun h' t tk k => ⟨_, _, rfl, fin h' t tk k⟩) hz
  | @tup a ob xs ds h1 hdn h2 =>
    cases ru
    obtain ⟨its, rv, ⟨o, ho, hc, n, hd⟩, _⟩ := I.tuple (sqF h1)
    simp only [PyData.shown] at fin hz
    have R := HasL.repr I h2 rv (by simpa [PyData.showable] using o1) fun t ht => Nat.le_trans (tupleText_mem_le ht) hz
    obtain ⟨⟨as, rd⟩, bs, nb, kr⟩ := R
    simp only [PyData.depth] at o3
    have r0 : Reads s.heap (.ref a) (.tuple ds) as := .tuple ho hc hd rd
    have hna : a ∉ bs := by
      apply not_mem_of_deeper r0 _ nb
      simp only [PyData.depth]
      omega
    refine call_repr_slot (T := "tuple") (by omega) ⟨_, ho, hc⟩ F.slot_tuple_repr ?_
    exact call_tuple_reprK ho hc hd hna kr hg (noC _) (by show X.A.units + 1 + _ < cLine; omega) (fun _ _ e => e) (fun h' t tk k => ⟨_, _, rfl, fin h' t tk k⟩) hz
  | @dct a kvs ds h1 h2 =>
    cases ru
    obtain ⟨_, hsys, vs, kv, o, es, ep, ho, hx, hd, _, pr, _⟩ := I.hok _ _ h1
    simp only [PyData.shown, PyData.shownKv_eq] at fin hz
    obtain ⟨p1, p2⟩ := HasK.repr I h2 kv pr (by simpa [PyData.showable] using o1) fun t ht => Nat.le_trans (dictText_mem_le ht) (by rw [PyData.shownKv_eq]; exact hz)
    obtain ⟨⟨as1, rd1⟩, bs1, nb1, kr1⟩ := p1
    obtain ⟨⟨as2, rd2⟩, bs2, nb2, kr2⟩ := p2
    simp only [PyData.depth] at o3
    have r0 : Reads s.heap (.ref a) (.dict ds) (a :: as1 ++ as2) := .dict ho hx.1 hd rd1 rd2
    have nb : ReadAtMost s.heap (PyData.depthKv ds) (bs1 ++ bs2) := (nb1.mono (PyData.depthAll_keys_le ds)).append (nb2.mono (PyData.depthAll_vals_le ds))
    have hna : a ∉ bs1 ++ bs2 := by
      apply not_mem_of_deeper r0 _ nb
      simp only [PyData.depth]
      omega
    have e1 := kr1.more_le (as' := bs1 ++ bs2) (fun c hc => List.mem_append_left _ hc) (PyData.depthAll_keys_le ds)
    have e2 := kr2.more_le (as' := bs1 ++ bs2) (fun c hc => List.mem_append_right _ hc) (PyData.depthAll_vals_le ds)
    refine call_repr_slot (T := "dict") (by omega) ⟨_, ho, hx.1⟩ F.slot_dict_repr ?_
    exact call_dict_reprK ho hx.1 hd hsys hna (ReprEntriesK.of_two es.toList _ _ e1 e2) hg (noC _) (by show X.A.units + 1 + _ < cLine; omega) (fun _ _ e => e) (fun h' t tk k => ⟨_, _, rfl, fin h' t tk k⟩) hz
theorem d_repr : CaD (fun xs H Q => ∃ v d, xs = [v] ∧ Has H v d ∧ okRep d = true ∧ Q (.str d.shown) H) (o1 oRepr) := by
  apply d_1
  intro β H0 H v x Q E e ok bf hv q
  unfold oRepr at q
  split at q
  · next c => exact ⟨v, x, rfl, hv.mono e, c, out_ret e ok bf (.str _) q⟩
  · exact q.elim
end Wb
set_option Elab.async false
set_option linter.all false
set_option maxRecDepth 100000
set_option maxHeartbeats 4000000
/-! Wb, part 8: lists of one's own, defs that are called, the source of draws. -/
namespace Wb
open PySem PySem.Spec PyProof.Rows L2
/-! ### a list that only this def holds -/
def sOwn (i : Nat) (fs : Env' → T (List D)) : Env' → T Fl := fun ρ => (fs ρ).lift ρ fun ds => .ret (.nx (ρ.set i (.own ds)))
def lLst (fs : Env' → T (List Ar)) : Env' → T (List D) := fun ρ => (fs ρ).bind fun as => match dsOf as with
  | some ds => if ds.length ≤ 1000000 then .ret ds else .bad
  | none => .bad
section
variable {X : Cx} {g : Ct} {a b c : Expr} {f h : Env' → T D} {pos : Pos} {st : Stmt} {sts : List Stmt} {F : Env' → T Fl} {fs : Env' → T (List Ar)}
theorem SR.setOwn {β : Box} {A B C H0 H : Hp} {ρ : Env'} {σ : L2.St} (r : SR g β A B C H0 ρ σ H) {i : Nat} {p : Addr} {vs : List V} {xs : List D} (hB : B p = none) (h : H p = some (.lst vs)) (hl : HasL H0 vs xs) (n : H0 p = none) (ns : ¬ β.S p)
    (fr : ∀ (j : Nat) (t : Sl) (u : Option V), j ≠ i → ρ[j]? = some t → σ[j]? = some u → ¬ t.foot H u p) : SR g β A B C H0 (ρ.set i (.own xs)) (σ.set i (some (.ref p))) H :=
  r.setB ⟨p, vs, rfl, h, hl, n, ns⟩ (fun j t u a ne h1 h2 f1 f2 => by
    cases f1
    exact fr j t u ne h1 h2 f2) fun a f => by
    cases f
    exact hB
/-- an address that nobody holds yet -/
theorem SR.fresh {β : Box} {A B C H0 H : Hp} {ρ : Env'} {σ : L2.St} (r : SR g β A B C H0 ρ σ H) {p : Addr} (hp : H p = none) : B p = none ∧ H0 p = none ∧ ¬ β.S p ∧
    ∀ {H1 H2 : Hp}, Stp β H0 H H1 H2 → ∀ (j : Nat) (t : Sl) (u : Option V), ρ[j]? = some t → σ[j]? = some u → ¬ t.foot H2 u p := by
  have h0 : H0 p = none := r.rel.ext.free hp
  have nS : ¬ β.S p := fun z => by
    obtain ⟨u, w⟩ := β.here H p r.rel.ok z
    rw [hp] at w
    cases w
  refine ⟨?_, h0, nS, fun st j t u a b f => r.rel.fresh hp st j t u a b f⟩
  cases q : B p with
  | none => rfl
  | some o =>
    exfalso
    cases qa : A p with
    | none =>
      have := (r.st.priv p o q qa).2 nS
      rw [hp] at this
      cases this
    | some u =>
      have := r.st.grow p u qa
      rw [h0] at this
      cases this
/-- what a bare slot takes is of no matter -/
theorem fr_set {ρ : Env'} {σ : L2.St} {H : Hp} {p : Addr} {i : Nat} {x : Sl} {v : Option V} (hx : x.bare) (fr : ∀ (j : Nat) (t : Sl) (u : Option V), ρ[j]? = some t → σ[j]? = some u → ¬ t.foot H u p) :
    ∀ (j : Nat) (t : Sl) (u : Option V), (ρ.set i x)[j]? = some t → (σ.set i v)[j]? = some u → ¬ t.foot H u p := fun j t u h1 h2 f => by
  rcases set_some h1 with ⟨_, rfl⟩ | ⟨n1, g1⟩
  · exact hx.no f
  · rcases set_some h2 with ⟨e, _⟩ | ⟨_, g2⟩
    · exact n1 e
    · exact fr j t u g1 g2 f
theorem s_own {i : Nat} (hs : PS X st (tAsg (tLst (tA g fs)) (gName i))) : PS X st (tS g (sOwn i (lLst fs))) := hs.imp fun E σ H ⟨β, A, B, C, H0, ρ, r, q⟩ => by
  unfold sOwn lLst at q
  rw [T.lift_bind] at q
  refine tA_lift r q fun as vs H1 H2 s hv q1 => ?_
  split at q1
  · next ds e =>
    split at q1
    · next hz =>
      have hl := hv.ds (dsOf_some e)
      have r1 := r.step s
      refine ⟨lim_line (by rw [hl.length]; exact hz), fun p hp => ?_⟩
      obtain ⟨f1, f2, f3, f4⟩ := r1.fresh hp
      have r2 := r1.step (r1.rel.junk (o := .lst vs) hp)
      exact q1 _ H1 _ (r2.setOwn f1 upd_same hl f2 f3 fun j ys q _ a b => f4 (r1.rel.junk hp) j ys q a b)
    · exact q1.elim
  · exact q1.elim
/-- slots at a heap that differs at one address, which slot i alone holds -/
theorem SR.chgB {β : Box} {A B C H0 H : Hp} {ρ : Env'} {σ : L2.St} (r : SR g β A B C H0 ρ σ H) {i : Nat} {s s' : Sl} {o : Option V} {p : Addr} {u w : HO} (hi : ρ[i]? = some s) (ho : σ[i]? = some o) (fp : s.foot H o p) (hp : H p = some u)
    (hs : SlOk g.cad β g.ξ H0 (upd H p w) s' o) (ff : ∀ a, s'.foot (upd H p w) o a → s.foot H o a) :
    SR g β A B C H0 (ρ.set i s') σ (upd H p w) := by
  obtain ⟨⟨u', hp', ne⟩, e4, e5⟩ := (r.rel.sl i _ _ hi ho).has fp
  rw [hp] at hp'
  cases hp'
  have hB := r.ow i s o p hi ho fp
  have same : Same H0 (upd H p w) := fun b u z => by
    rw [upd_ne (ne_of_none z e4)]
    exact r.rel.ext b u z
  have ok : β.ok (upd H p w) := β.stay H _ r.rel.ok fun a u hS z => by
    have na : a ≠ p := fun e => by
      rw [e] at hS z
      rcases hS with k | ⟨c, q, e2⟩
      · exact e5 k
      · rw [hp] at z
        cases z
        exact ne c q e2
    rw [upd_ne na]
    exact z
  -- what the other slots hold stays
  have kp : ∀ (j : Nat) (t : Sl) (v : Option V), j ≠ i → ρ[j]? = some t → σ[j]? = some v → ∀ a u, t.foot H v a → H a = some u → upd H p w a = some u := fun j t v nj a b q y f z => by
    have : q ≠ p := fun e => r.rel.apt j i t s v o q a hi b ho nj f (by rw [e]; exact fp)
    rw [upd_ne this]
    exact z
  have ft : ∀ (j : Nat) (t : Sl) (v : Option V) (a : Addr), (ρ.set i s')[j]? = some t → σ[j]? = some v → t.foot (upd H p w) v a → ∃ t0, ρ[j]? = some t0 ∧ t0.foot H v a := fun j t v a h1 h2 f => by
    rcases set_some h1 with ⟨rfl, rfl⟩ | ⟨n1, g1⟩
    · rw [ho] at h2
      cases h2
      exact ⟨s, hi, ff a f⟩
    · exact ⟨t, g1, (r.rel.sl j t v g1 h2).foot (kp j t v n1 g1 h2) f⟩
  refine ⟨⟨same, by simp [r.rel.len], fun j t v a b => ?_, fun j l t t' v v' a h1 h2 h3 h4 ne f1 f2 => ?_, ok, r.rel.boxf, r.rel.tabs⟩, r.st.mine hB e4 e5 (ncS hp ne), r.base, r.lk, fun j t v a h1 h2 f => ?_⟩
  · rcases set_some a with ⟨rfl, rfl⟩ | ⟨n1, g1⟩
    · rw [ho] at b
      cases b
      exact hs
    · have z := r.rel.sl j t v g1 b
      exact z.keep (fun _ _ h => h) (fun a f => (z.has f).2.1) (kp j t v n1 g1 b)
  · obtain ⟨x, k1, k2⟩ := ft j t v a h1 h3 f1
    obtain ⟨y, k3, k4⟩ := ft l t' v' a h2 h4 f2
    exact r.rel.apt j l x y v v' a k1 k3 h3 h4 ne k2 k4
  · obtain ⟨x, k1, k2⟩ := ft j t v a h1 h2 f
    exact r.ow j x v a k1 h2 k2
/-- what a list of one's own holds is changed -/
theorem SR.chg {β : Box} {A B C H0 H : Hp} {ρ : Env'} {σ : L2.St} (r : SR g β A B C H0 ρ σ H) {i : Nat} {xs ys : List D} {p : Addr} {vs : List V} (hi : ρ[i]? = some (.own xs)) (hp : σ[i]? = some (some (.ref p))) (hv : HasL H0 vs ys) :
    SR g β A B C H0 (ρ.set i (.own ys)) σ (upd H p (.lst vs)) := by
  obtain ⟨p', ws, e1, e2, e3, e4, e5⟩ := r.rel.sl i _ _ hi hp
  cases e1
  exact r.chgB hi hp rfl e2 ⟨p, vs, rfl, upd_same, hv, e4, e5⟩ fun a f => f
/-- n.append(e), n.extend(e) -/
def sApp (i : Nat) (f : Env' → T D) : Env' → T Fl := fun ρ => match ρ[i]? with
  | some (.own xs) => (f ρ).lift ρ fun d => if xs.length < 1000000 then .ret (.nx (ρ.set i (.own (xs ++ [d])))) else .bad
  | _ => .bad
def sExt (i : Nat) (f : Env' → T D) : Env' → T Fl := fun ρ => match ρ[i]? with
  | some (.own xs) => (f ρ).lift ρ fun d => match d with
    | .list ys => if xs.length + ys.length ≤ 1000000 then .ret (.nx (ρ.set i (.own (xs ++ ys)))) else .bad
    | _ => .bad
  | _ => .bad
theorem own_at {β : Box} {A B C H0 H : Hp} {ρ : Env'} {σ : L2.St} (r : SR g β A B C H0 ρ σ H) {i : Nat} {xs : List D} (hi : ρ[i]? = some (.own xs)) :
    ∃ p vs, σ[i]? = some (some (.ref p)) ∧ H p = some (.lst vs) ∧ HasL H0 vs xs := by
  have hl : i < σ.length := by
    rw [← r.rel.len]
    exact (List.getElem?_eq_some_iff.mp hi).1
  obtain ⟨p, vs, e1, e2, e3, _⟩ := r.rel.sl i _ _ hi (List.getElem?_eq_getElem hl)
  exact ⟨p, vs, by rw [List.getElem?_eq_getElem hl, e1], e2, e3⟩
theorem s_app {i : Nat} (hs : PS X st (tDrop (tBM X.K "list" rAppend (tVar i) (tCons (tE g f) tNil)))) : PS X st (tS g (sApp i f)) := hs.imp fun E σ H ⟨β, A, B, C, H0, ρ, r, q⟩ => by
  unfold sApp at q
  split at q
  · next xs hx =>
    obtain ⟨p, vs, e1, e2, e3⟩ := own_at r hx
    refine ⟨.ref p, e1, .inl ⟨rfl, vs, SqL.of e2⟩, tE_lift r q fun d v H1 H2 s hv q1 => ?_⟩
    split at q1
    · next hz =>
      have r1 := r.step s
      obtain ⟨p', vs', e1', e2', e3'⟩ := own_at r1 hx
      rw [e1] at e1'
      cases e1'
      have hlen := e3'.length
      refine ⟨p, vs', v, rfl, rfl, e2', ?_, q1 _ H1 _ (r1.chg hx e1 (e3'.append (.cons hv .nil)))⟩
      rw [sizeLine_eq]
      omega
    · exact q1.elim
  · exact q.elim
/-- from here on the list is data like other data -/
def sFrz (i : Nat) (F : Env' → T Fl) : Env' → T Fl := fun ρ => match ρ[i]? with
  | some (.own xs) => F (ρ.set i (.d (.list xs)))
  | _ => F ρ
theorem SR.frz {β : Box} {A B C H0 H H0' : Hp} {ρ : Env'} {σ : L2.St} (r : SR g β A B C H0 ρ σ H) {i : Nat} {s : Sl} {o : Option V} {v : V} {d : D} (hi : ρ[i]? = some s) (ho : σ[i]? = some o) (ev : o = some v) (stp : Stp β A B H0' H) (grow : Same H0 H0')
    (hd : Has H0' v d) (nw : ∀ a, H0 a = none → ¬ s.foot H o a → H0' a = none) : SR g β A B C H0' (ρ.set i (.d d)) σ H := by
  refine ⟨⟨stp.ext, by simp [r.rel.len], fun j t v' a b => ?_, fun j l t t' v v' a h1 h2 h3 h4 ne f1 f2 => ?_, r.rel.ok, stp.boxf, r.rel.tabs⟩, stp, r.base.trans grow, r.lk, fun j t v a h1 h2 f => ?_⟩
  · rcases set_some a with ⟨rfl, rfl⟩ | ⟨n1, g1⟩
    · rw [ho] at b
      cases b
      exact ⟨v, ev, hd⟩
    · have z := r.rel.sl j t v' g1 b
      exact z.keep grow (fun a f => nw a (z.has f).2.1 fun f' => r.rel.apt j i t s v' o a g1 hi b ho n1 f f') (fun _ _ _ h => h)
  · rcases set_some h1 with ⟨rfl, rfl⟩ | ⟨n1, g1⟩
    · exact f1
    · rcases set_some h2 with ⟨rfl, rfl⟩ | ⟨n2, g2⟩
      · exact f2
      · exact r.rel.apt j l t t' v v' a g1 g2 h3 h4 ne f1 f2
  · rcases set_some h1 with ⟨rfl, rfl⟩ | ⟨n1, g1⟩
    · exact f.elim
    · exact r.ow j t v a g1 h2 f
theorem ss_frz {i : Nat} (hs : PSs X sts (tS g F)) : PSs X sts (tS g (sFrz i F)) := hs.imp fun E σ H ⟨β, A, B, C, H0, ρ, r, q⟩ => by
  unfold sFrz at q
  split at q
  · next xs hx =>
    have hl : i < σ.length := by
      rw [← r.rel.len]
      exact (List.getElem?_eq_some_iff.mp hx).1
    obtain ⟨p, vs, e1, e2, e3, e4, e5⟩ := r.rel.sl i _ _ hx (List.getElem?_eq_getElem hl)
    have es : σ[i]? = some (some (.ref p)) := by rw [List.getElem?_eq_getElem hl, e1]
    have hB := r.own i xs p hx es
    have stp := r.st.known hB e4 e5 e2
    have grow : Same H0 (upd H0 p (.lst vs)) := fun b u z => by
      rw [upd_ne (ne_of_none z e4)]
      exact z
    refine ⟨β, A, B, C, upd H0 p (.lst vs), _, r.frz hx es rfl stp grow (.lst upd_same (upd_has e4 e3)) (fun a ha f => ?_), q⟩
    have : a ≠ p := fun e => f (by rw [e]; rfl)
    rw [upd_ne this]
    exact ha
  · exact ⟨β, A, B, C, H0, ρ, r, q⟩
end
/-! ### a def that is called -/
structure Cal (P : Program) (w : World) (K : PySem.W.Frag) (mg : Str → Option Value) (base : Heap) (cad : Cad) (x : Str) (k n : Nat) (m : List Ar → T D) : Prop where
  ex : ∃ (fa : Addr) (fd : FuncData) (ps : List Str), FnG P w K mg base k fa fd ps (spD cad n m) ∧ mg x = some (.ref fa) ∧ PySem.W.keepIn K (.ref fa) = true ∧ Binds K fd ps []
theorem r_cal {X : Cx} {g : Ct} {a : Expr} {es : List Expr} {fs : Env' → T (List Ar)} {x : Str} {p pos : Pos} {j k n : Nat} {m : List Ar → T D} (C : Cal X.prog X.w X.K X.mg X.base g.cad x j n m) (hr : Room k X.A) (hjk : j ≤ k) (hgu : X.A.guards = some []) (hg : Gl X x) (tk : Takes X g.W) (ha : PA X (a :: es) (tA g fs))
    (hdb : (x == ("__debug__" : Str)) = false := by decide) (he : starEach (a :: es) X.env = (false, eval a X.env) :: starEach es X.env := by rfl) (hpl : (backTo pos (starEach es X.env)).any (·.1) = false := by rfl) :
    PE X (.Call (.Name x p) (a :: es) [] pos) (tE g (eCall n m fs)) := by
  obtain ⟨fa, fd, ps, F, h1, h2, h3⟩ := C.ex
  exact r_call F (hr.mono hjk) hgu hg h1 h2 h3 tk ha hdb he hpl
/-- a class of errors with one field, that is raised -/
structure Err1 (P : Program) (w : World) (K : PySem.W.Frag) (mg : Str → Option Value) (base : Heap) (cad : Cad) (x fl : Str) : Prop where
  ex : ∃ (C fI : Addr) (fd : FuncData) (ps : List Str), ErrC K mg x C fI ∧ cad x = some C ∧ FnOk P w K mg base CX0 1 fI fd ps (spI1 C fl) ∧ Binds K fd ps [] ∧ PySem.W.findIn K (.ref C) fl = some none
theorem s_raiseE {X : Cx} {g : Ct} {a : Expr} {f : Env' → T D} {x fl : Str} {p pos pos2 : Pos} {k : Nat} (Er : Err1 X.prog X.w X.K X.mg X.base g.cad x fl) (hc : X.calm = true) (tk : Takes X g.W) (hr : Room k X.A) (hk : 2 ≤ k) (hg : Gl X x) (ha : PE X a (tE g f))
    (hdb : (x == ("__debug__" : Str)) = false := by decide) (hs : starEach [a] X.env = (false, eval a X.env) :: starEach [] X.env := by rfl) (hpl : (backTo pos (starEach [] X.env)).any (·.1) = false := by rfl) :
    PS X (.Raise (some (.Call (.Name x p) [a] [] pos)) none pos2) (tS g (sRaise1 x fl f)) := by
  obtain ⟨C, fI, fd, ps, T, hcad, F, hb, _⟩ := Er.ex
  exact s_raise1 hc tk T hcad F (hr.mono hk) hb hg ha hdb hs hpl
end Wb
set_option Elab.async false
set_option linter.all false
set_option maxRecDepth 100000
set_option maxHeartbeats 4000000
/-! Wb, part 9: comprehensions of two clauses, tuples in order. -/
namespace Wb
open PySem PySem.Spec PyProof.Rows L2
/-! ### t > u, tuples of ints -/
end Wb
set_option Elab.async false
set_option linter.all false
set_option maxRecDepth 100000
set_option maxHeartbeats 4000000
/-! Wb, part 10: the source of draws that is a list of three numbers. -/
namespace Wb
open PySem PySem.Spec PyProof.Rows L2
/-- the draw -/
def mDip : List Ar → T D
  | [.box false, .d (.int m)] => .draw m fun i => .ret (.int i)
  | _ => .bad
abbrev rMod0 : R2 := rI (fun _ j => j ≠ 0) fun i j => .int (i.fmod j)
abbrev rInt1 : List V → Hp → VK → Prop := fun xs H Q => (∃ i, xs = [V.int i] ∧ Q (V.int i) H) ∨ ∃ k, xs = [V.bl k] ∧ Q (V.int (if k = true then 1 else 0)) H
theorem log2_small {m : Int} (h0 : 0 < m) (h : m < 10000000000000000000000000000000000000000) : m.natAbs.log2 < 9000 := by
  have h2 : (2 : Nat) ^ 133 ≤ 2 ^ 9000 := Nat.pow_le_pow_right (by decide) (by decide)
  have h3 : (10000000000000000000000000000000000000000 : Nat) ≤ 2 ^ 133 := by decide +kernel
  exact (Nat.log2_lt (by omega)).mpr (by omega)
theorem fmod_in {i m : Int} (h : 0 < m) : 0 ≤ i.fmod m ∧ i.fmod m < m := ⟨Int.fmod_nonneg_of_pos i h, Int.fmod_lt_of_pos i h⟩
theorem HasAs.two' {β : Box} {H0 : Hp} {vs : List V} {a b : Ar} (h : HasAs β H0 vs [a, b]) : ∃ v w, vs = [v, w] ∧ HasA β H0 v a ∧ HasA β H0 w b := by
  cases h with
  | cons h r =>
    cases r with
    | cons h2 r2 =>
      cases r2
      exact ⟨_, _, rfl, h, h2⟩
end Wb
set_option Elab.async false
set_option linter.all false
set_option maxRecDepth 100000
set_option maxHeartbeats 4000000
/-! Wb, part 11: the list of three numbers, made of the script; the law's own beginning. -/
namespace Wb
open PySem PySem.Spec PyProof.Rows L2
def rAbs1 : List V → Hp → VK → Prop := fun xs H Q => ∃ i, xs = [V.int i] ∧ Q (V.int (if i < 0 then -i else i)) H
end Wb
set_option Elab.async false
set_option linter.all false
set_option maxRecDepth 100000
set_option maxHeartbeats 4000000
/-! Wb, part 12: what a law's text asks for besides. -/
namespace Wb
open PySem PySem.Spec PyProof.Rows L2
abbrev oIsI (n : String) : D → T D := fun d => .ret (.bool (isaD n d))
abbrev Kit (K : PySem.W.Frag) (n : String) : Prop := ∀ m ∈ ["NoneType", "bool", "int", "str", "list", "tuple", "dict"], PySem.W.kitOne K (.type m) (.type n) = some (m == n || (n == "int" && m == "bool"))
def kitAll (n : String) : Bool := ["NoneType", "bool", "int", "str", "list", "tuple", "dict"].all fun m => decide (kitB m n = some (m == n || (n == "int" && m == "bool")))
theorem kit_by {K : PySem.W.Frag} {n : String} (h : kitAll n = true) : Kit K n := fun m hm => kit_ty (of_decide_eq_true (List.all_eq_true.mp h m hm))
theorem kit_int {K : PySem.W.Frag} : Kit K "int" := kit_by (by decide +kernel)
theorem kit_bool {K : PySem.W.Frag} : Kit K "bool" := kit_by (by decide +kernel)
theorem kit_str {K : PySem.W.Frag} : Kit K "str" := kit_by (by decide +kernel)
theorem kit_tuple {K : PySem.W.Frag} : Kit K "tuple" := kit_by (by decide +kernel)
theorem un200 {A : Around} {k : Nat} (h : Room k A) : A.units + 200 < cLine := by
  have := h.un
  omega
/-- {} -/
theorem r_dct0 {X : Cx} {g : Ct} {pos : Pos} : PE X (.Dict [] [] pos) (tE g (eC (.dict []))) := pe_dnewK.imp fun σ H Q ⟨β, H0, ρ, r, q⟩ p hp =>
  q (.ref p) _ _ (r.new (o := .dK []) hp) (.dct upd_same .nil)
theorem look1 {α : Type} {x : Str} {v : α} {l : List (Str × α)} : ((x, v) :: l).lookup x = some v := by simp
theorem look2 {α : Type} {x y : Str} {v u : α} {l : List (Str × α)} (n : (x == y) = false) (k : l.lookup x = some u) : ((y, v) :: l).lookup x = some u := by
  rw [List.lookup_cons, n]
  exact k
/-- which classes an except clause takes, by their names -/
theorem cm_of {K : PySem.W.Frag} {A : Addr} {l : List (Str × Addr × Bool)} (h : ∀ p ∈ l, PySem.W.exmOne K (.ref p.2.1) (.ref A) = some p.2.2) (x : Str) (C : Addr) (b : Bool)
    (h1 : (l.map fun p => (p.1, p.2.1)).lookup x = some C) (h2 : (l.map fun p => (p.1, p.2.2)).lookup x = some b) : PySem.W.exmOne K (.ref C) (.ref A) = some b := by
  induction l with
  | nil => cases h1
  | cons p l ih =>
    rw [List.map_cons, List.lookup_cons] at h1 h2
    cases q : x == p.1 with
    | true =>
      rw [q] at h1 h2
      cases h1
      cases h2
      exact h p (List.mem_cons_self ..)
    | false =>
      rw [q] at h1 h2
      exact ih (fun p' hp => h p' (List.mem_cons_of_mem _ hp)) h1 h2
/-- a class of errors with one field, that is caught -/
structure Caught (K : PySem.W.Frag) (mg : Str → Option Value) (cad : Cad) (c fl : Str) (A : Addr) : Prop where
  gC : mg c = some (.ref A)
  xf : XfC K A
  no : PySem.W.findIn K (.ref A) fl = some none
  cad : cad c = some A
theorem exm_by {K : PySem.W.Frag} {C A : Addr} {b : Bool} (u1 : PySem.W.subIn K (.ref A) (.type "BaseException") = some true) (u2 : PySem.W.isClsIn K A = true) (u3 : PySem.W.typeIn K (.ref A) = some (.type "type")) (u4 : PySem.W.subIn K (.ref C) (.ref A) = some b) :
    PySem.W.exmOne K (.ref C) (.ref A) = some b := by
  unfold PySem.W.exmOne PySem.W.kitCls
  have v2 : (PySem.W.clsIn K A).isSome = true := u2
  simp [u1, u3, u4, v2]
/-- the law's def, from its first statement on -/
theorem FnG.lawT {TB : List (Addr × Str)} {P : Program} {w : World} {K : PySem.W.Frag} {mg : Str → Option Value} {base : Heap} {cad : Cad} {x qual : Str} {st : Stmt} {fa : Addr} {fd : FuncData} {N : List Str} {k : Nat} {F : Env' → T Fl} {rest : List Stmt} {ps : Str} {opn : Str} {p1 p2 p3 p4 p5 : Pos} {spO : Sp} {k0 : Bool}
    (Fu : Fun K x qual st fa fd) (S : FnScope N [ps] (defScope st)) (hb0 : defBody st = .Assign [.Name (N.getD 1 ps) p1] (.Call (.Name opn p2) [.Name ps p3] [] p4) p5 :: rest) (hN : 2 ≤ N.length)
    (hTab : ∀ (β : Box) (v : V), boxIs k0 β v → β.tabs = TB → cad.bx β)
    (hO : ∀ vs H Q E, (∃ (a : Addr) (ns : List Int), vs = [.ref a] ∧ SqL K H a (ns.map V.int) ∧ ns.length ≤ 63 ∧ LamX.Tabs TB H ∧ ∀ (β : Box) v H', boxIs k0 β v → β.tabs = TB → β.ok H' → Q v H') → spO vs H Q E)
    (hfirst : ∀ (cdv : Value) (A : Around) (outer : List Env) (s : Shared) (H : Hp) (E : XK), Room k (A.deeper (envOfC qual (defScope st) s.heap.objs.size fa cdv)) → (A.deeper (envOfC qual (defScope st) s.heap.objs.size fa cdv)).guards = some [] →
      PS (bodyX P w K mg base N qual st fa cdv A outer s H E) (.Assign [.Name (N.getD 1 ps) p1] (.Call (.Name opn p2) [.Name ps p3] [] p4) p5) (tAsg (tCallW spO [] (fun _ _ _ _ => False) (tCons (tVar 0) tNil)) (gName 1)))
    (hbody : ∀ (cdv : Value) (A : Around) (outer : List Env) (s : Shared) (H : Hp) (E : XK), Room k (A.deeper (envOfC qual (defScope st) s.heap.objs.size fa cdv)) → (A.deeper (envOfC qual (defScope st) s.heap.objs.size fa cdv)).guards = some [] →
      PSs (bodyX P w K mg base N qual st fa cdv A outer s H E) rest (tS ⟨cad, none, fun c d _ H' => E c d H', fun _ _ _ => True⟩ F))
    (hF : (F ([Sl.no, .box k0] ++ List.replicate (N.length - 2) .no)).run.wp (fun d => d = .bool true) (fun _ => False)) :
    FnG P w K mg base (k + 1) fa fd [ps] (fun vs H Q _ => ∃ (a : Addr) (ns : List Int), vs = [.ref a] ∧ SqL K H a (ns.map V.int) ∧ ns.length ≤ 63 ∧ LamX.Tabs TB H ∧ ∀ H', Q (.bl true) H') := by
  refine FnG.of Fu S (fun vs H Q E h => ?_) fun cdv A outer s H vs Q E hr hg h => ?_
  · obtain ⟨a, ns, rfl, _⟩ := h
    rfl
  · obtain ⟨a, ns, rfl, hS, hl, tb, q⟩ := h
    rw [hb0]
    refine ⟨_, pss_cons (hfirst cdv A outer s H E hr hg) (hbody cdv A outer s H E hr hg), ?_⟩
    have es : L2.start N [.ref a] = some (.ref a) :: none :: List.replicate (N.length - 2) none := by
      unfold L2.start
      obtain ⟨n, hn⟩ : ∃ n, N.length = n + 2 := ⟨N.length - 2, by omega⟩
      simp [hn, List.replicate_succ]
    rw [es]
    refine ⟨.ref a, rfl, hO _ _ _ _ ⟨a, ns, rfl, hS, hl, tb, fun β v H' hv ht ok => ?_⟩⟩
    refine ⟨β, fun _ => none, H', fun _ => none, fun _ => none, [Sl.no, .box k0] ++ List.replicate (N.length - 2) .no, ⟨⟨(fun _ _ z => nomatch z), ?_, fun i sl o ha hb => ?_, fun i _ xs _ p _ _ ha _ _ _ _ f _ => ?_, ok, fun _ _ => rfl, hTab β v hv ht⟩, Stp.refl (fun _ _ z => nomatch z) ok (fun _ _ => rfl), fun _ _ z => z, trivial, fun i xs p _ ha _ f => ?_⟩, ?_⟩
    · simp
    · match i, ha, hb with
      | 0, ha, hb =>
        cases ha
        trivial
      | 1, ha, hb =>
        cases ha
        cases hb
        exact ⟨v, rfl, hv⟩
      | i + 2, ha, hb =>
        have ha' : (List.replicate (N.length - 2) Sl.no)[i]? = some sl := ha
        rw [List.getElem?_replicate] at ha'
        split at ha'
        · cases ha'
          trivial
        · cases ha'
    · match i, ha with
      | 0, ha =>
        cases ha
        exact f.elim
      | 1, ha =>
        cases ha
        exact f.elim
      | i + 2, ha =>
        have ha' : (List.replicate (N.length - 2) Sl.no)[i]? = some xs := ha
        rw [List.getElem?_replicate] at ha'
        split at ha' <;> cases ha'
        exact f.elim
    · match i, ha with
      | 0, ha =>
        cases ha
        exact f.elim
      | 1, ha =>
        cases ha
        exact f.elim
      | i + 2, ha =>
        have ha' : (List.replicate (N.length - 2) Sl.no)[i]? = some xs := ha
        rw [List.getElem?_replicate] at ha'
        split at ha' <;> cases ha'
        exact f.elim
    · refine T.wp_mono (fun fl z => ?_) (fun x z => z) _ ((T.wp_run _).mp hF)
      cases fl with
      | nx ρ' =>
        have z' : PyData.none = .bool true := z
        cases z'
      | ret d =>
        have z' : d = .bool true := z
        subst z'
        intro v H0' H2 st hv2
        cases hv2
        exact q H2
      | exc y ρ' => exact z.elim
      | brk _ => exact z.elim
      | cnt _ => exact z.elim
theorem FnG.weak {P : Program} {w : World} {K : PySem.W.Frag} {mg : Str → Option Value} {base : Heap} {k : Nat} {fa : Addr} {fd : FuncData} {ps : List Str} {sp sp' : Sp} (h : FnG P w K mg base k fa fd ps sp) (i : ∀ vs H Q E, sp' vs H Q E → sp vs H Q E) : FnG P w K mg base k fa fd ps sp' :=
  ⟨fun vs H Q E z => h.len vs H Q E (i vs H Q E z), fun A outer s H args us vs Q E h1 h2 h3 h4 h5 z => h.go A outer s H args us vs Q E h1 h2 h3 h4 h5 (i vs H Q E z)⟩
/-- the same without tables -/
theorem FnG.law {P : Program} {w : World} {K : PySem.W.Frag} {mg : Str → Option Value} {base : Heap} {cad : Cad} {x qual : Str} {st : Stmt} {fa : Addr} {fd : FuncData} {N : List Str} {k : Nat} {F : Env' → T Fl} {rest : List Stmt} {ps : Str} {opn : Str} {p1 p2 p3 p4 p5 : Pos} {spO : Sp} {k0 : Bool}
    (Fu : Fun K x qual st fa fd) (S : FnScope N [ps] (defScope st)) (hb0 : defBody st = .Assign [.Name (N.getD 1 ps) p1] (.Call (.Name opn p2) [.Name ps p3] [] p4) p5 :: rest) (hN : 2 ≤ N.length)
    (hTab : ∀ (β : Box) (v : V), boxIs k0 β v → β.tabs = [] → cad.bx β)
    (hO : ∀ vs H Q E, (∃ (a : Addr) (ns : List Int), vs = [.ref a] ∧ SqL K H a (ns.map V.int) ∧ ns.length ≤ 63 ∧ LamX.Tabs [] H ∧ ∀ (β : Box) v H', boxIs k0 β v → β.tabs = [] → β.ok H' → Q v H') → spO vs H Q E)
    (hfirst : ∀ (cdv : Value) (A : Around) (outer : List Env) (s : Shared) (H : Hp) (E : XK), Room k (A.deeper (envOfC qual (defScope st) s.heap.objs.size fa cdv)) → (A.deeper (envOfC qual (defScope st) s.heap.objs.size fa cdv)).guards = some [] →
      PS (bodyX P w K mg base N qual st fa cdv A outer s H E) (.Assign [.Name (N.getD 1 ps) p1] (.Call (.Name opn p2) [.Name ps p3] [] p4) p5) (tAsg (tCallW spO [] (fun _ _ _ _ => False) (tCons (tVar 0) tNil)) (gName 1)))
    (hbody : ∀ (cdv : Value) (A : Around) (outer : List Env) (s : Shared) (H : Hp) (E : XK), Room k (A.deeper (envOfC qual (defScope st) s.heap.objs.size fa cdv)) → (A.deeper (envOfC qual (defScope st) s.heap.objs.size fa cdv)).guards = some [] →
      PSs (bodyX P w K mg base N qual st fa cdv A outer s H E) rest (tS ⟨cad, none, fun c d _ H' => E c d H', fun _ _ _ => True⟩ F))
    (hF : (F ([Sl.no, .box k0] ++ List.replicate (N.length - 2) .no)).run.wp (fun d => d = .bool true) (fun _ => False)) :
    FnG P w K mg base (k + 1) fa fd [ps] (fun vs H Q _ => ∃ (a : Addr) (ns : List Int), vs = [.ref a] ∧ SqL K H a (ns.map V.int) ∧ ns.length ≤ 63 ∧ ∀ H', Q (.bl true) H') :=
  (FnG.lawT (TB := []) Fu S hb0 hN hTab hO hfirst hbody hF).weak fun vs H Q E ⟨a, ns, h1, h2, h3, h4⟩ => ⟨a, ns, h1, h2, h3, (fun _ z => nomatch z), h4⟩
end Wb
set_option Elab.async false
set_option linter.all false
set_option maxRecDepth 100000
set_option maxHeartbeats 4000000
/-! Wb, part 13: reckoning with trees and data. -/
namespace Wb
open PySem PySem.Spec PyProof.Rows L2
section
variable {α β : Type} {P Q : α → Prop} {E E' : Exn → Prop}
theorem T.le {t : T α} (h : t.wp P noE) (k : ∀ a, P a → Q a) : t.wp Q E := T.wp_mono k (fun _ z => z.elim) t h
theorem T.thn {P : β → Prop} {t : T α} {f : α → T β} (h : t.wp (fun a => (f a).wp P E) E) : (t.bind f).wp P E := (T.wp_bind _ _).mpr h
theorem T.qt : ∀ {t : T α}, t.wp P noE → t.quiet.wp P E
  | .ret _, h => h
  | .draw _ _, h => ⟨h.1, h.2.1, fun i a b => T.qt (h.2.2 i a b)⟩
  | .exc _, h => h.elim
  | .bad, h => h.elim
end
section
variable {P : Fl → Prop} {ρ : Env'} {F G : Env' → T Fl} {f t : Env' → T D} {it : Env' → T (List D)} {bd : D → Env' → Option Env'} {i : Nat}
/-- what a turn of a loop must end in -/
def turnF (I : Env' → Prop) (P : Fl → Prop) : Fl → Prop
  | .nx ρ => I ρ
  | .cnt ρ => I ρ
  | .brk ρ => P (.nx ρ)
  | .ret d => P (.ret d)
  | .exc x ρ => P (.exc x ρ)
/-- a loop whose turns keep I -/
theorem h_go (I : Env' → Prop) : ∀ (ds : List D) (ρ : Env'), I ρ → (∀ d ∈ ds, ∀ ρ, I ρ → ∃ ρ1, bd d ρ = some ρ1 ∧ (F ρ1).wp (turnF I P) noE) → (∀ ρ, I ρ → P (.nx ρ)) → (forGo bd F ds ρ).wp P noE
  | [], ρ, h0, _, h2 => h2 ρ h0
  | d :: r, ρ, h0, h1, h2 => by
    obtain ⟨ρ1, e, hw⟩ := h1 d (List.mem_cons_self ..) ρ h0
    unfold forGo
    rw [e]
    refine T.thn (T.wp_mono (fun fl z => ?_) (fun _ z => z) _ hw)
    have rest : ∀ ρ', I ρ' → (forGo bd F r ρ').wp P noE := fun ρ' i' => h_go I r ρ' i' (fun d hd => h1 d (List.mem_cons_of_mem _ hd)) h2
    cases fl with
    | nx ρ' => exact rest ρ' z
    | cnt ρ' => exact rest ρ' z
    | brk ρ' => exact z
    | ret d => exact z
    | exc x ρ' => exact z
end
/-! ### comprehensions -/
section
variable {bd : D → Env' → Option Env'} {t e : Env' → T D} {ρ : Env'} {f : D → D} {p : D → Bool}
/-- each item gives something of its own kind -/
inductive Each (R : D → D → Prop) : List D → List D → Prop
  | nil : Each R [] []
  | cons {d y : D} {ds ys : List D} : R d y → Each R ds ys → Each R (d :: ds) (y :: ys)
theorem Each.length {R : D → D → Prop} : ∀ {ds ys : List D}, Each R ds ys → ys.length = ds.length
  | _, _, .nil => rfl
  | _, _, .cons _ r => by simp [Each.length r]
theorem lc_wp {R : D → D → Prop} {P : List D → Prop} {E : Exn → Prop} : ∀ (ds : List D), (∀ d ∈ ds, ∃ ρ1, bd d ρ = some ρ1 ∧ t ρ1 = .ret (.bool true) ∧ (e ρ1).wp (R d) noE) → (∀ ys, Each R ds ys → P ys) → (lcGo bd t e ρ ds).wp P E
  | [], _, h => h [] .nil
  | d :: r, h1, h => by
    obtain ⟨ρ1, e1, e2, hw⟩ := h1 d (List.mem_cons_self ..)
    unfold lcGo
    rw [e1]
    simp only [e2, T.quiet, T.ret_bind]
    refine T.thn (T.qt (T.le (E := noE) hw fun y hy => ?_))
    refine T.thn (lc_wp (P := fun ys => P (y :: ys)) r (fun d hd => h1 d (List.mem_cons_of_mem _ hd)) fun ys k => h _ (.cons hy k))
theorem lc_map : ∀ (ds : List D), (∀ d ∈ ds, ∃ ρ1, bd d ρ = some ρ1 ∧ t ρ1 = .ret (.bool true) ∧ e ρ1 = .ret (f d)) → lcGo bd t e ρ ds = .ret (ds.map f)
  | [], _ => rfl
  | d :: r, h => by
    obtain ⟨ρ1, e1, e2, e3⟩ := h d (List.mem_cons_self ..)
    unfold lcGo
    rw [e1]
    simp only [e2, e3, T.quiet, T.ret_bind]
    rw [lc_map r fun d hd => h d (List.mem_cons_of_mem _ hd)]
    rfl
theorem eLc_ret {vs : List Nat} {it : Env' → T (List D)} {ds ys : List D} (h1 : it ρ = .ret ds) (h2 : ds.length ≤ 1000000) (h3 : lcGo bd t e (wipeE ρ vs) ds = .ret ys) : eLc vs it bd t e ρ = .ret (.list ys) := by
  unfold eLc
  rw [h1]
  simp only [T.ret_bind, h2, if_true, h3]
theorem eLc_wp {vs : List Nat} {it : Env' → T (List D)} {ds : List D} {P : D → Prop} {E : Exn → Prop} (h1 : it ρ = .ret ds) (h2 : ds.length ≤ 1000000) (h3 : (lcGo bd t e (wipeE ρ vs) ds).wp (fun ys => P (.list ys)) E) : (eLc vs it bd t e ρ).wp P E := by
  unfold eLc
  rw [h1]
  simp only [T.ret_bind, h2, if_true]
  exact T.thn h3
end
/-! ### repr -/
def tid (d : D) : Bool := d.leavesShort 60 && d.showable
theorem okRep_of {d : D} (h : tid d = true) (hb : d.bulk ≤ 100000) (hd : d.depth ≤ 60) : okRep d = true := by
  unfold tid at h
  rw [Bool.and_eq_true] at h
  have e := PyData.shown_le_bulk 60 (by decide) d h.1
  unfold okRep
  rw [Bool.and_eq_true, Bool.and_eq_true]
  refine ⟨⟨h.2, decide_eq_true (by omega)⟩, decide_eq_true (by omega)⟩
theorem tid_int {i : Int} (h : i.natAbs < 10 ^ 50) : tid (.int i) = true := by
  unfold tid
  rw [Bool.and_eq_true]
  constructor
  · have e := int_text_length_le10 (a := i) (k := 50) (by decide) h
    unfold PyData.leavesShort
    refine decide_eq_true ?_
    show (Str.ofString (toString i)).length ≤ 60
    rw [PySem.ofString_length]
    omega
  · unfold PyData.showable
    refine decide_eq_true ?_
    by_cases h0 : i.natAbs = 0
    · rw [h0]
      decide
    · refine (Nat.log2_lt h0).mpr (Nat.lt_of_lt_of_le h ?_)
      decide +kernel
theorem tid_list {xs : List D} : tid (.list xs) = xs.all tid := by
  induction xs with
  | nil => rfl
  | cons x r ih =>
    unfold tid at ih ⊢
    simp only [PyData.leavesShort, PyData.leavesShortAll, PyData.showable, PyData.showableAll, List.all_cons] at ih ⊢
    rw [← ih]
    cases x.leavesShort 60 <;> cases x.showable <;> simp
theorem tid_tuple {xs : List D} : tid (.tuple xs) = xs.all tid := by
  rw [← tid_list]
  rfl
end Wb
set_option Elab.async false
set_option linter.all false
set_option maxRecDepth 100000
set_option maxHeartbeats 4000000
/-! Wb, part 14: reckoned out by simp. -/
namespace Wb
open PySem PySem.Spec PyProof.Rows L2
section
variable {α β : Type} {ρ : Env'} {f h k : Env' → T D} {fs : Env' → T (List Ar)} {F G : Env' → T Fl} {x y : D} {i n : Nat} {P : α → Prop} {E : Exn → Prop}
@[simp] theorem T.wp_ret' (a : α) : (T.ret a).wp P E ↔ P a := Iff.rfl
@[simp] theorem T.wp_bad' : (T.bad : T α).wp P E ↔ False := Iff.rfl
@[simp] theorem T.wp_bind'' {P : β → Prop} (t : T α) (g : α → T β) : (t.bind g).wp P E ↔ t.wp (fun a => (g a).wp P E) E := T.wp_bind t g
@[simp] theorem T.wp_lift'' {P : Fl → Prop} (t : T α) (g : α → T Fl) : (t.lift ρ g).wp P E ↔ t.wp (fun a => (g a).wp P E) (fun x => P (.exc x ρ)) := T.wp_lift t
@[simp] theorem T.wp_run'' {P : D → Prop} (t : T Fl) : t.run.wp P E ↔ t.wp (fun fl => (endF fl).wp P E) noE := T.wp_run t
@[simp] theorem ev_C : eC x ρ = .ret x := rfl
@[simp] theorem ev_V0 {r : Env'} : eV 0 (.d x :: r) = .ret x := rfl
@[simp] theorem ev_VS {s : Sl} {r : Env'} : eV (i + 1) (s :: r) = eV i r := rfl
@[simp] theorem ev_un {o : D → T D} : eUn o f ρ = (f ρ).bind o := rfl
@[simp] theorem ev_bin {o : D → D → T D} : eBin o f h ρ = (f ρ).bind fun x => (h ρ).bind fun y => o x y := rfl
def chB (t : T D) : D → T D
  | .bool true => t
  | .bool false => .ret (.bool false)
  | _ => .bad
def orB (t : T D) : D → T D
  | .bool false => t
  | .bool true => .ret (.bool true)
  | _ => .bad
def ifB (t u : T D) : D → T D
  | .bool true => t
  | .bool false => u
  | _ => .bad
@[simp] theorem chB_t {t : T D} : chB t (.bool true) = t := rfl
@[simp] theorem chB_f {t : T D} : chB t (.bool false) = .ret (.bool false) := rfl
@[simp] theorem chB_b {b c : Bool} : chB (.ret (.bool c)) (.bool b) = .ret (.bool (b && c)) := by cases b <;> rfl
@[simp] theorem orB_f {t : T D} : orB t (.bool false) = t := rfl
@[simp] theorem orB_t {t : T D} : orB t (.bool true) = .ret (.bool true) := rfl
@[simp] theorem orB_b {b c : Bool} : orB (.ret (.bool c)) (.bool b) = .ret (.bool (b || c)) := by cases b <;> rfl
@[simp] theorem ifB_t {t u : T D} : ifB t u (.bool true) = t := rfl
@[simp] theorem ifB_f {t u : T D} : ifB t u (.bool false) = u := rfl
@[simp] theorem ev_ch {o o' : D → D → T D} : eCh o o' f h k ρ = (f ρ).bind fun x => (h ρ).bind fun y => (o x y).bind (chB ((k ρ).bind fun w => o' y w)) := rfl
@[simp] theorem ev_and : eAnd f h ρ = (f ρ).bind (chB (h ρ)) := rfl
@[simp] theorem ev_or : eOr f h ρ = (f ρ).bind (orB (h ρ)) := rfl
@[simp] theorem ev_if : eIf k f h ρ = (k ρ).bind (ifB (f ρ) (h ρ)) := rfl
@[simp] theorem ev_nil : aNil ρ = .ret [] := rfl
@[simp] theorem ev_cons : aCons f fs ρ = (f ρ).bind fun d => (fs ρ).bind fun r => .ret (.d d :: r) := rfl
@[simp] theorem ev_box0 {kk : Bool} {r : Env'} : aBox 0 fs (.box kk :: r) = (fs (.box kk :: r)).bind fun s => .ret (.box kk :: s) := rfl
@[simp] theorem ev_box1 {kk : Bool} {s : Sl} {r : Env'} : aBox 1 fs (s :: .box kk :: r) = (fs (s :: .box kk :: r)).bind fun q => .ret (.box kk :: q) := rfl
@[simp] theorem ev_cb {o : List Ar → T D} : eCb o fs ρ = (fs ρ).bind o := rfl
@[simp] theorem ev_call {m : List Ar → T D} : eCall n m fs ρ = (fs ρ).bind fun as => if as.length = n then m as else .bad := rfl
def mkTup : Option (List D) → T D
  | some ds => if ds.length ≤ 1000000 then .ret (.tuple ds) else .bad
  | none => .bad
def mkLst : Option (List D) → T D
  | some ds => if ds.length ≤ 1000000 then .ret (.list ds) else .bad
  | none => .bad
@[simp] theorem mkTup_s {ds : List D} : mkTup (some ds) = if ds.length ≤ 1000000 then .ret (.tuple ds) else .bad := rfl
@[simp] theorem mkLst_s {ds : List D} : mkLst (some ds) = if ds.length ≤ 1000000 then .ret (.list ds) else .bad := rfl
@[simp] theorem ev_tup : eTup fs ρ = (fs ρ).bind fun as => mkTup (dsOf as) := rfl
@[simp] theorem ev_lst : eLst fs ρ = (fs ρ).bind fun as => mkLst (dsOf as) := rfl
@[simp] theorem dsOf_n : dsOf [] = some [] := rfl
@[simp] theorem dsOf_c {r : List Ar} : dsOf (.d x :: r) = (dsOf r).map (x :: ·) := rfl
@[simp] theorem ev_o1 {o : D → T D} : o1 o [.d x] = o x := rfl
@[simp] theorem ev_o2 {o : D → D → T D} : o2 o [.d x, .d y] = o x y := rfl
@[simp] theorem ev_pn : pNone ρ = .ret none := rfl
def toI : D → T (Option Int)
  | .int i => .ret (some i)
  | _ => .bad
@[simp] theorem toI_i {z : Int} : toI (.int z) = .ret (some z) := rfl
@[simp] theorem ev_ps : pSome f ρ = (f ρ).bind toI := rfl
@[simp] theorem ev_sl {l u : Env' → T (Option Int)} : eSl f l u ρ = (f ρ).bind fun x => (l ρ).bind fun lo => (u ρ).bind fun hi => oSl x lo hi := rfl
def itemsD : D → T (List D)
  | .list ds => .ret ds
  | .tuple ds => .ret ds
  | _ => .bad
@[simp] theorem itemsD_l {ds : List D} : itemsD (.list ds) = .ret ds := rfl
@[simp] theorem itemsD_t {ds : List D} : itemsD (.tuple ds) = .ret ds := rfl
@[simp] theorem ev_seq : iSeq f ρ = (f ρ).bind itemsD := rfl
@[simp] theorem ev_arg {o : List Ar → T (List D)} : iArg o fs ρ = (fs ρ).bind o := rfl
@[simp] theorem ev_lenL {xs : List D} : oLen [.d (.list xs)] = .ret (.int xs.length) := rfl
@[simp] theorem ev_lenT {xs : List D} : oLen [.d (.tuple xs)] = .ret (.int xs.length) := rfl
@[simp] theorem ev_start {as : List Ar} : startE n as = as.map arSl ++ List.replicate (n - as.length) .no := rfl
@[simp] theorem ev_arD : arSl (.d x) = .d x := rfl
@[simp] theorem ev_arB {b : Bool} : arSl (.box b) = .box b := rfl
@[simp] theorem ev_mk {as : List Ar} : mkDef n F as = (F (startE n as)).run := rfl
@[simp] theorem ev_Seq : sSeq F G ρ = (F ρ).bind (thenS G) := rfl
@[simp] theorem ev_Set : sSet i f ρ = (f ρ).lift ρ fun d => .ret (.nx (ρ.set i (.d d))) := rfl
@[simp] theorem ev_Ret : sRet f ρ = (f ρ).lift ρ fun d => .ret (.ret d) := rfl
@[simp] theorem ev_Nil : sNil ρ = .ret (.nx ρ) := rfl
@[simp] theorem ev_If : sIf k F G ρ = (k ρ).lift ρ (onB (F ρ) (G ρ)) := rfl
@[simp] theorem onB_t {t u : T Fl} : onB t u (.bool true) = t := rfl
@[simp] theorem onB_f {t u : T Fl} : onB t u (.bool false) = u := rfl
@[simp] theorem th_nx : thenS G (.nx ρ) = G ρ := rfl
@[simp] theorem th_ret : thenS G (.ret x) = .ret (.ret x) := rfl
@[simp] theorem th_brk : thenS G (.brk ρ) = .ret (.brk ρ) := rfl
@[simp] theorem th_cnt : thenS G (.cnt ρ) = .ret (.cnt ρ) := rfl
@[simp] theorem th_exc {e : Exn} : thenS G (.exc e ρ) = .ret (.exc e ρ) := rfl
@[simp] theorem en_nx : endF (.nx ρ) = .ret .none := rfl
@[simp] theorem en_ret : endF (.ret x) = .ret x := rfl
@[simp] theorem en_exc {e : Exn} : endF (.exc e ρ) = .exc e := rfl
@[simp] theorem ev_For {it : Env' → T (List D)} {bd : D → Env' → Option Env'} : sFor it bd F ρ = (it ρ).lift ρ fun ds => forGo bd F ds ρ := rfl
def twoN (i j : Nat) (ρ : Env') : List Ar → T Fl
  | [.d x, .d y] => .ret (.nx ((ρ.set i (.d x)).set j (.d y)))
  | _ => .bad
@[simp] theorem twoN_2 {j : Nat} : twoN i j ρ [.d x, .d y] = .ret (.nx ((ρ.set i (.d x)).set j (.d y))) := rfl
@[simp] theorem ev_Par {j : Nat} : sPar i j fs ρ = (fs ρ).lift ρ (twoN i j ρ) := rfl
@[simp] theorem ev_Raise {c fl : Str} : sRaise1 c fl f ρ = (f ρ).lift ρ fun d => .ret (.exc ⟨c, [(fl, d)]⟩ ρ) := rfl
@[simp] theorem ev_bName : bName i x ρ = some (ρ.set i (.d x)) := rfl
@[simp] theorem ev_wn : wipeE ρ [] = ρ := rfl
@[simp] theorem ev_wc {v : Nat} {vs : List Nat} : wipeE ρ (v :: vs) = (wipeE ρ vs).set v .no := rfl
@[simp] theorem ev_bT {is : List Nat} {ds : List D} : bTup is (.tuple ds) ρ = bNames is ds ρ := rfl
@[simp] theorem ev_bn0 : bNames [] [] ρ = some ρ := rfl
@[simp] theorem ev_bnS {is : List Nat} {ds : List D} : bNames (i :: is) (x :: ds) ρ = bNames is ds (ρ.set i (.d x)) := rfl
@[simp] theorem ev_zipT {xs ys : List D} : oZip [.d (.tuple xs), .d (.tuple ys)] = .ret ((xs.zip ys).map fun p => .tuple [p.1, p.2]) := rfl
@[simp] theorem ev_zipL {xs ys : List D} : oZip [.d (.list xs), .d (.list ys)] = .ret ((xs.zip ys).map fun p => .tuple [p.1, p.2]) := rfl
theorem mul_ints' {a b : Int} (h : b.natAbs < 18446744073709551616) : oMul (.int a) (.int b) = .ret (.int (a * b)) := by
  show (if cMul a b = true then T.ret (PyData.int (a * b)) else .bad) = _
  unfold cMul
  simp [h]
@[simp] theorem wp_draw' {m : Int} {g : Int → T α} : (T.draw m g).wp P E ↔ 0 < m ∧ m < 10000000000000000000000000000000000000000 ∧ ∀ i, 0 ≤ i → i < m → (g i).wp P E := Iff.rfl
@[simp] theorem ev_dip {m : Int} : mDip [.box false, .d (.int m)] = .draw m fun i => .ret (.int i) := rfl
theorem ix_at {xs : List D} {j : Nat} {d : D} (h : xs[j]? = some d) : oIx (.list xs) (.int (j : Nat)) = .ret d := by
  show (match atI xs (j : Nat) with
    | some d => T.ret d
    | none => .bad) = _
  rw [atI_nat h]
theorem ixT_at {xs : List D} {j : Nat} {d : D} (h : xs[j]? = some d) : oIx (.tuple xs) (.int (j : Nat)) = .ret d := by
  show (match atI xs (j : Nat) with
    | some d => T.ret d
    | none => .bad) = _
  rw [atI_nat h]
/-- an item that is drawn -/
theorem drawn_item {xs : List D} {P : D → Prop} {i : Int} (h : ∀ x ∈ xs, P x) (h0 : 0 ≤ i) (h1 : i < xs.length) : (oIx (.list xs) (.int i)).wp P E := by
  obtain ⟨j, rfl⟩ : ∃ j : Nat, i = j := ⟨i.toNat, by omega⟩
  have hj : j < xs.length := by omega
  rw [ix_at (List.getElem?_eq_getElem hj)]
  exact h _ (List.getElem_mem hj)
@[simp] theorem ev_slT {xs : List D} {lo hi : Option Int} : oSl (.tuple xs) lo hi = .ret (.tuple (cutD xs lo hi)) := rfl
@[simp] theorem ev_slL {xs : List D} {lo hi : Option Int} : oSl (.list xs) lo hi = .ret (.list (cutD xs lo hi)) := rfl
@[simp] theorem ev_true : tTrue ρ = .ret (.bool true) := rfl
def tryB (i : Nat) (cm : Str → Option Bool) (G : Env' → T Fl) : Fl → T Fl
  | .exc x ρ' => match cm x.cls with
    | some true => (G (ρ'.set i (.ex x))).bind (afterX i)
    | some false => .ret (.exc x ρ')
    | none => .bad
  | .nx ρ' => .ret (.nx ρ')
  | .ret d => .ret (.ret d)
  | .brk ρ' => .ret (.brk ρ')
  | .cnt ρ' => .ret (.cnt ρ')
@[simp] theorem ev_Try {cm : Str → Option Bool} : sTry i cm F G ρ = (F ρ).bind (tryB i cm G) := rfl
@[simp] theorem ty_nx {cm : Str → Option Bool} : tryB i cm G (.nx ρ) = .ret (.nx ρ) := rfl
@[simp] theorem ty_ret {cm : Str → Option Bool} : tryB i cm G (.ret x) = .ret (.ret x) := rfl
theorem ty_exc {cm : Str → Option Bool} {e : Exn} (h : cm e.cls = some true) : tryB i cm G (.exc e ρ) = (G (ρ.set i (.ex e))).bind (afterX i) := by
  show (match cm e.cls with
    | some true => (G (ρ.set i (.ex e))).bind (afterX i)
    | some false => .ret (.exc e ρ)
    | none => .bad) = _
  rw [h]
@[simp] theorem ax_nx : afterX i (.nx ρ) = .ret (.nx (clrE (ρ.set i .no))) := rfl
@[simp] theorem ax_ret : afterX i (.ret x) = .ret (.ret x) := rfl
@[simp] theorem cl_n : clrE [] = [] := rfl
@[simp] theorem cl_c {s : Sl} {r : Env'} : clrE (s :: r) = clrS s :: clrE r := rfl
@[simp] theorem cs_d : clrS (.d x) = .d x := rfl
@[simp] theorem cs_n : clrS .no = .no := rfl
@[simp] theorem cs_b {b : Bool} : clrS (.box b) = .box b := rfl
@[simp] theorem cs_o {xs : List D} : clrS (.own xs) = .own xs := rfl
@[simp] theorem fl_S {c fl : Str} {s : Sl} {r : Env'} : eFld (i + 1) c fl (s :: r) = eFld i c fl r := rfl
@[simp] theorem fl_0 {c fl : Str} {r : Env'} : eFld 0 c fl (.ex ⟨c, [(fl, x)]⟩ :: r) = .ret x := by
  unfold eFld
  simp
def againW (t : Env' → T D) (F : Env' → T Fl) (n : Nat) : Fl → T Fl
  | .nx ρ' => whGo t F n ρ'
  | .cnt ρ' => whGo t F n ρ'
  | .brk ρ' => .ret (.nx ρ')
  | .ret d => .ret (.ret d)
  | .exc x ρ' => .ret (.exc x ρ')
@[simp] theorem ag_nx : againW k F n (.nx ρ) = whGo k F n ρ := rfl
@[simp] theorem ag_cnt : againW k F n (.cnt ρ) = whGo k F n ρ := rfl
@[simp] theorem ag_brk : againW k F n (.brk ρ) = .ret (.nx ρ) := rfl
@[simp] theorem ag_ret : againW k F n (.ret x) = .ret (.ret x) := rfl
@[simp] theorem ag_exc {e : Exn} : againW k F n (.exc e ρ) = .ret (.exc e ρ) := rfl
@[simp] theorem ev_While : sWhile n k F ρ = whGo k F n ρ := rfl
theorem eq_ints (a b : Int) : oEq (.int a) (.int b) = .ret (.bool (decide (a = b))) := by
  have e : oEq (.int a) (.int b) = .ret (.bool (a == b)) := rfl
  rw [e]
  congr 2
theorem ne_ints (a b : Int) : oNe (.int a) (.int b) = .ret (.bool (!decide (a = b))) := by
  have e : oNe (.int a) (.int b) = .ret (.bool (!(a == b))) := rfl
  rw [e]
  congr 3
@[simp] theorem ev_not {b : Bool} : oNot (.bool b) = .ret (.bool (!b)) := rfl
@[simp] theorem ev_neg {z : Int} : oNeg (.int z) = .ret (.int (-z)) := rfl
@[simp] theorem ev_abs {z : Int} : oAbs (.int z) = .ret (.int (if z < 0 then -z else z)) := rfl
@[simp] theorem ev_int {z : Int} : oInt (.int z) = .ret (.int z) := rfl
@[simp] theorem ev_intb {b : Bool} : oInt (.bool b) = .ret (.int (if b = true then 1 else 0)) := rfl
@[simp] theorem ev_toL {xs : List D} : oTupleOf (.list xs) = .ret (.tuple xs) := rfl
@[simp] theorem ev_toT {xs : List D} : oTupleOf (.tuple xs) = .ret (.tuple xs) := rfl
@[simp] theorem ev_loL {xs : List D} : oListOf (.list xs) = .ret (.list xs) := rfl
@[simp] theorem ev_loT {xs : List D} : oListOf (.tuple xs) = .ret (.list xs) := rfl
@[simp] theorem ev_i2 {C : Int → Int → Bool} {hh : Int → Int → D} {a b : Int} : oInt2 C hh (.int a) (.int b) = if C a b = true then .ret (hh a b) else .bad := rfl
@[simp] theorem ev_add {a b : Int} : oAdd (.int a) (.int b) = .ret (.int (a + b)) := rfl
@[simp] theorem ev_addT {xs ys : List D} : oAdd (.tuple xs) (.tuple ys) = if xs.length + ys.length ≤ 1000000 then .ret (.tuple (xs ++ ys)) else .bad := rfl
@[simp] theorem ev_addL {xs ys : List D} : oAdd (.list xs) (.list ys) = if xs.length + ys.length ≤ 1000000 then .ret (.list (xs ++ ys)) else .bad := rfl
@[simp] theorem isa_int_int {z : Int} : isaD "int" (.int z) = true := rfl
@[simp] theorem isa_bool_int {z : Int} : isaD "bool" (.int z) = false := rfl
@[simp] theorem isa_tup_tup {xs : List D} : isaD "tuple" (.tuple xs) = true := rfl
end
end Wb
set_option Elab.async false
set_option linter.all false
set_option maxRecDepth 100000
set_option maxHeartbeats 4000000
/-! Wb, part 15: data of a bounded depth and bulk. -/
namespace Wb
open PySem PySem.Spec PyProof.Rows L2
/-- data without dicts, to be shown and compared, of depth k and bulk b at most -/
structure Fine (k b : Nat) (d : D) : Prop where
  tid : tid d = true
  nod : d.hasDict = false
  lay : d.canLay0 = true
  dep : d.depth ≤ k
  blk : d.bulk ≤ b
theorem Fine.mono {k b k' b' : Nat} {d : D} (h : Fine k b d) (hk : k ≤ k') (hb : b ≤ b') : Fine k' b' d := ⟨h.tid, h.nod, h.lay, Nat.le_trans h.dep hk, Nat.le_trans h.blk hb⟩
theorem fine_int {i : Int} (h : i.natAbs < 10 ^ 50) : Fine 0 0 (.int i) := ⟨tid_int h, rfl, rfl, Nat.le_refl _, Nat.le_refl _⟩
theorem fine_none : Fine 0 0 .none := ⟨rfl, rfl, rfl, Nat.le_refl _, Nat.le_refl _⟩
theorem fine_all {k b : Nat} : ∀ {xs : List D}, (∀ x ∈ xs, Fine k b x) → xs.all tid = true ∧ PyData.hasDictAll xs = false ∧ PyData.canLayAll0 xs = true ∧ PyData.depthAll xs ≤ k ∧ PyData.bulkAll xs ≤ (b + 1) * xs.length
  | [], _ => by simp [PyData.hasDictAll, PyData.canLayAll0, PyData.depthAll, PyData.bulkAll]
  | x :: r, h => by
    have hx := h x (List.mem_cons_self ..)
    obtain ⟨r1, r2, r3, r4, r5⟩ := fine_all fun y hy => h y (List.mem_cons_of_mem _ hy)
    have e : (b + 1) * (r.length + 1) = (b + 1) * r.length + (b + 1) := by rw [Nat.mul_add, Nat.mul_one]
    have h5 := hx.blk
    have h4 := hx.dep
    simp only [List.all_cons, PyData.hasDictAll, PyData.canLayAll0, PyData.depthAll, PyData.bulkAll, hx.tid, hx.nod, hx.lay, r1, r2, r3, List.length_cons]
    refine ⟨rfl, rfl, rfl, ?_, ?_⟩ <;> omega
theorem fine_list {k b n : Nat} {xs : List D} (h : ∀ x ∈ xs, Fine k b x) (hn : xs.length ≤ n) : Fine (k + 1) ((b + 1) * n) (.list xs) := by
  obtain ⟨r1, r2, r3, r4, r5⟩ := fine_all h
  have := Nat.mul_le_mul_left (b + 1) hn
  refine ⟨by rw [tid_list]; exact r1, by simp only [PyData.hasDict]; exact r2, by simp only [PyData.canLay0]; exact r3, by simp only [PyData.depth]; omega, by simp only [PyData.bulk]; omega⟩
theorem Fine.eq {k b : Nat} {d : D} (h : Fine k b d) (hk : k ≤ 64) : cEq d = true := by
  unfold cEq SeqAt.shaped
  rw [h.nod, h.lay]
  simp only [Bool.not_false, Bool.true_and]
  exact decide_eq_true (Nat.le_trans h.dep hk)
theorem Fine.rep {k b : Nat} {d : D} (h : Fine k b d) (hk : k ≤ 60) (hb : b ≤ 100000) : okRep d = true := okRep_of h.tid (Nat.le_trans h.blk hb) (Nat.le_trans h.dep hk)
theorem ne_str {x y : Str} : oNe (.str x) (.str y) = .ret (.bool (!(x == y))) := rfl
theorem eq_str {x y : Str} : oEq (.str x) (.str y) = .ret (.bool (x == y)) := rfl
end Wb
set_option Elab.async false
set_option linter.all false
set_option maxRecDepth 100000
set_option maxHeartbeats 4000000
/-! Wb, part 16: x in a list. -/
namespace Wb
open PySem PySem.Spec PyProof.Rows L2
theorem un65 {A : Around} {k : Nat} (h : Room k A) : A.units + 65 < cLine := by
  have := h.un
  omega
def oIn (x y : D) : T D := match y with
  | .list ds => if (cEq x && cEq (.list ds)) = true then .ret (.bool (ds.any fun z => PyData.eqv z x)) else .bad
  | _ => .bad
def oNotIn (x y : D) : T D := match y with
  | .list ds => if (cEq x && cEq (.list ds)) = true then .ret (.bool (!ds.any fun z => PyData.eqv z x)) else .bad
  | _ => .bad
theorem d_in {K : PySem.W.Frag} : OpD (rInD K) oIn := by
  intro β H0 H v w x y Q E e ok bf hv hw q
  cases y with
  | list ds =>
    have q : (if (cEq x && cEq (.list ds)) = true then T.ret (PyData.bool (ds.any fun z => PyData.eqv z x)) else .bad).wp (Out β H0 H Q) E := q
    split at q
    · next c =>
      rw [Bool.and_eq_true] at c
      obtain ⟨a1, a2⟩ := cEq_of c.1
      obtain ⟨b1, b2⟩ := cEq_of c.2
      exact ⟨x, ds, hv.dp e a1, hw.dp e b1, a2, b2, out_ret e ok bf (.bl _) q⟩
    · exact q.elim
  | _ => exact q.elim
theorem d_notIn {K : PySem.W.Frag} : OpD (rNotInD K) oNotIn := by
  intro β H0 H v w x y Q E e ok bf hv hw q
  cases y with
  | list ds =>
    have q : (if (cEq x && cEq (.list ds)) = true then T.ret (PyData.bool (!ds.any fun z => PyData.eqv z x)) else .bad).wp (Out β H0 H Q) E := q
    split at q
    · next c =>
      rw [Bool.and_eq_true] at c
      obtain ⟨a1, a2⟩ := cEq_of c.1
      obtain ⟨b1, b2⟩ := cEq_of c.2
      exact ⟨x, ds, hv.dp e a1, hw.dp e b1, a2, b2, out_ret e ok bf (.bl _) q⟩
    · exact q.elim
  | _ => exact q.elim
end Wb
set_option Elab.async false
set_option linter.all false
set_option maxRecDepth 100000
set_option maxHeartbeats 4000000
/-! Wb, part 17: the source of draws that is a dict of two lists and a number. -/
namespace Wb
open PySem PySem.Spec PyProof.Rows L2
/-- the draw -/
def mDraw : List Ar → T D
  | [.box true, .d (.int m)] => .draw m fun i => .ret (.int i)
  | _ => .bad
@[simp] theorem ev_draw {m : Int} : mDraw [.box true, .d (.int m)] = .draw m fun i => .ret (.int i) := rfl
abbrev rAdd0 : R2 := rI0 fun i j => .int (i + j)
abbrev rMulC : R2 := rI CMul fun i j => .int (i * j)
abbrev dGt (n : Str) : TE := tDGet (tVar 0) (tC (.str n))
abbrev tI1 (b : Bool) (t : TE) : TE := if b then tCB rInt1 (tCons t tNil) else t
abbrev lastG (K : PySem.W.Frag) : TE := tOp (rIxL K) (tVar 2) (tUn (rU fun i => .int (-i)) (tC (.int 1)))
abbrev kGreat : Key := .inr "great"
abbrev kSmall : Key := .inr "small"
abbrev kTurn : Key := .inr "turn"
/-- the state of the source -/
structure DictAt (b gr sm : Addr) (gs ss : List Int) (t : Int) (H : Hp) : Prop where
  hb : H b = some (.dK [(kGreat, .ref gr), (kSmall, .ref sm), (kTurn, .int t)])
  hg : H gr = some (.lst (gs.map V.int))
  hs : H sm = some (.lst (ss.map V.int))
  g0 : ∀ x ∈ gs, 0 ≤ x
  s0 : ∀ x ∈ ss, 0 ≤ x ∧ x < 1000000000000000000
  ne : ss ≠ []
  t0 : 0 ≤ t
  gl : gs.length ≤ 64
  sl : ss.length ≤ 64
  apart : gr ≠ sm
theorem DictAt.ok {b gr sm : Addr} {gs ss : List Int} {t : Int} {H : Hp} (h : DictAt b gr sm gs ss t H) : dictOk b gr sm H := ⟨gs, ss, t, h.hb, h.hg, h.hs, h.g0, h.s0, h.ne, h.t0, h.gl, h.sl, h.apart⟩
theorem DictAt.of {b gr sm : Addr} {H : Hp} (h : dictOk b gr sm H) : ∃ gs ss t, DictAt b gr sm gs ss t H := by
  obtain ⟨gs, ss, t, h1, h2, h3, h4, h5, h6, h7, h8, h9, h10⟩ := h
  exact ⟨gs, ss, t, h1, h2, h3, h4, h5, h6, h7, h8, h9, h10⟩
section
variable {b gr sm : Addr} {gs ss : List Int} {t : Int} {H : Hp}
theorem DictAt.bg (h : DictAt b gr sm gs ss t H) : b ≠ gr := fun e => by
  have := h.hb
  rw [e, h.hg] at this
  cases this
theorem DictAt.bs (h : DictAt b gr sm gs ss t H) : b ≠ sm := fun e => by
  have := h.hb
  rw [e, h.hs] at this
  cases this
theorem DictAt.great (h : DictAt b gr sm gs ss t H) : DGet H b (.str "great") (some (.ref gr)) := DGet.k (k := kGreat) h.hb
theorem DictAt.small (h : DictAt b gr sm gs ss t H) : DGet H b (.str "small") (some (.ref sm)) := DGet.k (k := kSmall) h.hb
theorem DictAt.turn (h : DictAt b gr sm gs ss t H) : DGet H b (.str "turn") (some (.int t)) := DGet.k (k := kTurn) h.hb
/-- the list of the great ones is changed -/
theorem DictAt.setG {gs' : List Int} (h : DictAt b gr sm gs ss t H) (h0 : ∀ x ∈ gs', 0 ≤ x) (hl : gs'.length ≤ 64) : DictAt b gr sm gs' ss t (upd H gr (.lst (gs'.map V.int))) := by
  refine ⟨?_, upd_same, ?_, h0, h.s0, h.ne, h.t0, hl, h.sl, h.apart⟩
  · rw [upd_ne h.bg]
    exact h.hb
  · rw [upd_ne (Ne.symm h.apart)]
    exact h.hs
/-- the number of turns is changed -/
theorem DictAt.setT {t' : Int} (h : DictAt b gr sm gs ss t H) (h0 : 0 ≤ t') : DictAt b gr sm gs ss t' (upd H b (.dK [(kGreat, .ref gr), (kSmall, .ref sm), (kTurn, .int t')])) := by
  refine ⟨upd_same, ?_, ?_, h.g0, h.s0, h.ne, h0, h.gl, h.sl, h.apart⟩
  · rw [upd_ne (Ne.symm h.bg)]
    exact h.hg
  · rw [upd_ne (Ne.symm h.bs)]
    exact h.hs
theorem DictAt.put {t' : Int} (h : DictAt b gr sm gs ss t H) : DPut H b (.str "turn") (.int t') (upd H b (.dK [(kGreat, .ref gr), (kSmall, .ref sm), (kTurn, .int t')])) := DPut.k (k := kTurn) h.hb (lim_line (n := 4) (by decide))
/-- new objects elsewhere -/
theorem DictAt.away {H' : Hp} (h : DictAt b gr sm gs ss t H) (k : ∀ a, H a ≠ none → H' a = H a) : DictAt b gr sm gs ss t H' := by
  refine ⟨?_, ?_, ?_, h.g0, h.s0, h.ne, h.t0, h.gl, h.sl, h.apart⟩
  · rw [k b (by rw [h.hb]; exact fun z => nomatch z)]
    exact h.hb
  · rw [k gr (by rw [h.hg]; exact fun z => nomatch z)]
    exact h.hg
  · rw [k sm (by rw [h.hs]; exact fun z => nomatch z)]
    exact h.hs
end
/-- the source alone is changed -/
theorem Stp.dict {b gr sm : Addr} {T : List (Addr × Str)} {H0 H H' : Hp} (e : Same H0 H) (o0 : (tabBox (dictBox b gr sm) T).ok H) (bf : ∀ a, (tabBox (dictBox b gr sm) T).S a → H0 a = none) (k : ∀ a, a ≠ b → a ≠ gr → a ≠ sm → H a ≠ none → H' a = H a) (ok : dictOk b gr sm H') : Stp (tabBox (dictBox b gr sm) T) H0 H H0 H' := by
  obtain ⟨⟨gs, ss, t, h1, h2, h3, _⟩, tb⟩ := o0
  have kt : ∀ a o, H a = some o → (∀ xs, o ≠ .lst xs) → (∀ xs, o ≠ .dK xs) → H' a = some o := fun a o h n1 n2 => by
    rw [k a (fun z => by rw [z, h1] at h; exact n2 _ (Option.some.inj h).symm) (fun z => by rw [z, h2] at h; exact n1 _ (Option.some.inj h).symm) (fun z => by rw [z, h3] at h; exact n1 _ (Option.some.inj h).symm) (by rw [h]; exact fun z => nomatch z)]
    exact h
  refine ⟨fun _ _ h => h, fun a o h => ?_, ⟨ok, fun q hq => ?_⟩, bf, fun q o h n => ⟨n, fun ns => ?_⟩⟩
  · have n1 : a ≠ b := fun z => by
      rw [bf a (.inl (.inl z))] at h
      cases h
    have n2 : a ≠ gr := fun z => by
      rw [bf a (.inl (.inr (.inl z)))] at h
      cases h
    have n3 : a ≠ sm := fun z => by
      rw [bf a (.inl (.inr (.inr z)))] at h
      cases h
    have h' := e a o h
    rw [k a n1 n2 n3 (by rw [h']; exact fun z => nomatch z)]
    exact h'
  · obtain ⟨ps, e1, e2, e3⟩ := tb q hq
    refine ⟨ps, kt _ _ e1 (fun _ z => nomatch z) (fun _ z => nomatch z), e2, fun pos cv hc => ?_⟩
    obtain ⟨c, z1, z2⟩ := e3 pos cv hc
    exact ⟨c, z1, kt _ _ z2 (fun _ z => by unfold LamX.CodeO at z; cases z) (fun _ z => by unfold LamX.CodeO at z; cases z)⟩
  · rw [k q (fun z => ns (.inl (.inl z))) (fun z => ns (.inl (.inr (.inl z)))) (fun z => ns (.inl (.inr (.inr z)))) (by rw [h]; exact fun z => nomatch z)]
    exact h
theorem ints_shaped (gs : List Int) : SeqAt.shaped (.list (gs.map PyData.int)) = true := by
  have h : ∀ l : List Int, PyData.canLayAll0 (l.map PyData.int) = true ∧ PyData.depthAll (l.map PyData.int) = 0 := fun l => by
    induction l with
    | nil => exact ⟨by simp [PyData.canLayAll0], by simp [PyData.depthAll]⟩
    | cons x r ih =>
      refine ⟨?_, ?_⟩
      · simp only [List.map_cons, PyData.canLayAll0, PyData.canLay0, ih.1, Bool.and_self]
      · simp only [List.map_cons, PyData.depthAll, PyData.depth, ih.2, Nat.max_self]
  unfold SeqAt.shaped
  simp only [PyData.canLay0, PyData.depth, (h gs).1, (h gs).2, Bool.true_and]
  decide
theorem ints_dp {K : PySem.W.Frag} {H : Hp} : ∀ gs : List Int, DpAll K H (gs.map V.int) (gs.map PyData.int)
  | [] => .nil
  | g :: r => .cons (.int g) (ints_dp r)
theorem eqvAll_nil' : ∀ xs : List D, PyData.eqvAll xs [] = xs.isEmpty
  | [] => by simp [PyData.eqvAll]
  | _ :: _ => by simp [PyData.eqvAll]
theorem last_ix {gs : List Int} {x : Int} (h : gs.getLast? = some x) : atI (gs.map V.int) (-1) = some (.int x) ∧ ixN (gs.map V.int).length (-1) = some (gs.length - 1) ∧ (gs.map V.int)[(gs.map V.int).length - 1]? = some (.int x) := by
  have hl : 0 < gs.length := by
    cases gs with
    | nil => cases h
    | cons a r => simp
  have e0 : ixN (gs.map V.int).length (-1) = some (gs.length - 1) := by
    unfold ixN
    rw [if_neg (by decide), if_pos (by rw [List.length_map]; omega), List.length_map]
    congr 1
    omega
  have e1 : (gs.map V.int)[gs.length - 1]? = some (.int x) := by
    rw [List.getElem?_map]
    rw [List.getLast?_eq_getElem?] at h
    rw [h]
    rfl
  refine ⟨?_, e0, ?_⟩
  · unfold atI
    rw [e0]
    exact e1
  · rw [List.length_map]
    exact e1
abbrev rLenS (K : PySem.W.Frag) : List V → Hp → VK → Prop := fun xs H Q => ∃ p ys, xs = [.ref p] ∧ (SqL K H p ys ∨ SqT K H p ys) ∧ Q (.int ys.length) H
def tDraw (K : PySem.W.Frag) (w : Bool) (rest : TS) : TS :=
  tSeq (tAsg (dGt "great") (gName 2))
  (tSeq (tWhile (tTest (tOp (rNeD K) (tVar 2) (tLst tNil)))
      (tSeq (tIfS (tTest (tOp (rI0 fun i j => .bl (decide (j < i))) (lastG K) (tC (.int 0))))
          (tSeq (tAsg (tOp rMod0 (tI1 w (lastG K)) (tVar 1)) (gName 3))
            (tSeq (tAsg (tOp rFdivD (tI1 w (lastG K)) (tVar 1)) (gSub (tVar 2) (tUn (rU fun i => .int (-i)) (tC (.int 1))) rSetL))
              (tRet (tVar 3)))) tNext)
        (tDrop (tBM0 K "list" rPop (tVar 2)))))
  (tSeq (sDPut (tVar 0) (tC (.str "turn")) (tOp rAdd0 (dGt "turn") (tC (.int 1))))
  (tSeq (tAsg (tOp (rIxL K) (dGt "small") (tOp rMod0 (tI1 w (dGt "turn")) (tCB (rLenS K) (tCons (dGt "small") tNil)))) (gName 4))
  rest)))
theorem lastG_reads {K : PySem.W.Frag} {σ : L2.St} {H : Hp} {Q : VK} {gr : Addr} {xs : List V} {x : Int} (w : Bool) (h : σ[2]? = some (some (.ref gr))) (hs : SqL K H gr xs) (hi : atI xs (-1) = some (.int x)) (q : Q (.int x) H) : tI1 w (lastG K) σ H Q := by
  cases w with
  | false => exact ⟨_, h, 1, rfl, gr, _, -1, .int x, rfl, rfl, hs, hi, q⟩
  | true => exact ⟨_, h, 1, rfl, gr, _, -1, .int x, rfl, rfl, hs, hi, .inl ⟨x, rfl, q⟩⟩
theorem dGt_reads {σ : L2.St} {H : Hp} {Q : VK} {b : Addr} {n : Str} {t : Int} (w : Bool) (h : σ[0]? = some (some (.ref b))) (hs : DGet H b (.str n) (some (.int t))) (q : Q (.int t) H) : tI1 w (dGt n) σ H Q := by
  cases w with
  | false => exact ⟨_, h, b, _, rfl, hs, q⟩
  | true => exact ⟨_, h, b, _, rfl, hs, .inl ⟨t, rfl, q⟩⟩
theorem drawn_reads {K : PySem.W.Frag} (w : Bool) (rest : TS) {cad : Cad} {vs : List V} {H : Hp} {Q : VK} {E : XK} {N : List Str} (hN : N.length = 6) (h : spD cad 2 mDraw vs H Q E)
    (hrest : ∀ (b gr : Addr) (m cell t : Int) (H' : Hp), DGet H' b (.str "turn") (some (.int t)) → 0 < m → m < 10000000000000000000000000000000000000000 → (∀ i, 0 ≤ i → i < m → Q (.int i) H') →
      rest { nx := fun _ H' => Q .non H', rt := Q } [some (.ref b), some (.int m), some (.ref gr), none, some (.int cell), none] H') :
    tDraw K w rest { nx := fun _ H' => Q .non H', rt := Q } (L2.start N vs) H := by
  obtain ⟨_, β, H0, as, e, ok, bf, tbs, ha, q⟩ := h
  match as, ha, q with
  | [.box true, .d (.int m)], ha, q =>
    obtain ⟨v, w', rfl, ⟨b, gr, sm, T, eβ, hv⟩, hw⟩ := ha.two'
    subst eβ
    subst hv
    have ew := hw.int_eq
    subst ew
    obtain ⟨m0, m1, q⟩ := q
    have ok0 := ok
    obtain ⟨gs, ss, t, D⟩ := DictAt.of ok.1
    have es : L2.start N [.ref b, .int m] = [some (.ref b), some (.int m), none, none, none, none] := by
      unfold L2.start
      simp [hN, List.replicate]
    rw [es]
    have fin : ∀ (H' : Hp) (i : Int), (∀ a, a ≠ b → a ≠ gr → a ≠ sm → H a ≠ none → H' a = H a) → dictOk b gr sm H' → 0 ≤ i → i < m → Q (.int i) H' := fun H' i k ok' i0 i1 =>
      q i i0 i1 (.int i) H0 H' (Stp.dict e ok0 bf k ok') (.int i)
    refine ⟨_, rfl, b, .ref gr, rfl, D.great, ?_⟩
    refine ⟨fun k σ H' => ∃ gs', k = gs'.length ∧ σ = [some (.ref b), some (.int m), some (.ref gr), none, none, none] ∧ DictAt b gr sm gs' ss t H' ∧ (∀ a, a ≠ b → a ≠ gr → a ≠ sm → H a ≠ none → H' a = H a), ⟨gs.length, gs, rfl, rfl, D, fun _ _ _ _ _ => rfl⟩, ?_⟩
    rintro k σ H1 ⟨gs', rfl, rfl, D1, k1⟩
    refine ⟨_, rfl, lim_line (by simp), fun p hp => ?_⟩
    have D2 : DictAt b gr sm gs' ss t (upd H1 p (.lst [])) := D1.away fun a ha => upd_ne fun z => ha (z ▸ hp)
    have k2 : ∀ a, a ≠ b → a ≠ gr → a ≠ sm → H a ≠ none → upd H1 p (.lst []) a = H a := fun a a1 a2 a3 ha => by
      have := k1 a a1 a2 a3 ha
      rw [upd_ne (fun z => by
        subst z
        rw [hp] at this
        exact ha this.symm)]
      exact this
    have e2 : (upd H1 p (.lst [])) p = some (.lst []) := upd_same
    generalize upd H1 p (.lst []) = H2 at D2 k2 e2 ⊢
    refine ⟨.list (gs'.map PyData.int), .list [], .lst (SqL.of D2.hg) (ints_dp gs'), .lst (SqL.of e2) .nil, ints_shaped gs', by decide +kernel, ?_⟩
    have ee : (!PyData.eqv (.list (gs'.map PyData.int)) (.list [])) = !gs'.isEmpty := by
      simp only [PyData.eqv, eqvAll_nil', List.isEmpty_map]
    refine ⟨_, rfl, ?_⟩
    rw [ee]
    refine ite2 (fun c => ?_) (fun c => ?_)
    · have hne : gs' ≠ [] := fun z => by
        subst z
        cases c
      obtain ⟨x, hx⟩ : ∃ x, gs'.getLast? = some x := ⟨_, List.getLast?_eq_some_getLast hne⟩
      obtain ⟨i1, i2, i3⟩ := last_ix hx
      have hxm : x ∈ gs' := List.mem_of_getLast? hx
      have x0 := D2.g0 x hxm
      have hlen : 0 < gs'.length := List.length_pos_iff.mpr hne
      refine ⟨fun σ' H' => ∃ gs'', gs''.length < gs'.length ∧ σ' = [some (.ref b), some (.int m), some (.ref gr), none, none, none] ∧ DictAt b gr sm gs'' ss t H' ∧ (∀ a, a ≠ b → a ≠ gr → a ≠ sm → H a ≠ none → H' a = H a),
        fun σ' H' ⟨gs'', hl, es, d, k⟩ => ⟨gs''.length, hl, gs'', rfl, es, d, k⟩, ?_⟩
      have k3 : ∀ o, ∀ a, a ≠ b → a ≠ gr → a ≠ sm → H a ≠ none → upd H2 gr o a = H a := fun o a a1 a2 a3 ha => by
        rw [upd_ne a2]
        exact k2 a a1 a2 a3 ha
      refine ⟨_, rfl, 1, rfl, gr, _, -1, .int x, rfl, rfl, SqL.of D2.hg, i1, x, 0, rfl, rfl, _, rfl, ite2 (fun c1 => ?_) (fun c1 => ?_)⟩
      · refine lastG_reads w rfl (SqL.of D2.hg) i1 ?_
        refine ⟨_, rfl, x, m, rfl, rfl, by omega, ?_⟩
        refine lastG_reads w rfl (SqL.of D2.hg) i1 ?_
        refine ⟨_, rfl, .inr ⟨x, m, rfl, rfl, ⟨m0, log2_small m0 m1⟩, ?_⟩⟩
        refine ⟨_, rfl, 1, rfl, gr, _, -1, gs'.length - 1, rfl, rfl, D2.hg, i2, ?_⟩
        refine ⟨_, rfl, ?_⟩
        have es2 : (gs'.map V.int).set (gs'.length - 1) (.int (x / m)) = (gs'.set (gs'.length - 1) (x / m)).map V.int := by rw [List.map_set]
        have r := fmod_in (i := x) m0
        have d3 := D2.setG (gs' := gs'.set (gs'.length - 1) (x / m)) (fun y hy => by
          rcases List.mem_or_eq_of_mem_set hy with z | z
          · exact D2.g0 y z
          · rw [z]
            exact Int.ediv_nonneg x0 (by omega)) (by
          rw [List.length_set]
          exact D2.gl)
        rw [← es2] at d3
        exact fin _ _ (k3 _) d3.ok r.1 r.2
      · refine ⟨_, rfl, .inl ⟨rfl, _, SqL.of D2.hg⟩, gr, _, .int x, rfl, rfl, D2.hg, i3, ?_⟩
        have d3 := D2.setG (gs' := gs'.dropLast) (fun y hy => D2.g0 y ((List.dropLast_sublist _).subset hy)) (by
          rw [List.length_dropLast]
          have := D2.gl
          omega)
        rw [List.map_dropLast] at d3
        exact ⟨gs'.dropLast, by rw [List.length_dropLast]; omega, rfl, d3, k3 _⟩
    · refine ⟨_, rfl, b, .int t, rfl, D2.turn, t, 1, rfl, rfl, _, rfl, b, _, rfl, D2.put, ?_⟩
      have t0 := D2.t0
      have D3 := D2.setT (t' := t + 1) (by omega)
      have k3 : ∀ o, ∀ a, a ≠ b → a ≠ gr → a ≠ sm → H a ≠ none → upd H2 b o a = H a := fun o a a1 a2 a3 ha => by
        rw [upd_ne a1]
        exact k2 a a1 a2 a3 ha
      have k4 := k3 (.dK [(kGreat, .ref gr), (kSmall, .ref sm), (kTurn, .int (t + 1))])
      generalize upd H2 b (.dK [(kGreat, .ref gr), (kSmall, .ref sm), (kTurn, .int (t + 1))]) = H3 at D3 k4 ⊢
      have hsl : 0 < ss.length := List.length_pos_iff.mpr D3.ne
      refine ⟨_, rfl, b, .ref sm, rfl, D3.small, ?_⟩
      refine dGt_reads w rfl D3.turn ?_
      refine ⟨_, rfl, b, .ref sm, rfl, D3.small, sm, _, rfl, .inl (SqL.of D3.hs), ?_⟩
      rw [List.length_map]
      have r := fmod_in (i := t + 1) (m := (ss.length : Int)) (by omega)
      obtain ⟨j, hj⟩ : ∃ j : Nat, (t + 1).fmod (ss.length : Int) = (j : Int) := ⟨((t + 1).fmod (ss.length : Int)).toNat, by omega⟩
      have hjl : j < ss.length := by omega
      refine ⟨t + 1, (ss.length : Int), rfl, rfl, by omega, ?_⟩
      dsimp only
      rw [hj]
      refine ⟨sm, _, (j : Int), .int ss[j], rfl, rfl, SqL.of D3.hs, atI_nat (by rw [List.getElem?_map, List.getElem?_eq_getElem hjl]; rfl), ?_⟩
      exact hrest b gr m ss[j] (t + 1) H3 D3.turn m0 m1 fun i i0 i1 => fin H3 i k4 D3.ok i0 i1
def restA : TS := tSeq (tAsg (tOp rAdd0 (tOp rMulC (tVar 4) (tC (.int 6364136223846793005))) (tOp rMulC (dGt "turn") (tC (.int 1442695040888963407)))) (gName 5))
  (tSeq (tAsg (tOp rMod0 (tI1 true (tVar 5)) (tC (.int 18446744073709551557))) (gName 5))
    (tSeq (tAsg (tOp rMod0 (tI1 true (tOp rMulC (tVar 5) (tOp rAdd0 (tOp rFdivD (tVar 5) (tC (.int 4294967296))) (tC (.int 17))))) (tC (.int 18446744073709551557))) (gName 5))
      (tRet (tOp rMod0 (tI1 true (tOp rFdivD (tVar 5) (tC (.int 65536)))) (tVar 1)))))
theorem restA_reads (D : Ends) (b gr : Addr) (m cell t : Int) (H' : Hp) (h : DGet H' b (.str "turn") (some (.int t))) (m0 : 0 < m) (q : ∀ i, 0 ≤ i → i < m → D.rt (.int i) H') :
    restA D [some (.ref b), some (.int m), some (.ref gr), none, some (.int cell), none] H' := by
  refine ⟨_, rfl, cell, _, rfl, rfl, .inr ⟨by decide, by decide⟩, _, rfl, b, _, rfl, h, t, _, rfl, rfl, .inr ⟨by decide, by decide⟩, _, _, rfl, rfl, ?_⟩
  refine ⟨_, rfl, .inl ⟨_, rfl, _, _, rfl, rfl, (show (18446744073709551557 : Int) ≠ 0 by decide), ?_⟩⟩
  dsimp only
  generalize hy : (cell * 6364136223846793005 + t * 1442695040888963407).fmod 18446744073709551557 = y
  have ry := fmod_in (i := cell * 6364136223846793005 + t * 1442695040888963407) (m := 18446744073709551557) (by decide)
  rw [hy] at ry
  refine ⟨_, rfl, _, rfl, .inr ⟨y, _, rfl, rfl, ⟨by decide, by decide⟩, _, _, rfl, rfl, y, _, rfl, rfl, .inl ⟨by omega, by omega⟩, .inl ⟨_, rfl, _, _, rfl, rfl, (show (18446744073709551557 : Int) ≠ 0 by decide), ?_⟩⟩⟩
  dsimp only
  generalize (y * (y / 4294967296 + 17)).fmod 18446744073709551557 = z
  refine ⟨_, rfl, .inl ⟨z, _, rfl, rfl, ⟨by decide, by decide⟩, .inl ⟨_, rfl, _, rfl, _, m, rfl, rfl, by omega, ?_⟩⟩⟩
  have r := fmod_in (i := z.fdiv 65536) m0
  exact q _ r.1 r.2
end Wb
set_option Elab.async false
set_option linter.all false
set_option maxRecDepth 100000
set_option maxHeartbeats 4000000
/-! Wb, part 18: the dict of two lists and a number, made of the script; the law's own beginning. -/
namespace Wb
open PySem PySem.Spec PyProof.Rows L2
theorem lc_ints {K : PySem.W.Frag} {a : Addr} {ns : List Int} {k : Nat} {tt : TT} {te : TE} {σ : L2.St} {H1 : Hp} {D : Addr} {Qd : Hp → Prop} (p : Int → Bool) (f : Int → Int) (hS : SqL K H1 a (ns.map V.int)) (hl : ns.length ≤ 1000) (hD : H1 D = none)
    (ht : ∀ x H (Q : Bool → Hp → Prop), Q (p x) H → tt ((wipe σ [k]).set k (some (.int x))) H Q) (he : ∀ x H (Q : VK), Q (.int (f x)) H → te ((wipe σ [k]).set k (some (.int x))) H Q)
    (hd : Qd (upd H1 D (.lst (((ns.filter p).map f).map V.int)))) :
    ∃ W : Nat → Nat → Hp → Prop, (∃ m, W 0 m (upd H1 D (.lst []))) ∧ ∀ i m H, W i m H →
      ((Itl K a).stop i H ∧ Qd H) ∨ ((Itl K a).go i H ∧ ∃ Nx : Hp → Prop, (∀ H', Nx H' → ∃ m', m' < m ∧ W (i + 1) m' H') ∧ ∀ x H', (Itl K a).yld i H x H' → gName k x (wipe σ [k]) H' fun σ2 H2 => wipe σ2 [k] = wipe σ [k] ∧ tt σ2 H2 fun b H3 =>
        if b = true then te σ2 H3 fun y H4 => ∃ acc, H4 D = some (.lst acc) ∧ acc.length < sizeLine ∧ Nx (upd H4 D (.lst (acc ++ [y]))) else Nx H3) := by
  have same : ∀ o, Same H1 (upd H1 D o) := fun o b u z => by
    rw [upd_ne (ne_of_none z hD)]
    exact z
  refine lc_list (K := K) (a := a) (xs := ns.map V.int) (fun i H => H = upd H1 D (.lst ((((ns.take i).filter p).map f).map V.int))) (by simp) ?_ ?_ ?_
  · rintro i H _ rfl
    exact (same _).seq hS
  · rintro i x H hx rfl
    rw [List.getElem?_map] at hx
    obtain ⟨n, hn, rfl⟩ := Option.map_eq_some_iff.mp hx
    have et : ns.take (i + 1) = ns.take i ++ [n] := by
      obtain ⟨hi, e⟩ := List.getElem?_eq_some_iff.mp hn
      rw [List.take_succ, hn]
      rfl
    refine ⟨by simp [wipe], ht n _ _ ?_⟩
    cases hp : p n with
    | true =>
      refine iteT (he n _ _ ⟨_, upd_same, ?_, ?_⟩)
      · rw [List.length_map, List.length_map, sizeLine_eq]
        have h1 := List.length_filter_le p (ns.take i)
        rw [List.length_take] at h1
        omega
      · rw [upd_upd, et, List.filter_append, List.map_append, List.map_append]
        simp [hp]
    | false =>
      refine iteF ?_
      rw [et, List.filter_append]
      simp [hp]
  · rintro H rfl
    rw [List.length_map, List.take_length]
    exact hd
theorem absI_eq (n : Int) : (if n < 0 then -n else n) = (n.natAbs : Int) := by
  split <;> omega
abbrev big18 : Int := 1000000000000000000
def spOpened (K : PySem.W.Frag) : Sp := fun vs H Q _ => ∃ (a : Addr) (ns : List Int), vs = [.ref a] ∧ SqL K H a (ns.map V.int) ∧ ns.length ≤ 63 ∧ ∀ H' b gr sm, Same H H' → dictOk b gr sm H' → Q (.ref b) H'
abbrev t1018 : TE := tOp (rI CPow fun i j => V.int (i ^ j.toNat)) (tC (V.int 10)) (tC (V.int 18))
def tOpened (K : PySem.W.Frag) (c : Int) : TS :=
  tSeq (tAsg (tLc (iList K (tSl (rSlL K) (tVar 0) tNoPart (tPart (tC (.int 61))))) (gName 4) tYes (tCB rAbs1 (tCons (tVar 4) tNil)) [4]) (gName 1))
  (tSeq (tAsg (tLc (iList K (tVar 1)) (gName 4) (tTest (tOp (rI0 fun i j => V.bl (decide (i < j))) (tVar 4) t1018)) (tVar 4) [4]) (gName 2))
  (tSeq (tAsg (tLc (iList K (tVar 1)) (gName 4) (tTest (tOp (rI0 fun i j => V.bl (decide (j ≤ i))) (tVar 4) t1018)) (tVar 4) [4]) (gName 3))
  (tRet (tDisp [(tC (.str "great"), tVar 3), (tC (.str "small"), tOp rCat (tVar 2) (tOp rRep (tLst (tCons (tC (.int c)) tNil)) (tCB rInt1 (tCons (tOp (rEqD K) (tVar 2) (tLst tNil)) tNil)))), (tC (.str "turn"), tC (.int 0))]))))
theorem opened_reads {K : PySem.W.Frag} {c : Int} (c0 : 0 ≤ c) (c1 : c < big18) {vs : List V} {H : Hp} {Q : VK} {E : XK} {N : List Str} (hN : N.length = 5) (h : spOpened K vs H Q E) :
    tOpened K c { nx := fun _ H' => Q .non H', rt := Q } (L2.start N vs) H := by
  obtain ⟨a, ns, rfl, hS, hl, q⟩ := h
  have es : L2.start N [.ref a] = [some (.ref a), none, none, none, none] := by
    unfold L2.start
    simp [hN, List.replicate]
  rw [es]
  -- the cells
  refine ⟨_, rfl, _, rfl, a, ns.map V.int, rfl, hS, fun p hp => ?_⟩
  obtain ⟨ms, em, lm⟩ : ∃ ms : List Int, cutV (ns.map V.int) none (some 61) = ms.map V.int ∧ ms.length ≤ 63 := by
    unfold cutV
    rw [← List.map_drop, ← List.map_take]
    refine ⟨_, rfl, ?_⟩
    rw [List.length_take, List.length_drop]
    omega
  rw [em]
  have hl1 : (upd H p (.lst (ms.map V.int))) p = some (.lst (ms.map V.int)) := upd_same
  have sa1 : Same H (upd H p (.lst (ms.map V.int))) := fun b u z => by
    rw [upd_ne (ne_of_none z hp)]
    exact z
  generalize upd H p (.lst (ms.map V.int)) = H1 at hl1 sa1 ⊢
  refine ⟨p, rfl, ⟨_, SqL.of hl1⟩, fun D1 hD1 => ?_⟩
  refine lc_ints (fun _ => true) (fun x => if x < 0 then -x else x) (SqL.of hl1) (by omega) hD1 (fun x H' Q' z => z) (fun x H' Q' z => ⟨_, rfl, x, rfl, z⟩) ?_
  have e1 : ((ms.filter fun _ => true).map fun x => if x < 0 then -x else x) = ms.map fun x => (x.natAbs : Int) := by
    rw [List.filter_eq_self.mpr (fun _ _ => rfl)]
    exact List.map_congr_left fun x _ => absI_eq x
  rw [e1]
  obtain ⟨cs, ec⟩ : ∃ cs, cs = ms.map fun x => (x.natAbs : Int) := ⟨_, rfl⟩
  have cs0 : ∀ x ∈ cs, 0 ≤ x := fun x hx => by
    rw [ec] at hx
    obtain ⟨y, _, rfl⟩ := List.mem_map.mp hx
    omega
  have csl : cs.length ≤ 63 := by
    rw [ec, List.length_map]
    exact lm
  rw [← ec]
  have h1 : (upd H1 D1 (.lst (cs.map V.int))) D1 = some (.lst (cs.map V.int)) := upd_same
  have sa2 : Same H (upd H1 D1 (.lst (cs.map V.int))) := fun b u z => by
    rw [upd_ne (ne_of_none (sa1 b u z) hD1)]
    exact sa1 b u z
  generalize upd H1 D1 (.lst (cs.map V.int)) = H2 at h1 sa2 ⊢
  -- the small ones
  refine ⟨_, rfl, _, rfl, ⟨_, SqL.of h1⟩, fun D2 hD2 => ?_⟩
  refine lc_ints (fun x => decide (x < big18)) (fun x => x) (SqL.of h1) (by omega) hD2 (fun x H' Q' z => ⟨_, rfl, 10, 18, rfl, rfl, ⟨by decide, by decide, by decide⟩, x, _, rfl, rfl, _, rfl, z⟩) (fun x H' Q' z => ⟨_, rfl, z⟩) ?_
  obtain ⟨ss, ess⟩ : ∃ ss, ss = cs.filter fun x => decide (x < big18) := ⟨_, rfl⟩
  rw [List.map_id', ← ess]
  have ss0 : ∀ x ∈ ss, 0 ≤ x ∧ x < big18 := fun x hx => by
    rw [ess] at hx
    obtain ⟨h1, h2⟩ := List.mem_filter.mp hx
    exact ⟨cs0 x h1, of_decide_eq_true h2⟩
  have ssl : ss.length ≤ 63 := by
    have := List.length_filter_le (fun x => decide (x < big18)) cs
    rw [ess]
    omega
  have n12 : D1 ≠ D2 := fun z => by
    rw [z, hD2] at h1
    cases h1
  have h1' : (upd H2 D2 (.lst (ss.map V.int))) D1 = some (.lst (cs.map V.int)) := by
    rw [upd_ne n12]
    exact h1
  have h2 : (upd H2 D2 (.lst (ss.map V.int))) D2 = some (.lst (ss.map V.int)) := upd_same
  have sa3 : Same H (upd H2 D2 (.lst (ss.map V.int))) := fun b u z => by
    rw [upd_ne (ne_of_none (sa2 b u z) hD2)]
    exact sa2 b u z
  generalize upd H2 D2 (.lst (ss.map V.int)) = H3 at h1' h2 sa3 ⊢
  -- the great ones
  refine ⟨_, rfl, _, rfl, ⟨_, SqL.of h1'⟩, fun D3 hD3 => ?_⟩
  refine lc_ints (fun x => decide (big18 ≤ x)) (fun x => x) (SqL.of h1') (by omega) hD3 (fun x H' Q' z => ⟨_, rfl, 10, 18, rfl, rfl, ⟨by decide, by decide, by decide⟩, x, _, rfl, rfl, _, rfl, z⟩) (fun x H' Q' z => ⟨_, rfl, z⟩) ?_
  obtain ⟨gs, egs⟩ : ∃ gs, gs = cs.filter fun x => decide (big18 ≤ x) := ⟨_, rfl⟩
  rw [List.map_id', ← egs]
  have gs0 : ∀ x ∈ gs, 0 ≤ x := fun x hx => by
    rw [egs] at hx
    exact cs0 x (List.mem_filter.mp hx).1
  have gsl : gs.length ≤ 63 := by
    have := List.length_filter_le (fun x => decide (big18 ≤ x)) cs
    rw [egs]
    omega
  have n23 : D2 ≠ D3 := fun z => by
    rw [z, hD3] at h2
    cases h2
  have h2' : (upd H3 D3 (.lst (gs.map V.int))) D2 = some (.lst (ss.map V.int)) := by
    rw [upd_ne n23]
    exact h2
  have h3 : (upd H3 D3 (.lst (gs.map V.int))) D3 = some (.lst (gs.map V.int)) := upd_same
  have sa4 : Same H (upd H3 D3 (.lst (gs.map V.int))) := fun b u z => by
    rw [upd_ne (ne_of_none (sa3 b u z) hD3)]
    exact sa3 b u z
  generalize upd H3 D3 (.lst (gs.map V.int)) = H4 at h2' h3 sa4 ⊢
  -- the dict
  intro d hd
  have nd : ∀ b u, H b = some u → b ≠ d := fun b u z => ne_of_none (sa4 b u z) hd
  have f : ∀ {x : Addr} {o : HO}, H4 x = some o → (upd H4 d (.dK [])) x = some o := fun z => by
    rw [upd_ne (ne_of_none z hd)]
    exact z
  have g2 := f h2'
  have g3 := f h3
  have gd : (upd H4 d (.dK [])) d = some (.dK []) := upd_same
  have sa5 : Same H (upd H4 d (.dK [])) := fun b u z => by
    rw [upd_ne (ne_of_none (sa4 b u z) hd)]
    exact sa4 b u z
  generalize upd H4 d (.dK []) = H5 at g2 g3 gd sa5 ⊢
  refine ⟨_, rfl, _, rfl, lim_line (by simp), fun r hr => ?_⟩
  have f2 : ∀ {x : Addr} {o : HO}, H5 x = some o → (upd H5 r (.lst [.int c])) x = some o := fun z => by
    rw [upd_ne (ne_of_none z hr)]
    exact z
  have i2 := f2 g2
  have i3 := f2 g3
  have id' := f2 gd
  have ir : (upd H5 r (.lst [.int c])) r = some (.lst [.int c]) := upd_same
  have sa6 : Same H (upd H5 r (.lst [.int c])) := fun b u z => by
    rw [upd_ne (ne_of_none (sa5 b u z) hr)]
    exact sa5 b u z
  generalize upd H5 r (.lst [.int c]) = H6 at i2 i3 id' ir sa6 ⊢
  refine ⟨_, rfl, lim_line (by simp), fun u hu => ?_⟩
  have f3 : ∀ {x : Addr} {o : HO}, H6 x = some o → (upd H6 u (.lst [])) x = some o := fun z => by
    rw [upd_ne (ne_of_none z hu)]
    exact z
  have j2 := f3 i2
  have j3 := f3 i3
  have jd := f3 id'
  have jr := f3 ir
  have ju : (upd H6 u (.lst [])) u = some (.lst []) := upd_same
  have sa7 : Same H (upd H6 u (.lst [])) := fun b u z => by
    rw [upd_ne (ne_of_none (sa6 b u z) hu)]
    exact sa6 b u z
  generalize upd H6 u (.lst []) = H7 at j2 j3 jd jr ju sa7 ⊢
  refine ⟨.list (ss.map PyData.int), .list [], .lst (SqL.of j2) (ints_dp ss), .lst (SqL.of ju) .nil, ints_shaped ss, by decide +kernel, .inr ⟨_, rfl, ?_⟩⟩
  obtain ⟨k, hk, hk1, hk2⟩ : ∃ k : Nat, (if PyData.eqv (.list (ss.map PyData.int)) (.list []) = true then (1 : Int) else 0) = (k : Int) ∧ k ≤ 1 ∧ (ss = [] → k = 1) := by
    have ee : PyData.eqv (.list (ss.map PyData.int)) (.list []) = ss.isEmpty := by
      simp only [PyData.eqv, eqvAll_nil', List.isEmpty_map]
    rw [ee]
    cases ss with
    | nil => exact ⟨1, rfl, by omega, fun _ => rfl⟩
    | cons x r => exact ⟨0, rfl, by omega, fun z => nomatch z⟩
  rw [hk]
  refine ⟨r, (k : Int), _, rfl, rfl, jr, by omega, by omega, lim_line (by simp; omega), fun v hv => ?_⟩
  have er : (List.replicate (k : Int).toNat [V.int c]).flatten = (List.replicate k c).map V.int := by
    rw [Int.toNat_natCast]
    clear hk hk1 hk2
    induction k with
    | zero => rfl
    | succ k ih =>
      rw [List.replicate_succ, List.flatten_cons, ih]
      rfl
  rw [er]
  have f4 : ∀ {x : Addr} {o : HO}, H7 x = some o → (upd H7 v (.lst ((List.replicate k c).map V.int))) x = some o := fun z => by
    rw [upd_ne (ne_of_none z hv)]
    exact z
  have l2 := f4 j2
  have l3 := f4 j3
  have ld := f4 jd
  have lv : (upd H7 v (.lst ((List.replicate k c).map V.int))) v = some (.lst ((List.replicate k c).map V.int)) := upd_same
  have sa8 : Same H (upd H7 v (.lst ((List.replicate k c).map V.int))) := fun b u z => by
    rw [upd_ne (ne_of_none (sa7 b u z) hv)]
    exact sa7 b u z
  generalize upd H7 v (.lst ((List.replicate k c).map V.int)) = H8 at l2 l3 ld lv sa8 ⊢
  refine ⟨D2, v, _, _, rfl, rfl, l2, lv, lim_line (by simp; omega), fun w hw => ?_⟩
  rw [← List.map_append]
  have f5 : ∀ {x : Addr} {o : HO}, H8 x = some o → (upd H8 w (.lst ((ss ++ List.replicate k c).map V.int))) x = some o := fun z => by
    rw [upd_ne (ne_of_none z hw)]
    exact z
  have m3 := f5 l3
  have md := f5 ld
  have mw : (upd H8 w (.lst ((ss ++ List.replicate k c).map V.int))) w = some (.lst ((ss ++ List.replicate k c).map V.int)) := upd_same
  have n3w : D3 ≠ w := ne_of_none l3 hw
  have sa9 : Same H (upd H8 w (.lst ((ss ++ List.replicate k c).map V.int))) := fun b u z => by
    rw [upd_ne (ne_of_none (sa8 b u z) hw)]
    exact sa8 b u z
  generalize upd H8 w (.lst ((ss ++ List.replicate k c).map V.int)) = H9 at m3 md mw sa9 ⊢
  refine ⟨md, [(kGreat, .ref D3), (kSmall, .ref w), (kTurn, .int 0)], rfl, by simp, ?_⟩
  have em2 : mergeK [] [(kGreat, V.ref D3), (kSmall, .ref w), (kTurn, .int 0)] = [(kGreat, .ref D3), (kSmall, .ref w), (kTurn, .int 0)] := rfl
  rw [em2]
  refine q _ d D3 w (fun b u z => by
    rw [upd_ne (nd b u z)]
    exact sa9 b u z) (DictAt.ok (gs := gs) (ss := ss ++ List.replicate k c) (t := 0) ⟨upd_same, ?_, ?_, gs0, ?_, ?_, by decide, by omega, ?_, n3w⟩)
  · rw [upd_ne (fun z => by
      subst z
      rw [m3] at md
      cases md)]
    exact m3
  · rw [upd_ne (fun z => by
      subst z
      rw [mw] at md
      cases md)]
    exact mw
  · intro x hx
    rcases List.mem_append.mp hx with z | z
    · exact ss0 x z
    · have := List.eq_of_mem_replicate z
      subst this
      exact ⟨c0, c1⟩
  · intro z
    have := List.append_eq_nil_iff.mp z
    have k1 := hk2 this.1
    rw [k1] at this
    cases this.2
  · simp
    omega
theorem dict_opens {T : List (Addr × Str)} {K : PySem.W.Frag} (vs : List V) (H : Hp) (Q : VK) (E : XK) (h : ∃ (a : Addr) (ns : List Int), vs = [.ref a] ∧ SqL K H a (ns.map V.int) ∧ ns.length ≤ 63 ∧ LamX.Tabs T H ∧ ∀ (β : Box) v H', boxIs true β v → β.tabs = T → β.ok H' → Q v H') : spOpened K vs H Q E := by
  obtain ⟨a, ns, e, hS, hl, tb, q⟩ := h
  exact ⟨a, ns, e, hS, hl, fun H' b gr sm sa ok => q (tabBox (dictBox b gr sm) T) _ H' ⟨b, gr, sm, T, rfl, rfl⟩ rfl ⟨ok, tb.ext sa⟩⟩
end Wb
set_option Elab.async false
set_option linter.all false
set_option maxRecDepth 100000
set_option maxHeartbeats 4000000
/-! Wb, part 19: zip over two things, each a list or a tuple. -/
namespace Wb
open PySem PySem.Spec PyProof.Rows L2 RZ
/-- the walker over a tuple (true) or a list (false) -/
def ItOf : Bool → Heap → Addr → Addr → Nat → Prop
  | true, h, j, l, k => h.IsTupleIter j l k
  | false, h, j, l, k => h.IsListIter j l k
def SqOf : Bool → Heap → Addr → Array Value → Prop
  | true, h, l, xs => h.IsTuple l xs
  | false, h, l, xs => h.IsList l xs
section
variable {h h' : Heap} {j l c : Addr} {k : Nat} {xs : Array Value}
theorem ItOf.ext {t : Bool} (x : ItOf t h j l k) (e : Heap.ExtBut c h h') (n : j ≠ c) : ItOf t h' j l k := by
  cases t
  · exact Heap.IsListIter.extBut x e n
  · exact Heap.IsTupleIter.extBut x e n
theorem ItOf.same {t : Bool} (x : ItOf t h j l k) (e : ∀ o, h.get? j = some o → h'.get? j = some o) : ItOf t h' j l k := by
  cases t
  · exact Heap.IsListIter.at x e
  · exact Heap.IsTupleIter.at x e
theorem SqOf.ext {t : Bool} (x : SqOf t h l xs) (e : Heap.ExtBut c h h') (n : l ≠ c) : SqOf t h' l xs := by
  cases t
  · exact Heap.IsList.extBut x e n
  · exact Heap.IsTuple.extBut x e n
theorem ItOf.obj {t : Bool} (x : ItOf t h j l k) : ∃ o vs, h.get? j = some o ∧ o.data = .fields vs := by
  cases t
  · obtain ⟨o, e, _, d⟩ := x
    exact ⟨o, _, e, d⟩
  · obtain ⟨o, e, _, d⟩ := x
    exact ⟨o, _, e, d⟩
theorem SqOf.obj {t : Bool} (x : SqOf t h l xs) : ∃ o, h.get? l = some o := by
  cases t
  · obtain ⟨o, e, _⟩ := x
    exact ⟨o, e⟩
  · obtain ⟨o, e, _⟩ := x
    exact ⟨o, e⟩
end
section
variable {prog : Program} {w : World} {A : Around} {E : Value → Shared → Prop} {s : Shared}
theorem step_of {t : Bool} {j l : Addr} {i : Nat} {xs : Array Value} {x : Value} {Q : Value → Shared → Prop} (hj : ItOf t s.heap j l i) (hl : SqOf t s.heap l xs) (hx : xs[i]? = some x)
    (q : ∀ h', ItOf t h' j l (i + 1) → Heap.SameBut j s.heap h' → Q x { s with heap := h' }) : wpAny (model prog w) A (Builtin.SmallTypes.nextOf (.ref j)) Q E s := by
  cases t
  · exact wpAny_nextOf_list_item hj hl hx q
  · exact nextOf_tuple_item hj hl hx q
theorem last_of {t : Bool} {j l : Addr} {i : Nat} {xs : Array Value} {Q : Value → Shared → Prop} (hh : A.handled = none) (hj : ItOf t s.heap j l i) (hl : SqOf t s.heap l xs) (hx : xs[i]? = none)
    (q : ∀ h' e, Heap.ExtBut j s.heap h' → (∃ o, h'.get? e = some o ∧ o.cls = .type "StopIteration") → E (.ref e) { s with heap := h' }) : wpAny (model prog w) A (Builtin.SmallTypes.nextOf (.ref j)) Q E s := by
  cases t
  · exact wpAny_nextOf_list_end hh hj hl hx q
  · exact nextOf_tuple_end hh hj hl hx q
end
/-! ### zip(x, y) is made -/
def itN (t : Bool) : String := if t = true then "tuple_iterator" else "list_iterator"
abbrev itO (t : Bool) (l : Addr) : Obj := { cls := .type (itN t), data := .fields #[.ref l, .int 0 0] }
theorem itO_of {t : Bool} {h : Heap} {j l : Addr} (e : h.get? j = some (itO t l)) : ItOf t h j l 0 := by
  cases t
  · exact ⟨_, e, rfl, rfl⟩
  · exact ⟨_, e, rfl, rfl⟩
/-! ### the turns of a loop -/
def SqV (t : Bool) (K : PySem.W.Frag) (H : Hp) (a : Addr) (xs : List V) : Prop := if t = true then SqT K H a xs else SqL K H a xs
theorem SqV.at {X : Cx} {pins : List (Addr × Obj)} {σ : L2.St} {H : Hp} {s : Shared} {t : Bool} {a : Addr} {xs : List V} (I : Inv X pins σ H s) (h : SqV t X.K H a xs) : ∃ us, Vals xs us ∧ SqOf t s.heap a us.toArray := by
  cases t
  · obtain ⟨us, r, p, _⟩ := I.list h
    exact ⟨us, r, p.isList⟩
  · obtain ⟨us, r, p, _⟩ := I.tuple h
    exact ⟨us, r, p⟩
theorem SqV.inj {X : Cx} {pins : List (Addr × Obj)} {σ : L2.St} {H : Hp} {s : Shared} {t : Bool} {a : Addr} {xs ys : List V} (I : Inv X pins σ H s) (h : SqV t X.K H a xs) (h' : SqV t X.K H a ys) : xs = ys := by
  cases t
  · exact I.list_inj h h'
  · exact I.tuple_inj h h'
/-- a list (false), a tuple (true), known -/
def HasQ (t : Bool) (H0 : Hp) (a : Addr) (vs : List V) : Prop := match t with
  | true => ∃ o, H0 a = some (.frz o (.tup vs))
  | false => H0 a = some (.lst vs)
theorem HasQ.sq {t : Bool} {K : PySem.W.Frag} {H0 H : Hp} {a : Addr} {vs : List V} (h : HasQ t H0 a vs) (e : Same H0 H) : SqV t K H a vs := by
  cases t
  · exact SqL.of (e _ _ (show H0 a = some (.lst vs) from h))
  · obtain ⟨o, h⟩ : ∃ o, H0 a = some (.frz o (.tup vs)) := h
    exact sqF (e _ _ h)
def seqD : D → Option (Bool × List D)
  | .list xs => some (false, xs)
  | .tuple xs => some (true, xs)
  | _ => none
theorem seqD_has {H0 : Hp} {v : V} {d : D} {t : Bool} {ds : List D} (h : Has H0 v d) (e : seqD d = some (t, ds)) : ∃ a vs, v = .ref a ∧ HasQ t H0 a vs ∧ HasL H0 vs ds := by
  cases h with
  | lst h1 h2 =>
    cases e
    exact ⟨_, _, rfl, h1, h2⟩
  | tup h1 hdn h2 =>
    cases e
    exact ⟨_, _, rfl, ⟨_, h1⟩, h2⟩
  | _ => cases e
def oZipM : List Ar → T (List D)
  | [.d x, .d y] => match seqD x, seqD y with
    | some (_, xs), some (_, ys) => .ret ((xs.zip ys).map fun p => .tuple [p.1, p.2])
    | _, _ => .bad
  | _ => .bad
section
variable {X : Cx} {g : Ct} {a b : Expr} {pos : Pos} {fs : Env' → T (List Ar)}
@[simp] theorem ev_zipTT {xs ys : List D} : oZipM [.d (.tuple xs), .d (.tuple ys)] = .ret ((xs.zip ys).map fun p => .tuple [p.1, p.2]) := rfl
@[simp] theorem ev_zipLL {xs ys : List D} : oZipM [.d (.list xs), .d (.list ys)] = .ret ((xs.zip ys).map fun p => .tuple [p.1, p.2]) := rfl
@[simp] theorem ev_zipTL {xs ys : List D} : oZipM [.d (.tuple xs), .d (.list ys)] = .ret ((xs.zip ys).map fun p => .tuple [p.1, p.2]) := rfl
@[simp] theorem ev_zipLT {xs ys : List D} : oZipM [.d (.list xs), .d (.tuple ys)] = .ret ((xs.zip ys).map fun p => .tuple [p.1, p.2]) := rfl
end
end Wb
set_option Elab.async false
set_option linter.all false
set_option maxRecDepth 100000
set_option maxHeartbeats 4000000
/-! Wb, part 20: several except clauses, with names and without; errors without fields. -/
namespace Wb
open PySem PySem.Spec PyProof.Rows L2
/-! ### in data -/
def afterN : Fl → T Fl
  | .nx ρ => .ret (.nx (clrE ρ))
  | .ret d => .ret (.ret d)
  | .brk ρ => .ret (.brk (clrE ρ))
  | .cnt ρ => .ret (.cnt (clrE ρ))
  | .exc _ _ => .bad
structure Cls where
  slot : Option Nat
  cm : Str → Option Bool
  G : Env' → T Fl
def clsGo : List Cls → Exn → Env' → T Fl
  | [], x, ρ => .ret (.exc x ρ)
  | c :: r, x, ρ => match c.cm x.cls with
    | some true => match c.slot with
      | some i => (c.G (ρ.set i (.ex x))).bind (afterX i)
      | none => (c.G ρ).bind afterN
    | some false => clsGo r x ρ
    | none => .bad
def trB (l : List Cls) : Fl → T Fl
  | .exc x ρ => clsGo l x ρ
  | fl => .ret fl
def sTryM (l : List Cls) (F : Env' → T Fl) : Env' → T Fl := fun ρ => (F ρ).bind (trB l)
end Wb
set_option Elab.async false
set_option linter.all false
set_option maxRecDepth 100000
set_option maxHeartbeats 4000000
/-! Wb, part 21: errors without fields. -/
namespace Wb
open PySem PySem.Spec PyProof.Rows L2
theorem un1 {A : Around} {k : Nat} (h : Room k A) : A.units + 1 < cLine := by
  have := h.un
  omega
def sRaise0 (c : Str) : Env' → T Fl := fun ρ => .ret (.exc ⟨c, []⟩ ρ)
@[simp] theorem ev_Raise0 {c : Str} {ρ : Env'} : sRaise0 c ρ = .ret (.exc ⟨c, []⟩ ρ) := rfl
end Wb
set_option Elab.async false
set_option linter.all false
set_option maxRecDepth 100000
set_option maxHeartbeats 4000000
/-! Wb, part 22: reckoning that many laws want. -/
namespace Wb
open PySem PySem.Spec PyProof.Rows L2
/-! ### what is new, reckoned out -/
section
variable {F G : Env' → T Fl} {ρ : Env'} {x : Exn} {d : D} {l : List Cls} {cm : Str → Option Bool} {i : Nat}
@[simp] theorem ev_TryM : sTryM l F ρ = (F ρ).bind (trB l) := rfl
@[simp] theorem tr_nx : trB l (.nx ρ) = .ret (.nx ρ) := rfl
@[simp] theorem tr_ret : trB l (.ret d) = .ret (.ret d) := rfl
@[simp] theorem tr_exc : trB l (.exc x ρ) = clsGo l x ρ := rfl
@[simp] theorem an_nx : afterN (.nx ρ) = .ret (.nx (clrE ρ)) := rfl
@[simp] theorem an_ret : afterN (.ret d) = .ret (.ret d) := rfl
end
/-! ### small enough to be shown -/
structure Sm (n k : Nat) (v : D) : Prop where
  show_ : v.showable = true
  len : v.shown.length ≤ n
  dep : v.depth ≤ k
theorem Sm.mono {n k n' k' : Nat} {v : D} (h : Sm n k v) (hn : n ≤ n') (hk : k ≤ k') : Sm n' k' v := ⟨h.show_, Nat.le_trans h.len hn, Nat.le_trans h.dep hk⟩
theorem Sm.ok {n k : Nat} {v : D} (h : Sm n k v) (hn : n ≤ 10000000) (hk : k ≤ 100) : okRep v = true := by
  unfold okRep
  rw [Bool.and_eq_true, Bool.and_eq_true]
  have := h.len
  have := h.dep
  exact ⟨⟨h.show_, decide_eq_true (by omega)⟩, decide_eq_true (by omega)⟩
/-- a tree whose leaves are good, not to be unfolded -/
structure Wp {α : Type} (t : T α) (P : α → Prop) : Prop where
  wp : t.wp P noE
theorem Wp.le {α : Type} {t : T α} {P Q : α → Prop} {E : Exn → Prop} (h : Wp t P) (k : ∀ a, P a → Q a) : t.wp Q E := T.le h.wp k
def inR (lo hi : Int) : D → Bool
  | .int i => decide (lo ≤ i) && decide (i ≤ hi)
  | _ => false
def okv (n m : Int) : D → Bool
  | .tuple xs => decide ((xs.length : Int) = n) && xs.all (inR (-m) m)
  | _ => false
theorem rangeD_len {a : Int} {n : Nat} : (rangeD a n).length = n := by simp [rangeD]
theorem each_ints {lo hi : Int} {ds : List D} : ∀ {ys : List D}, Each (fun _ y => ∃ z, y = PyData.int z ∧ lo ≤ z ∧ z ≤ hi) ds ys → ∃ ns : List Int, ys = ns.map PyData.int ∧ ns.length = ds.length ∧ ∀ n ∈ ns, lo ≤ n ∧ n ≤ hi := by
  intro ys h
  induction h with
  | nil => exact ⟨[], rfl, rfl, fun _ z => nomatch z⟩
  | cons h1 _ ih =>
    obtain ⟨z, rfl, hz⟩ := h1
    obtain ⟨ns, rfl, hl, hb⟩ := ih
    refine ⟨z :: ns, rfl, by simp [hl], fun n hn => ?_⟩
    rcases List.mem_cons.mp hn with k | k
    · subst k
      exact hz
    · exact hb n k
theorem oRng1_nat {n : Nat} (h : n < 1000000) : oRng1 [.d (.int (n : Nat))] = .ret (rangeD 0 n) := by
  show (if (n : Int).natAbs < 1000000000000 then T.ret (rangeD 0 (n : Int).toNat) else .bad) = _
  rw [if_pos (by omega)]
  rfl
/-! ### vectors of ints -/
def vecD (ns : List Int) : D := .tuple (ns.map PyData.int)
/-! ### Euclid's loop -/
end Wb
set_option Elab.async false
set_option linter.all false
set_option maxRecDepth 100000
set_option maxHeartbeats 4000000
/-! Wb, part 23: enumerate over a list or a tuple. -/
namespace Wb
open PySem PySem.Spec PyProof.Rows L2 RZ
open PySem.AutoSeq1 (wpAny_loadPart')
section
variable {prog : Program} {w : World} {A : Around} {E : Value → Shared → Prop} {s : Shared}
theorem enx_item {t : Bool} {c j l : Addr} {k : Nat} {xs : Array Value} {x old : Value} {Q : Value → Shared → Prop} (ec : IsEnum s.heap c j k old) (ij : ItOf t s.heap j l k) (ql : SqOf t s.heap l xs) (ex : xs[k]? = some x) (nj : c ≠ j)
    (q : ∀ h', IsEnumOut h' c j ((k : Int) + 1) x s.heap.objs.size → ItOf t h' j l (k + 1) → h'.get? s.heap.objs.size = some { cls := .type "tuple", data := .seq #[.int k s.toks, x] } → h'.objs.size = s.heap.objs.size + 1 →
      (∀ b o, b ≠ c → b ≠ j → s.heap.get? b = some o → h'.get? b = some o) → Q (.ref s.heap.objs.size) { s with heap := h', toks := s.toks + 1 }) :
    wpAny (model prog w) A (Builtin.«enumerate.__next__» ⟨[.ref c], []⟩) (fun r s' => ∃ v, r = .done (.ret v) ∧ Q v s') E s := by
  obtain ⟨hp, gn, d, tk, os⟩ := s
  show wpAny _ _ (field (.ref c) 2 >>= _) _ _ _; refine wpAny_bind (wpAny_field ec rfl (x := .ref j) rfl ?_)
  refine wpAny_bind (step_of ij ql ex fun g1 ij1 s1 => ?_); replace s1 : Heap.SameBut j hp g1 := s1
  have ec1 : IsEnum g1 c j k old := (s1.2 c nj).trans ec
  show wpAny _ _ (field (.ref c) 3 >>= _) _ _ ⟨g1, gn, d, tk, os⟩; refine wpAny_bind (wpAny_field ec1 rfl (x := rawInt k) rfl ?_)
  show wpAny _ _ (field (.ref c) 4 >>= _) _ _ ⟨g1, gn, d, tk, os⟩; refine wpAny_bind (wpAny_field ec1 rfl (x := .none) rfl ?_)
  show wpAny _ _ (mkInt k >>= _) _ _ ⟨g1, gn, d, tk, os⟩; refine wpAny_bind (wpAny_mkInt ?_)
  show wpAny _ _ (setField (.ref c) 3 (rawInt ((k : Int) + 1)) >>= _) _ _ ⟨g1, gn, d, tk + 1, os⟩
  refine wpAny_bind (wpAny_setField_rec ec1 (by simp) fun g2 ec2 s2 => ?_); replace s2 : Heap.SameBut c g1 g2 := s2
  replace ec2 : IsEnum g2 c j ((k : Int) + 1) old := ec2
  show wpAny _ _ (setField (.ref c) 4 .none >>= _) _ _ ⟨g2, gn, d, tk + 1, os⟩; refine wpAny_bind (wpAny_setField_rec ec2 (by simp) fun g3 ec3 s3 => ?_)
  replace s3 : Heap.SameBut c g2 g3 := s3; replace ec3 : IsEnum g3 c j ((k : Int) + 1) old := ec3
  show wpAny _ _ (newTuple [.int k tk, x] >>= _) _ _ ⟨g3, gn, d, tk + 1, os⟩; refine wpAny_bind (wpAny_newTuple ?_)
  have ec4 : IsEnum (g3.push { cls := .type "tuple", data := .seq #[.int k tk, x] }) c j ((k : Int) + 1) old := Heap.get?_push_of_some _ ec3
  generalize e4 : g3.push { cls := .type "tuple", data := .seq #[.int k tk, x] } = g4 at ec4
  have sz : g3.objs.size = hp.objs.size := by rw [s3.1, s2.1, s1.1]
  have clt : c < hp.objs.size := Heap.lt_size ec
  have new4 : g4.get? hp.objs.size = some { cls := .type "tuple", data := .seq #[.int k tk, x] } := by rw [← e4, ← sz]; exact Heap.get?_push_size _ rfl
  have sz4 : g4.objs.size = hp.objs.size + 1 := by rw [← e4, Heap.size_push, sz]
  have keep4 : ∀ b o, b ≠ c → b ≠ j → hp.get? b = some o → g4.get? b = some o := fun b o n1 n2 e => by
    rw [← e4]; exact Heap.get?_push_of_some _ (s3.extBut b o n1 (s2.extBut b o n1 (s1.extBut b o n2 e)))
  have ij4 : ItOf t g4 j l (k + 1) := by
    rw [← e4]; exact ((ij1.ext s2.extBut (Ne.symm nj)).ext s3.extBut (Ne.symm nj)).same fun o e => Heap.get?_push_of_some _ e
  show wpAny _ _ (Builtin.SmallTypes.ownedTupleIsFree (.ref c) >>= _) _ _ ⟨g4, gn, d, tk + 1, os⟩
  rw [sz]; clear e4 ec3 s3 ec2 s2 ec1 s1 ij1 sz g3 g2 g1
  refine wpAny_bind ?_; unfold Builtin.SmallTypes.ownedTupleIsFree; refine wpAny_bind (wpAny_field ec4 rfl (x := .none) rfl (wpAny_pure ?_))
  simp only [if_true]; refine wpAny_bind (wpAny_rule ?_); refine wpAny_bind (wpAny_field ec4 rfl (x := old) rfl ?_)
  refine wpAny_bind (wpAny_setField_rec ec4 (by simp) fun g5 ec5 s5 => ?_); replace s5 : Heap.SameBut c g4 g5 := s5
  replace ec5 : IsEnum g5 c j ((k : Int) + 1) x := ec5
  show wpAny _ _ (Builtin.SmallTypes.ownedTupleHandOut (.ref c) (.ref hp.objs.size) >>= _) _ _ ⟨g5, gn, d, tk + 1, os⟩; refine wpAny_bind ?_
  unfold Builtin.SmallTypes.ownedTupleHandOut; refine wpAny_bind (wpAny_setField_rec ec5 (by simp) fun g6 ec6 s6 => ?_)
  replace s6 : Heap.SameBut c g5 g6 := s6; replace ec6 : IsEnumOut g6 c j ((k : Int) + 1) x hp.objs.size := ec6
  refine wpAny_setField_rec ec6 (by simp) fun g7 ec7 s7 => ?_; replace s7 : Heap.SameBut c g6 g7 := s7
  replace ec7 : IsEnumOut g7 c j ((k : Int) + 1) x hp.objs.size := ec7
  refine wpAny_bind (wpAny_letGo (wpAny_pure ⟨_, rfl, q g7 ec7 ?_ ?_ ?_ ?_⟩))
  · exact ((ij4.ext s5.extBut (Ne.symm nj)).ext s6.extBut (Ne.symm nj)).ext s7.extBut (Ne.symm nj)
  · have n := Nat.ne_of_gt clt; exact s7.extBut _ _ n (s6.extBut _ _ n (s5.extBut _ _ n new4))
  · rw [s7.1, s6.1, s5.1, sz4]
  · exact fun b o n1 n2 e => s7.extBut b o n1 (s6.extBut b o n1 (s5.extBut b o n1 (keep4 b o n1 n2 e)))
theorem en_py {t : Bool} {c j l : Addr} {k : Nat} {xs : Array Value} {x old : Value} {Q : Option Value → Shared → Prop} (ec : IsEnum s.heap c j k old) (ij : ItOf t s.heap j l k) (ql : SqOf t s.heap l xs) (ex : xs[k]? = some x) (nj : c ≠ j)
    (q : ∀ h', IsEnumOut h' c j ((k : Int) + 1) x s.heap.objs.size → ItOf t h' j l (k + 1) → h'.get? s.heap.objs.size = some { cls := .type "tuple", data := .seq #[.int k s.toks, x] } → h'.objs.size = s.heap.objs.size + 1 →
      (∀ b o, b ≠ c → b ≠ j → s.heap.get? b = some o → h'.get? b = some o) → Q (some (.ref s.heap.objs.size)) { s with heap := h', toks := s.toks + 1 }) : wpAny (model prog w) A (pyNext (.ref c)) Q E s := by
  have ty : s.TypeIs (.ref c) "enumerate" := ⟨_, ec, rfl⟩
  unfold pyNext
  exact wpAny_bind (wpAny_attempt (wpAny_callSpecial?_slot (name := Str.ofString "__next__") ty F.slot_enumerate_next (wpAny_call_entry F.slot_enumerate_next ty F.entry_enumerate_next
    (enx_item ec ij ql ex nj fun h' e1 e2 e3 e4 e5 => wpAny_pure (q h' e1 e2 e3 e4 e5)) (F.args_enumerate_next_1 _))))
theorem en_py_end {t : Bool} {c j l : Addr} {k : Nat} {xs : Array Value} {old : Value} {Q : Option Value → Shared → Prop} (hh : A.handled = none) (ec : IsEnum s.heap c j k old) (ij : ItOf t s.heap j l k) (ql : SqOf t s.heap l xs) (ex : xs[k]? = none)
    (q : ∀ h', Heap.ExtBut j s.heap h' → Q none { s with heap := h' }) : wpAny (model prog w) A (pyNext (.ref c)) Q E s := by
  have ty : s.TypeIs (.ref c) "enumerate" := ⟨_, ec, rfl⟩
  unfold pyNext
  refine wpAny_bind (wpAny_attempt (wpAny_callSpecial?_slot (name := Str.ofString "__next__") ty F.slot_enumerate_next (wpAny_call_entry F.slot_enumerate_next ty F.entry_enumerate_next ?_ (F.args_enumerate_next_1 _))))
  show wpAny _ _ (field (.ref c) 2 >>= _) _ _ _; refine wpAny_bind (wpAny_field ec rfl (x := .ref j) rfl ?_)
  refine wpAny_bind (last_of hh ij ql ex fun h' r eb hr => ?_)
  obtain ⟨o, ho, hc⟩ := hr
  refine wpAny_bind (wpAny_isInstance (T := "StopIteration") (b := true) ⟨o, ho, hc⟩ isSubtype_stop ?_); exact wpAny_pure (q _ eb)
end
abbrev eg1 (t : Bool) (h : Heap) (l : Addr) : Heap := h.push (itO t l)
abbrev eg2 (t : Bool) (h : Heap) (l : Addr) : Heap := (eg1 t h l).push { cls := .type "enumerate", data := .fields #[.none, .bool false, .ref h.objs.size, rawInt 0, .none, .none] }
theorem emakeL (l : Addr) (xs : Array Value) (n : Nat) (dct : Option Addr) (sl : Array (Option Value)) :
    Meets (Builtin.«enumerate.__new__» ⟨[.type "enumerate", .ref l], []⟩) (fun _ R s => s.heap.get? l = some { cls := .type "tuple", dict := dct, data := .seq xs n, slots := sl } ∧ R (.ok (.ret (.ref (eg1 true s.heap l).objs.size))) { s with heap := eg2 true s.heap l }) :=
  .of_wp fun prog w A R s h => by
    obtain ⟨hp, gn, d, tk, os⟩ := s; obtain ⟨ol, h⟩ := h
    have sb := sub_enumerate
    have q : Heap.IsTuple (Shared.heap ⟨hp, gn, d, tk, os⟩) l xs := ⟨_, ol, rfl, n, rfl⟩
    wp_walk using wpAny_loadPart' ol
    refine wpAny_stack_any fun st => wpAny_pure ?_
    split
    · rename_i c _ _ _ _ _
      cases (c == Value.type "enumerate")
      · wp_walk using wpAny_loadPart' ol, wpAny_pyIter_tuple q
        exact ⟨_, rfl, h⟩
      · wp_walk using wpAny_loadPart' ol, wpAny_pyIter_tuple q
        exact ⟨_, rfl, h⟩
    · wp_walk using wpAny_loadPart' ol, wpAny_pyIter_tuple q
      exact ⟨_, rfl, h⟩
section
variable {prog : Program} {w : World} {A : Around} {E : Value → Shared → Prop} {s : Shared}
theorem ecall {t : Bool} {l : Addr} {xs : Array Value} {Q : Value → Shared → Prop} (ql : SqOf t s.heap l xs)
    (h : ∀ h', IsEnum h' (s.heap.objs.size + 1) s.heap.objs.size 0 .none → ItOf t h' s.heap.objs.size l 0 → h'.objs.size = s.heap.objs.size + 2 → (∀ b o, s.heap.get? b = some o → h'.get? b = some o) → Q (.ref (s.heap.objs.size + 1)) { s with heap := h' }) :
    wpAny (model prog w) A (call (.type "enumerate") [.ref l]) Q E s := by
  cases t
  · exact call_enumerate_list ql h
  · obtain ⟨⟨c, dct, dt, sl⟩, ho, hc, n, hd⟩ := ql
    replace hc : c = .type "tuple" := hc
    replace hd : dt = .seq xs n := hd
    subst hc hd
    refine callType_new F.called_enumerate (by decide) (F.typeCall_enumerate_1 _) (F.newCall_enumerate_1 _) (fun obj => F.args_object_init_2 obj _) F.entry_enumerate_new (emakeL l xs n dct sl) ⟨ho, ?_⟩
    have n1 : (eg1 true s.heap l).objs.size = s.heap.objs.size + 1 := Heap.size_push ..
    have n2 : (eg2 true s.heap l).objs.size = s.heap.objs.size + 2 := by rw [Heap.size_push, n1]
    have f2 : (eg2 true s.heap l).get? (eg1 true s.heap l).objs.size = some _ := Heap.get?_push_size _ rfl
    have f1 : (eg2 true s.heap l).get? s.heap.objs.size = some (itO true l) := Heap.get?_push_of_some _ (Heap.get?_push_size _ rfl)
    show _ ∧ _
    rw [n1] at f2 ⊢
    exact ⟨⟨_, f2, rfl⟩, h _ f2 (itO_of f1) n2 fun b o x => Heap.get?_push_of_some _ (Heap.get?_push_of_some _ x)⟩
end
def ItE (t : Bool) (K : PySem.W.Frag) (a : Addr) : It :=
  ⟨fun i H => ∃ (xs : List V) (x : V), SqV t K H a xs ∧ xs[i]? = some x, fun i H v H' => ∃ p ob x, v = .ref p ∧ H p = none ∧ ob.dict = none ∧ H' = upd H p (.frz ob (.tup [.int (i : Nat), x])) ∧ ∀ xs, SqV t K H a xs → xs[i]? = some x,
    fun i H => ∃ xs : List V, SqV t K H a xs ∧ xs.length ≤ i⟩
theorem turnE {t : Bool} {P : Program} {w : World} {K : PySem.W.Frag} {elts : List Expr} {kk : Nat} {tpos : Pos} (a c j : Addr) :
    Turn P w K (.Tuple elts kk tpos) (ItE t K a) [c, j] c (fun i h => (∃ old, IsEnum h c j ((i : Nat) : Int) old) ∧ ItOf t h j a i ∧ c ≠ j) where
  mem := by simp
  obj := fun i h st b hb => by
    obtain ⟨⟨old, he⟩, ij, _⟩ := st
    obtain ⟨o, vs, e, d⟩ := ij.obj
    have e' : b = c ∨ b = j := by simpa using hb
    rcases e' with z | z
    · rw [z]; exact ⟨_, he, fun v q => nomatch q⟩
    · rw [z]; exact ⟨o, e, fun v q => by rw [d] at q; cases q⟩
  keep := fun i h h' st k => let ⟨⟨old, he⟩, ij, n⟩ := st; ⟨⟨old, k c (by simp) _ he⟩, ij.same fun o q => k j (by simp) o q, n⟩
  item := by
    intro X hP hw hK hc i pins s σ H E I hf st hg
    subst hP hw hK
    obtain ⟨⟨old, he⟩, ij, nj⟩ := st
    obtain ⟨xs, x, hq, hx⟩ := hg
    obtain ⟨us, ru, q1⟩ := hq.at I
    obtain ⟨u, hu, rx⟩ := ru.get hx
    have clt : c < s.heap.objs.size := Heap.lt_size he
    have jlt : j < s.heap.objs.size := by obtain ⟨_, _, e, _⟩ := ij.obj; exact Heap.lt_size e
    refine en_py he ij q1 (x := u) (by simpa using hu) nj fun h' ho ij' new' sz hk => ?_
    refine ⟨_, rfl, wpAny_letOwnedTupleGo_enum (s := { s with heap := h', toks := s.toks + 1 }) ho fun h2 he2 sb => ?_⟩
    have new2 : h2.get? s.heap.objs.size = some { cls := .type "tuple", data := .seq #[.int i s.toks, u] } := (sb.2 _ (Nat.ne_of_gt clt)).trans new'
    have ok : ObjOk X.prog X.w (upd H s.heap.objs.size (.frz { cls := .type "tuple", data := .seq #[.int i s.toks, u] } (.tup [.int (i : Nat), x]))) h2 s.heap.objs.size (.frz { cls := .type "tuple", data := .seq #[.int i s.toks, u] } (.tup [.int (i : Nat), x])) :=
      ⟨new2, by show 2 ≤ sizeLine; decide, [.int i s.toks, u], .cons ⟨_, rfl⟩ (.cons rx .nil), ⟨_, new2, rfl, _, rfl⟩⟩
    have I1 : Inv X pins σ (upd H s.heap.objs.size (.frz { cls := .type "tuple", data := .seq #[.int i s.toks, u] } (.tup [.int (i : Nat), x]))) { s with heap := h2, toks := s.toks + 1 } :=
      I.turnedNew (ch := [c, j]) (fun b ob nb q => (sb.2 b (fun z => nb (by simp [z]))).trans (hk b ob (fun z => nb (by simp [z])) (fun z => nb (by simp [z])) q)) hf (Nat.le_refl _) ok
    refine ⟨.ref s.heap.objs.size, _, I1, rfl, ⟨_, _, x, rfl, I.hok.fresh (Nat.le_refl _), rfl, rfl, fun ys hy => by rw [hy.inj I hq]; exact hx⟩, ⟨⟨u, ?_⟩, ij'.same fun o q => (sb.2 j (Ne.symm nj)).trans q, nj⟩, fun b hb => ?_⟩
    · have e1 : ((i + 1 : Nat) : Int) = (i : Int) + 1 := by omega
      rw [e1]; exact he2
    · have hb' : b < s.heap.objs.size := by
        have e' : b = c ∨ b = j := by simpa using hb
        rcases e' with z | z
        · rw [z]; exact clt
        · rw [z]; exact jlt
      rw [upd_ne (Nat.ne_of_lt hb')]
      exact (hf b hb).1
  done := by
    intro X hP hw hK hc i pins s σ H E I hf st hg
    subst hP hw hK
    obtain ⟨⟨old, he⟩, ij, nj⟩ := st
    obtain ⟨xs, hq, hx⟩ := hg
    obtain ⟨us, ru, q1⟩ := hq.at I
    obtain ⟨f0, f1, f2, f3, f4, f5⟩ := hf j (by simp)
    have hl := ru.length
    exact en_py_end (I.ok.hd hc) he ij q1 (by simp; omega) fun h' eb => ⟨rfl, I.turned (t' := s.toks) (fun b o nb q => eb b o nb q) f0 f1 f3 f4 f5⟩
  self := fun A i s Q E st h => let ⟨⟨_, he⟩, _⟩ := st; wpAny_pyIter_enum he h
def iEnumM (K : PySem.W.Frag) (ta : TA) : TI := fun σ H R => ta σ H fun vs H1 => ∃ t a xs, vs = [.ref a] ∧ SqV t K H1 a xs ∧ R (ItE t K a) H1
theorem pi_enumM {X : Cx} {e : Expr} {ta : TA} {p pos tpos : Pos} {elts : List Expr} {kk : Nat} (hg : Gl X "enumerate") (hm : X.mg "enumerate" = none) (ha : PA X [e] ta) (hs : starEach [e] X.env = [(false, eval e X.env)] := by rfl) :
    PI X (.Tuple elts kk tpos) (.Call (.Name "enumerate" p) [e] [] pos) (iEnumM X.K ta) := by
  refine ⟨fun pins s σ H R I h => Call_ (ld_blt I hg hm boot_enumerate (PyProof.Rows.callWith_type1 (thn (ha.run pos pins s σ H _ I h) fun us s1 ⟨vs, H1, I1, r1, q1⟩ => ?_) hs rfl))⟩
  obtain ⟨t, a, xs, ex, hq, q⟩ := q1
  subst ex
  cases r1 with
  | cons r rr =>
    cases rr
    cases r
    obtain ⟨us, ru, p1⟩ := hq.at I1
    refine ecall p1 fun h' he ij sz hk => wpAny_pyIter_enum he ?_
    have I2 : Inv X pins σ H1 { s1 with heap := h' } := I1.kept (t' := s1.toks) hk
    refine ⟨s1.heap.objs.size + 1, [s1.heap.objs.size + 1, s1.heap.objs.size], _, _, H1, rfl, I2, turnE a (s1.heap.objs.size + 1) s1.heap.objs.size, ⟨⟨.none, he⟩, ij, Nat.succ_ne_self _⟩, fun b hb => ?_, q⟩
    have e' : b = s1.heap.objs.size + 1 ∨ b = s1.heap.objs.size := by simpa using hb
    have hle : s1.heap.objs.size ≤ b := by
      rcases e' with z | z
      · rw [z]; exact Nat.le_add_right _ _
      · rw [z]; exact Nat.le_refl _
    exact I1.fpOk hle (I1.hok.fresh hle)
/-- what a turn gives: a new pair of its number and the item -/
def YNum (f : Nat → Option V) : Nat → Hp → V → Hp → Prop := fun i H v H' => ∃ p ob x, v = .ref p ∧ H p = none ∧ ob.dict = none ∧ H' = upd H p (.frz ob (.tup [.int (i : Nat), x])) ∧ f i = some x
theorem walkE {t : Bool} {K : PySem.W.Frag} {a : Addr} {xs : List V} : Walk (ItE t K a) xs.length (fun H => SqV t K H a xs) (YNum fun i => xs[i]?) := by
  refine ⟨fun i _ hi q => ⟨xs, xs[i], q, by rw [List.getElem?_eq_getElem]⟩, fun _ q => ⟨xs, q, Nat.le_refl _⟩, fun i H v H' _ q y => ?_⟩
  obtain ⟨p, ob, x, h1, h2, hz, h3, h4⟩ := y
  exact ⟨p, ob, x, h1, h2, hz, h3, h4 xs q⟩
def numD : Nat → List D → List D
  | _, [] => []
  | i, d :: r => .tuple [.int (i : Nat), d] :: numD (i + 1) r
theorem numD_len : ∀ (i : Nat) (ds : List D), (numD i ds).length = ds.length
  | _, [] => rfl
  | i, d :: r => by simp [numD, numD_len (i + 1) r]
theorem numD_get : ∀ (i j : Nat) (ds : List D), (numD i ds)[j]? = ds[j]?.map fun d => .tuple [.int ((i + j : Nat) : Int), d]
  | _, _, [] => by simp [numD]
  | i, 0, d :: r => rfl
  | i, j + 1, d :: r => by
    show (numD (i + 1) r)[j]? = _
    rw [numD_get (i + 1) j r, show i + 1 + j = i + (j + 1) by omega]
    rfl
theorem gives_enumM {t : Bool} {K : PySem.W.Frag} {H0 : Hp} {a : Addr} {vs : List V} {ds : List D} (h : HasQ t H0 a vs) (hl : HasL H0 vs ds) : Gives (ItE t K a) (numD 0 ds) H0 := by
  have len : vs.length = (numD 0 ds).length := by rw [numD_len, hl.length]
  have wk := walkE (t := t) (K := K) (a := a) (xs := vs)
  rw [len] at wk
  refine ⟨_, _, wk, fun H1 e => h.sq e, fun i H1 x H2 d H0' hd e0 e1 y => ?_⟩
  obtain ⟨tp, ob, u, rfl, hn, hz, rfl, hu⟩ := y
  obtain ⟨d1, a1, a2⟩ := hl.get hu
  rw [numD_get, a1, Nat.zero_add] at hd
  cases hd
  exact .inr ⟨tp, ob, [.int (i : Nat), u], [.int (i : Nat), d1], rfl, hn, hz, rfl, rfl, .cons (.int _) (.cons (a2.mono e0) .nil)⟩
def oEnum : List Ar → T (List D)
  | [.d x] => match seqD x with
    | some (_, xs) => .ret (numD 0 xs)
    | none => .bad
  | _ => .bad
section
variable {X : Cx} {g : Ct} {a : Expr} {pos : Pos} {fs : Env' → T (List Ar)}
theorem HasAs.one1 {β : Box} {H0 : Hp} {vs : List V} {x : D} (h : HasAs β H0 vs [.d x]) : ∃ v, vs = [v] ∧ Has H0 v x := by
  cases h with
  | cons h r =>
    cases r
    exact ⟨_, rfl, h⟩
theorem i_enum {p tpos : Pos} {elts : List Expr} {kk : Nat} (hg : Gl X "enumerate") (hm : X.mg "enumerate" = none) (ha : PA X [a] (tA g fs)) (hs : starEach [a] X.env = [(false, eval a X.env)] := by rfl) :
    PI X (.Tuple elts kk tpos) (.Call (.Name "enumerate" p) [a] [] pos) (tI g (iArg oEnum fs)) :=
  (pi_enumM hg hm ha hs).imp fun σ H R ⟨β, H0, ρ, rr, q⟩ => tA_then (k := oEnum) rr q fun as vs H1 H2 st hv q1 => by
    unfold oEnum at q1
    split at q1
    · next x =>
      split at q1
      · next t xs ex =>
        obtain ⟨v, rfl, h1⟩ := hv.one1
        obtain ⟨a1, u1, rfl, k1, l1⟩ := seqD_has h1 ex
        exact ⟨t, _, _, rfl, k1.sq st.ext, q1 _ H1 H2 st (gives_enumM k1 l1)⟩
      · exact q1.elim
    · exact q1.elim
@[simp] theorem ev_enumT {xs : List D} : oEnum [.d (.tuple xs)] = .ret (numD 0 xs) := rfl
@[simp] theorem ev_enumL {xs : List D} : oEnum [.d (.list xs)] = .ret (numD 0 xs) := rfl
end
end Wb
set_option Elab.async false
set_option linter.all false
set_option maxRecDepth 100000
set_option maxHeartbeats 4000000
/-! Wb, part 24: dicts. -/
namespace Wb
open PySem PySem.Spec PyProof.Rows L2
/-! ### what a dict holds -/
def keyOf : D → Option Key
  | .int i => some (.inl i)
  | .str x => some (.inr x)
  | _ => none
theorem keyOf_keyD (k : Key) : keyOf (keyD k) = some k := by cases k <;> rfl
def lookK : List (D × D) → Key → Option D
  | [], _ => none
  | p :: r, k => if keyOf p.1 = some k then some p.2 else lookK r k
theorem HasK.look {H : Hp} (k : Key) : ∀ {kvs : List (Key × V)} {ds : List (D × D)}, HasK H kvs ds → (∀ d, lookK ds k = some d → ∃ v, valV kvs k = some v ∧ Has H v d) ∧ (lookK ds k = none → valV kvs k = none)
  | _, _, .nil => ⟨(fun _ z => nomatch z), fun _ => rfl⟩
  | _, _, .cons (k := k') (v := v) (d := d) h r => by
    obtain ⟨i1, i2⟩ := HasK.look k r
    by_cases e : k' = k
    · have e2 : keyOf (keyD k') = some k := by rw [keyOf_keyD, e]
      have e3 : ∀ ds', lookK ((keyD k', d) :: ds') k = some d := fun ds' => if_pos e2
      refine ⟨fun x hx => ?_, fun z => ?_⟩
      · rw [e3] at hx
        cases hx
        exact ⟨v, valV_pos e, h⟩
      · rw [e3] at z
        cases z
    · have e2 : ¬ keyOf (keyD k') = some k := fun z => by
        rw [keyOf_keyD] at z
        exact e (Option.some.inj z)
      have e3 : ∀ ds', lookK ((keyD k', d) :: ds') k = lookK ds' k := fun ds' => if_neg e2
      refine ⟨fun x hx => ?_, fun z => ?_⟩
      · rw [e3] at hx
        obtain ⟨u, h1, h2⟩ := i1 x hx
        exact ⟨u, by rw [valV_neg e]; exact h1, h2⟩
      · rw [e3] at z
        rw [valV_neg e]
        exact i2 z
theorem has_key {H0 : Hp} {v : V} {d : D} {k : Key} (h : Has H0 v d) (e : keyOf d = some k) : v = kV k := by
  cases h with
  | int i =>
    cases e
    rfl
  | str x =>
    cases e
    rfl
  | _ => cases e
/-- d[k] -/
def oDGet : D → D → T D
  | .dict kvs, x => match keyOf x with
    | some k => match lookK kvs k with
      | some v => .ret v
      | none => .bad
    | none => .bad
  | _, _ => .bad
def oDNotIn : D → D → T D
  | x, .dict kvs => match keyOf x with
    | some k => .ret (.bool (!(lookK kvs k).isSome))
    | none => .bad
  | _, _ => .bad
section
variable {X : Cx} {g : Ct} {a b : Expr} {f h : Env' → T D} {pos : Pos}
theorem r_dget (hu : X.A.units + 1 < cLine) (ha : PE X a (tE g f)) (hb : PE X b (tE g h)) (hs : NoSl b) : PE X (.Subscript a b pos) (tE g (eBin oDGet f h)) :=
  (pe_dget hu ha hb hs).imp fun σ H Q ⟨β, H0, ρ, rr, q⟩ => tE_then rr q fun d v H1 H2 st hv q1 => by
    have rr1 := rr.step st
    refine tE_then rr1 (wp_out st q1) fun d' v' H3 H4 st2 hv' q2 => ?_
    have q3 := wp_out st2 q2
    have hv2 := hv.mono st2.grow
    cases hv2 with
    | @dct p kvs ds h1 h2 =>
      have q4 : (match keyOf d' with
        | some k => match lookK ds k with
          | some v => T.ret v
          | none => .bad
        | none => .bad).wp (Out β H3 H4 Q) (g.X β H3 H4 σ) := q3
      split at q4
      · next k ek =>
        split at q4
        · next z ez =>
          obtain ⟨u, e1, e2⟩ := (h2.look k).1 z ez
          have ev := has_key hv' ek
          subst ev
          have dg := DGet.k (k := k) (st2.ext _ _ h1)
          rw [e1] at dg
          exact ⟨p, u, rfl, dg, out_ret st2.ext st2.ok st2.boxf e2 q4⟩
        · exact q4.elim
      · exact q4.elim
    | _ => exact q3.elim
theorem in_of {o : Bool → Bool} {op : D → D → T D} (hop : ∀ x kvs, op x (.dict kvs) = match keyOf x with
    | some k => .ret (.bool (o (lookK kvs k).isSome))
    | none => .bad) (hno : ∀ x y, (∀ kvs, y ≠ .dict kvs) → op x y = .bad) {σ : L2.St} {H : Hp} {Q : VK} (q : tE g (eBin op f h) σ H Q) :
    tE g f σ H fun y H1 => tE g h σ H1 fun x H2 => ∃ a r, x = .ref a ∧ DGet H2 a y r ∧ Q (.bl (o r.isSome)) H2 := by
  obtain ⟨β, H0, ρ, rr, q⟩ := q
  refine tE_then rr q fun d v H1 H2 st hv q1 => ?_
  have rr1 := rr.step st
  refine tE_then rr1 (wp_out st q1) fun d' v' H3 H4 st2 hv' q2 => ?_
  have q3 := wp_out st2 q2
  have hv2 := hv.mono st2.grow
  cases hv' with
  | @dct p kvs ds h1 h2 =>
    rw [hop] at q3
    split at q3
    · next k ek =>
      have ev := has_key hv2 ek
      subst ev
      have l := h2.look k
      have e : (valV kvs k).isSome = (lookK ds k).isSome := by
        cases hz : lookK ds k with
        | none =>
          rw [l.2 hz]
          rfl
        | some z =>
          obtain ⟨u, e1, _⟩ := l.1 z hz
          rw [e1]
          rfl
      refine ⟨p, valV kvs k, rfl, DGet.k (k := k) (st2.ext _ _ h1), ?_⟩
      rw [e]
      exact out_ret st2.ext st2.ok st2.boxf (.bl _) q3
    · exact q3.elim
  | _ =>
    rw [hno _ _ (fun _ z => by cases z)] at q3
    exact q3.elim
theorem q_dnotIn (hu : X.A.units + 1 < cLine) (ha : PE X a (tE g f)) (hb : PE X b (tE g h)) (h1 : behindInMarks .NotIn b = false) : PT X (.Compare a [.NotIn] [b] pos) (tT g (eBin oDNotIn f h)) :=
  (pt_cmp (pc_dnotin hu ha hb) h1).imp fun σ H Q ⟨β, H0, ρ, rr, q⟩ => in_of (o := fun z => !z) (op := oDNotIn) (Q := fun x H' => ∃ k, x = .bl k ∧ Q k H') (fun _ _ => rfl) (fun x y n => by cases y <;> first | rfl | exact (n _ rfl).elim) ⟨β, H0, ρ, rr, T.wp_mono (fun d hd v H1 H2 st hv => by
    obtain ⟨z, e, hq⟩ := hd
    subst e
    cases hv
    exact ⟨z, rfl, hq H1 H2 st⟩) (fun _ z => z) _ q⟩
end
/-! ### a dict is written -/
def fsOf : List (Str × (Env' → T D)) → Env' → T (List Ar)
  | [] => aNil
  | p :: r => aCons p.2 (fsOf r)
def trsOf (g : Ct) : List (Str × (Env' → T D)) → List (TE × TE)
  | [] => []
  | p :: r => (tC (.str p.1), tE g p.2) :: trsOf g r
def mkDct (ks : List Str) : Option (List D) → T D
  | some ds => if ds.length = ks.length ∧ ks.Nodup ∧ ks.length ≤ 15 then .ret (.dict ((ks.map PyData.str).zip ds)) else .bad
  | none => .bad
def eDct (l : List (Str × (Env' → T D))) : Env' → T D := fun ρ => (fsOf l ρ).bind fun as => mkDct (l.map (·.1)) (dsOf as)
theorem pairs_of {g : Ct} : ∀ (l : List (Str × (Env' → T D))) {σ : L2.St} {H H0 : Hp} {β : Box} {ρ : Env'} {Q : List (V × V) → Hp → Prop}, Rel g.cad β g.ξ H0 ρ σ H →
    (fsOf l ρ).wp (fun as => ∀ vs H0' H', Stp β H0 H H0' H' → HasAs β H0' vs as → Q ((l.map fun p => V.str p.1).zip vs) H') (g.X β H0 H σ) → tPairs (trsOf g l) σ H Q
  | [], _, _, _, _, _, _, rr, q => q [] _ _ rr.refl .nil
  | p :: l, σ, H, H0, β, ρ, Q, rr, q => by
    show tE g p.2 σ H fun y H2 => tPairs (trsOf g l) σ H2 fun ps H3 => Q ((V.str p.1, y) :: ps) H3
    have q' : ((p.2 ρ).bind fun d => (fsOf l ρ).bind fun r => T.ret (Ar.d d :: r)).wp (fun as => ∀ vs H0' H', Stp β H0 H H0' H' → HasAs β H0' vs as → Q (((p :: l).map fun p => V.str p.1).zip vs) H') (g.X β H0 H σ) := q
    refine tE_then rr q' fun d v H1 H2 st hv q1 => ?_
    have q2 := T.wp_mono (fun (as : List Ar) (h : ∀ vs H0' H', Stp β H0 H H0' H' → HasAs β H0' vs as → Q (((p :: l).map fun p => V.str p.1).zip vs) H') vs H0' H' s e => h vs H0' H' (st.trans s) e) (fun x (h : g.X β H0 H σ x) => h.step st) _ q1
    refine pairs_of l (rr.step st) (T.wp_mono (fun as h vs H0' H' s e => ?_) (fun _ z => z) _ ((T.wp_bind _ _).mp q2))
    exact h (v :: vs) H0' H' s (.cons (hv.mono s.grow) e)
theorem mergeK_nodup : ∀ (kvs acc : List (Key × V)), (acc.map (·.1) ++ kvs.map (·.1)).Nodup → mergeK acc kvs = acc ++ kvs
  | [], acc, _ => by simp [mergeK]
  | kv :: r, acc, h => by
    have e : putK acc kv.1 kv.2 = acc ++ [kv] := by
      unfold putK
      rw [if_neg]
      intro z
      obtain ⟨p, hp, hk⟩ := List.any_eq_true.mp z
      rw [List.nodup_append] at h
      exact h.2.2 p.1 (List.mem_map.mpr ⟨p, hp, rfl⟩) kv.1 (by simp) (of_decide_eq_true hk)
    show mergeK (putK acc kv.1 kv.2) r = _
    rw [e, mergeK_nodup r (acc ++ [kv]) (by simpa using h)]
    simp
theorem hasK_zip {H : Hp} : ∀ {ks : List Str} {vs : List V} {ds : List D}, HasL H vs ds → HasK H ((ks.map Sum.inr).zip vs) ((ks.map PyData.str).zip ds)
  | [], _, _, _ => by simpa using HasK.nil
  | _ :: _, _, _, .nil => by simpa using HasK.nil
  | k :: ks, _, _, .cons h r => HasK.cons (k := .inr k) h (hasK_zip (ks := ks) r)
theorem zip_keys : ∀ (ks : List Str) (vs : List V), (ks.map V.str).zip vs = ((ks.map Sum.inr).zip vs).map (fun kv : Key × V => (kV kv.1, kv.2))
  | [], _ => rfl
  | _ :: _, [] => rfl
  | k :: ks, v :: vs => by
    have ih := zip_keys ks vs
    simp only [List.map_cons, List.zip_cons_cons] at ih ⊢
    rw [ih]
    rfl
theorem r_dct {X : Cx} {g : Ct} {keys : List (Option Expr)} {values : List Expr} {pos : Pos} {l : List (Str × (Env' → T D))} (h : PPs X pos keys values (trsOf g l)) (hall : keys.all (·.isSome) = true) (hl : keys.length = values.length) (h0 : keys ≠ [])
    (h15 : keys.length ≤ 15) : PE X (.Dict keys values pos) (tE g (eDct l)) := (pe_disp h hall hl h0 h15).imp fun σ H Q ⟨β, H0, ρ, rr, q⟩ p hp => by
  have hp0 : H0 p = none := rr.ext.free hp
  have nS : ¬ β.S p := fun z => by
    obtain ⟨u, w⟩ := β.here H p rr.ok z
    rw [hp] at w
    cases w
  have jk : Stp β H0 H H0 (upd H p (.dK [])) := rr.junk hp
  refine pairs_of l (rr.step jk) (T.wp_mono (fun as z vs H1 H2 st hv => ?_) (fun _ z => z.step jk) _ ((T.wp_bind _ _).mp q))
  obtain ⟨n1, k1⟩ := st.priv p _ upd_same hp0
  have hD := k1 nS
  refine ⟨hD, ?_⟩
  unfold mkDct at z
  split at z
  · next ds e =>
    split at z
    · next c =>
      have hd := hv.ds (dsOf_some e)
      have lv : vs.length = (l.map (·.1)).length := by rw [hd.length]; exact c.1
      refine ⟨((l.map (·.1)).map Sum.inr).zip vs, ?_, ?_, ?_⟩
      · rw [← zip_keys, List.map_map]
        rfl
      · rw [List.length_zip, List.length_map]
        have := c.2.2
        omega
      · have em : mergeK [] (((l.map (·.1)).map Sum.inr).zip vs) = ((l.map (·.1)).map Sum.inr).zip vs := by
          have := mergeK_nodup (((l.map (·.1)).map Sum.inr).zip vs) [] (by
            rw [List.map_nil, List.nil_append, List.map_fst_zip (by rw [List.length_map, lv]; exact Nat.le_refl _)]
            exact List.Pairwise.map _ (fun a b hab e => hab (Sum.inr.inj e)) c.2.1)
          simpa using this
        rw [em]
        have s1 : Stp β H0 H H1 H2 := jk.trans st
        have s2 := (s1.mine (o := .dK (((l.map (·.1)).map Sum.inr).zip vs)) hp n1 nS (ncS hD ncDK)).known hp n1 nS upd_same
        exact z (.ref p) _ _ s2 (.dct upd_same (HasK.mono (fun b u w => by
          rw [upd_ne (ne_of_none w n1)]
          exact w) (hasK_zip hd)))
    · exact z.elim
  · exact z.elim
end Wb
set_option Elab.async false
set_option linter.all false
set_option maxRecDepth 100000
set_option maxHeartbeats 4000000
/-! Wb, part 25: calls without arguments, reversed, isinstance of the error that is handled. -/
namespace Wb
open PySem PySem.Spec PyProof.Rows L2 RT
section
variable {β : Box} {ρ : Env'} {l : List (Str × (Env' → T D))} {p : Str × (Env' → T D)} {x : D} {ds : List D}
@[simp] theorem ev_dct : eDct l ρ = (fsOf l ρ).bind fun as => mkDct (l.map (·.1)) (dsOf as) := rfl
@[simp] theorem ev_fs0 : fsOf [] ρ = .ret [] := rfl
@[simp] theorem ev_fsS : fsOf (p :: l) ρ = (p.2 ρ).bind fun d => (fsOf l ρ).bind fun r => .ret (.d d :: r) := rfl
@[simp] theorem ev_mkd {ks : List Str} : mkDct ks (some ds) = if ds.length = ks.length ∧ ks.Nodup ∧ ks.length ≤ 15 then .ret (.dict ((ks.map PyData.str).zip ds)) else .bad := rfl
end
theorem r_cal0 {X : Cx} {g : Ct} {x : Str} {p pos : Pos} {j k n : Nat} {m : List Ar → T D} (C : Cal X.prog X.w X.K X.mg X.base g.cad x j n m) (hr : Room k X.A) (hjk : j ≤ k) (hgu : X.A.guards = some []) (hg : Gl X x) (tk : Takes X g.W)
    (hdb : (x == ("__debug__" : Str)) = false := by decide) : PE X (.Call (.Name x p) [] [] pos) (tE g (eCall n m aNil)) := by
  obtain ⟨fa, fd, ps, F, h1, h2, h3⟩ := C.ex
  exact r_call0 F (hr.mono hjk) hgu hg h1 h2 h3 tk hdb
/-! ### reversed -/
def oRev : D → T (List D)
  | .list ds => .ret ds.reverse
  | .tuple ds => .ret ds.reverse
  | _ => .bad
def iRev (f : Env' → T D) : Env' → T (List D) := fun ρ => (f ρ).bind oRev
@[simp] theorem ev_iRev {f : Env' → T D} {ρ : Env'} : Wb.iRev f ρ = (f ρ).bind oRev := rfl
@[simp] theorem ev_revT {ds : List D} : oRev (.tuple ds) = .ret ds.reverse := rfl
@[simp] theorem ev_revL {ds : List D} : oRev (.list ds) = .ret ds.reverse := rfl
/-! ### isinstance(e, C), isinstance(e, (C, ..)), e the error that is handled -/
/-- what a class of errors says of itself -/
structure ExcQ (K : PySem.W.Frag) (D : Addr) : Prop where
  hc : (PySem.W.clsIn K D).isSome = true
  hg : PySem.W.findIn K (.ref D) "__getattribute__" = some (some (.builtin "BaseException.__getattribute__"))
  hk : PySem.W.findIn K (.ref D) "__getattr__" = some none
  hs : PySem.W.subIn K (.ref D) (.type "BaseException") = some true
  ha : PySem.W.findIn K (.ref D) "__class__" = some (some (.builtin "object.__class__"))
  hn : PySem.W.specialIn K (.builtin "object.__class__") "__get__" = some (some (.builtin "getset_descriptor.__get__"))
  ht : PySem.W.takesIn K (.builtin "object.__class__") = some true
  hm : PySem.W.mroIn K D (.type "object") = some true
/-- the error's dict, if there is one, stands -/
def DictOk (H : Hp) : Option Addr → Prop
  | none => True
  | some dd => ∃ fs, H dd = some (.xd fs)
section
variable {X : Cx} {a C : Addr} {oe : Obj} {cls : Value} {dx : Option Addr} {pn : List (Addr × Obj)}
theorem inst_of {pins : List (Addr × Obj)} {σ : L2.St} {H : Hp} {s : Shared} (I : Inv (X.suite a ((a, oe) :: pn)) pins σ H s) (hz : Zc (.ref C) dx oe) (hf : ∃ vs, oe.data = .fields vs) (hd : DictOk H dx) : ∃ od, PySem.W.InstAt s.heap a oe C od := by
  obtain ⟨ha, _⟩ := I.pin (a, oe) (List.mem_append_left _ List.mem_cons_self)
  obtain ⟨vs, hv⟩ := hf
  have hn : PySem.W.notCls oe = true := by unfold PySem.W.notCls; rw [hv] <;> rfl
  cases dx with
  | none => exact ⟨none, ha, hz.1, hn, by rw [hz.2]; trivial⟩
  | some dd =>
    obtain ⟨fs, e⟩ := hd
    have hx : ObjOk X.prog X.w H s.heap dd (.xd fs) := I.hok dd _ e
    obtain ⟨mA, hns, hr⟩ := hx
    obtain ⟨od, ho, hl⟩ := lookIn_ns hns
    exact ⟨some od, ha, hz.1, hn, by rw [hz.2]; exact ho⟩
def rIs1 (K : PySem.W.Frag) (a : Addr) (cls : Value) (dx : Option Addr) (cv : Value) : List V → Hp → VK → Prop := fun xs H Q => ∃ (c : V) (D : Addr) (b : Bool), xs = [.ref a, c] ∧ (∀ u, RelV c u → u = cv) ∧ cls = .ref D ∧ ExcQ K D ∧ DictOk H dx ∧ PySem.W.kitOne K (.ref D) cv = some b ∧ Q (.bl b) H
theorem call_is1 {cv : Value} (hz : Zc cls dx oe) (hf : ∃ vs, oe.data = .fields vs) : CallR (X.suite a ((a, oe) :: pn)) (.builtin "isinstance") (rIs1 X.K a cls dx cv) := by
  intro pins s σ H xs us Q I r h
  obtain ⟨c, D, b, rfl, hcv, ec, Z, hd, e, q⟩ := h
  subst ec
  obtain ⟨u1, u2, rfl, r1, r2⟩ := vals2 r
  cases (show u1 = Value.ref a from r1)
  have e2 := hcv _ r2
  subst e2
  obtain ⟨od, J⟩ := inst_of I hz hf hd
  exact PySem.W.kia_one (PySem.W.kitx_exc Z.hc Z.hg Z.hk Z.hs Z.ha Z.hn Z.ht Z.hm) I.kIn J e (fun z => nomatch z) fun tk => ⟨.bl b, H, I.kept (t' := tk) fun _ _ z => z, rfl, q⟩
def rIsN (K : PySem.W.Frag) (a : Addr) (cls : Value) (dx : Option Addr) : List V → Hp → VK → Prop := fun xs H Q => ∃ (tp : Addr) (cs : List V) (us : List Value) (D : Addr) (b : Bool), xs = [.ref a, .ref tp] ∧ H tp = some (.tup cs) ∧ Paired ClsV cs us ∧ cls = .ref D ∧ ExcQ K D ∧ DictOk H dx ∧ PySem.W.kitAny K (.ref D) us = some b ∧ Q (.bl b) H
theorem call_isN (hz : Zc cls dx oe) (hf : ∃ vs, oe.data = .fields vs) : CallR (X.suite a ((a, oe) :: pn)) (.builtin "isinstance") (rIsN X.K a cls dx) := by
  intro pins s σ H xs us Q I r h
  obtain ⟨tp, cs, ws, D, b, rfl, hT, k, ec, Z, hd, e, q⟩ := h
  subst ec
  obtain ⟨u1, u2, rfl, r1, r2⟩ := vals2 r
  cases (show u1 = Value.ref a from r1)
  cases (show u2 = Value.ref tp from r2)
  obtain ⟨od, J⟩ := inst_of I hz hf hd
  obtain ⟨_, its, rv, o, h1, h2, n, h3⟩ := (show ObjOk X.prog X.w H s.heap tp (.tup cs) from I.hok tp _ hT)
  have e3 := ClsV.all k rv
  subst e3
  obtain ⟨oc, od', dt, sl⟩ := o
  simp only at h2 h3
  subst h2 h3
  exact PySem.W.kia_tup (PySem.W.kitx_exc Z.hc Z.hg Z.hk Z.hs Z.ha Z.hn Z.ht Z.hm) I.kIn J h1 e (fun z => nomatch z) fun tk => ⟨.bl b, H, I.kept (t' := tk) fun _ _ z => z, rfl, q⟩
end
/-- is the error of the class, by the class's name -/
def eIsE (i : Nat) (cm : Str → Option Bool) : Env' → T D := fun ρ => match ρ[i]? with
  | some (.ex x) => match cm x.cls with
    | some b => .ret (.bool b)
    | none => .bad
  | _ => .bad
section
variable {X : Cx} {g : Ct} {i : Nat} {a : Addr} {oe : Obj} {cls : Value} {dx : Option Addr} {pn : List (Addr × Obj)} {x : Str} {p p1 pos : Pos} {c : Expr} {cm : Str → Option Bool}
theorem ex_slot {β : Box} {H0 H : Hp} {σ : L2.St} {ρ : Env'} {P : D → Prop} {E : Exn → Prop} (r : Rel g.cad β g.ξ H0 ρ σ H) (hxi : g.ξ = some (a, cls, dx)) (q : (eIsE i cm ρ).wp P E) :
    ∃ y C b, σ[i]? = some (some (.ref a)) ∧ g.cad y = some C ∧ cls = .ref C ∧ cm y = some b ∧ DictOk H dx ∧ P (.bool b) := by
  unfold eIsE at q
  split at q
  · next y hy =>
    split at q
    · next b hb =>
      have hl : i < σ.length := by
        rw [← r.len]
        exact (List.getElem?_eq_some_iff.mp hy).1
      obtain ⟨a', c', dx', e1, e2, he⟩ := r.sl i _ _ hy (List.getElem?_eq_getElem hl)
      rw [hxi] at e1
      cases e1
      obtain ⟨⟨C, hC, ec⟩, hdd⟩ := he
      refine ⟨y.cls, C, b, by rw [List.getElem?_eq_getElem hl, e2], hC, ec, hb, ?_, q⟩
      rcases hdd with ⟨_, hn⟩ | ⟨dd, vs, ed, hx, _⟩
      · rw [hn]
        trivial
      · rw [ed]
        exact ⟨_, r.ext _ _ hx⟩
    · exact q.elim
  · exact q.elim
theorem r_is1 {v : V} {cv : Value} (hq : ∀ y C, g.cad y = some C → ExcQ X.K C) (hk : ∀ y C b, g.cad y = some C → cm y = some b → PySem.W.kitOne X.K (.ref C) cv = some b) (hxi : g.ξ = some (a, cls, dx)) (hz : Zc cls dx oe) (hf : ∃ vs, oe.data = .fields vs)
    (hg : Gl (X.suite a ((a, oe) :: pn)) "isinstance") (hm : X.mg "isinstance" = none) (hp : PE (X.suite a ((a, oe) :: pn)) (.Name x p) (tVar i)) (hc : PE (X.suite a ((a, oe) :: pn)) c (tC v)) (hcv : ∀ u, RelV v u → u = cv)
    (hs : starEach [.Name x p, c] X.env = (false, eval (.Name x p) X.env) :: starEach [c] X.env := by rfl) (hs2 : starEach [c] X.env = (false, eval c X.env) :: starEach [] X.env := by rfl) (hpl : (backTo pos (starEach [c] X.env)).any (·.1) = false := by rfl) :
    PE (X.suite a ((a, oe) :: pn)) (.Call (.Name "isinstance" p1) [.Name x p, c] [] pos) (tE g (eIsE i cm)) :=
  (pe_callB (call_is1 (cv := cv) hz hf) hg hm (by decide +kernel) (pa_cons hp (pa_cons hc pa_nil hs2) hs) (by decide) (by decide) hs hpl).imp fun σ H Q ⟨β, H0, ρ, r, q⟩ => by
    obtain ⟨y, C, b, e1, hC, ec, hb, hd, q1⟩ := ex_slot r hxi q
    exact ⟨.ref a, e1, v, C, b, rfl, hcv, ec, hq y C hC, hd, hk y C b hC hb, q1 _ H0 H r.refl (.bl b)⟩
theorem r_isN {tcs : TA} {cs : List V} {us : List Value} (hq : ∀ y C, g.cad y = some C → ExcQ X.K C) (hk : ∀ y C b, g.cad y = some C → cm y = some b → PySem.W.kitAny X.K (.ref C) us = some b) (hxi : g.ξ = some (a, cls, dx)) (hz : Zc cls dx oe) (hf : ∃ vs, oe.data = .fields vs)
    (hg : Gl (X.suite a ((a, oe) :: pn)) "isinstance") (hm : X.mg "isinstance" = none) (hp : PE (X.suite a ((a, oe) :: pn)) (.Name x p) (tVar i)) (hc : PE (X.suite a ((a, oe) :: pn)) c (tTup tcs)) (hct : ∀ σ H (Q : List V → Hp → Prop), Q cs H → tcs σ H Q) (hlen : cs.length ≤ 100) (hcv : Paired ClsV cs us)
    (hs : starEach [.Name x p, c] X.env = (false, eval (.Name x p) X.env) :: starEach [c] X.env := by rfl) (hs2 : starEach [c] X.env = (false, eval c X.env) :: starEach [] X.env := by rfl) (hpl : (backTo pos (starEach [c] X.env)).any (·.1) = false := by rfl) :
    PE (X.suite a ((a, oe) :: pn)) (.Call (.Name "isinstance" p1) [.Name x p, c] [] pos) (tE g (eIsE i cm)) :=
  (pe_callB (call_isN hz hf) hg hm (by decide +kernel) (pa_cons hp (pa_cons hc pa_nil hs2) hs) (by decide) (by decide) hs hpl).imp fun σ H Q ⟨β, H0, ρ, r, q⟩ => by
    obtain ⟨y, C, b, e1, hC, ec, hb, hd, q1⟩ := ex_slot r hxi q
    refine ⟨.ref a, e1, hct _ _ _ ⟨lim_line (by omega), fun tp htp => ?_⟩⟩
    have hd' : DictOk (upd H tp (.tup cs)) dx := by
      cases dx with
      | none => trivial
      | some dd =>
        obtain ⟨fs, e⟩ := hd
        exact ⟨fs, by rw [upd_ne (ne_of_none e htp)]; exact e⟩
    exact ⟨tp, cs, us, C, b, rfl, upd_same, hcv, ec, hq y C hC, hd', hk y C b hC hb, q1 _ H0 _ (r.junk htp) (.bl b)⟩
end
theorem look_all {l : List (Str × Addr)} {P : Addr → Prop} (h : ∀ p ∈ l, P p.2) (x : Str) (C : Addr) (e : l.lookup x = some C) : P C := by
  induction l with
  | nil => cases e
  | cons p l ih =>
    rw [List.lookup_cons] at e
    cases q : x == p.1 with
    | true =>
      rw [q] at e
      cases e
      exact h p (List.mem_cons_self ..)
    | false =>
      rw [q] at e
      exact ih (fun p' hp => h p' (List.mem_cons_of_mem _ hp)) e
theorem cm_gen {l : List (Str × Addr × Bool)} {P : Addr → Bool → Prop} (h : ∀ p ∈ l, P p.2.1 p.2.2) (x : Str) (C : Addr) (b : Bool) (h1 : (l.map fun p => (p.1, p.2.1)).lookup x = some C) (h2 : (l.map fun p => (p.1, p.2.2)).lookup x = some b) : P C b := by
  induction l with
  | nil => cases h1
  | cons p l ih =>
    rw [List.map_cons, List.lookup_cons] at h1 h2
    cases q : x == p.1 with
    | true =>
      rw [q] at h1 h2
      cases h1
      cases h2
      exact h p (List.mem_cons_self ..)
    | false =>
      rw [q] at h1 h2
      exact ih (fun p' hp => h p' (List.mem_cons_of_mem _ hp)) h1 h2
/-- a def that is not called -/
theorem FnG.none {P : Program} {w : World} {K : PySem.W.Frag} {mg : Str → Option Value} {base : Heap} {cad : Cad} {k : Nat} {fa : Addr} {fd : FuncData} {ps : List Str} : FnG P w K mg base k fa fd ps (spD cad ps.length fun _ => .bad) :=
  ⟨fun _ _ _ _ h => h.1, fun _ _ _ _ _ _ _ _ _ _ _ _ _ _ h => by
    obtain ⟨_, _, _, _, _, _, _, _, _, q⟩ := h
    exact q.elim⟩
end Wb
set_option Elab.async false
set_option linter.all false
set_option maxRecDepth 100000
set_option maxHeartbeats 4000000
/-! Wb, part 26: x[::-1] of a tuple or a list. -/
namespace Wb
open PySem PySem.Spec PyProof.Rows L2 HT
section
variable {prog : Program} {w : World} {A : Around} {E : Value → Shared → Prop} {s : Shared}
theorem places_rev (n : Nat) : Builtin.Slice.slicePlaces ((n : Int) - 1) (-1) (-1) = n := by
  unfold Builtin.Slice.slicePlaces
  have h1 : ¬ ((-1 : Int) > 0) := by omega
  rw [if_neg h1]
  have e : -(-1 : Int) = 1 := by omega
  simp only [e, Int.ediv_one]
  split <;> omega
theorem sliceApplied_rev {sl : Addr} {vl vu vs : Value} {n : Nat} {Q : Int × Int × Nat → Shared → Prop} (hs : s.heap.IsSliceOf sl vl vu vs) (pl : IsPart vl none) (pu : IsPart vu none) (ps : IsPart vs (some (-1)))
    (h : Q ((n : Int) - 1, -1, n) s) : wpAny (model prog w) A (Builtin.Slice.sliceApplied (.ref sl) (pure (n : Int))) Q E s := by
  obtain ⟨os, hos, hcs, hds⟩ := id hs
  unfold Builtin.Slice.sliceApplied Builtin.Slice.sliceFields
  refine wpAny_bind (wpAny_bind (wpAny_field hos hds (x := vl) rfl (wpAny_bind (wpAny_field hos hds (x := vu) rfl (wpAny_bind (wpAny_field hos hds (x := vs) rfl (wpAny_pure ?_)))))))
  refine wpAny_bind (slicePart_ ps ?_)
  show wpAny _ _ (if ((-1 : Int) == 0) = true then _ else _) _ _ s
  rw [if_neg (by decide)]
  refine wpAny_bind (slicePart_ pl (wpAny_bind (slicePart_ pu (wpAny_bind (wpAny_pure ?_)))))
  show wpAny _ _ (pure ((n : Int) - 1, (-1 : Int), Builtin.Slice.slicePlaces ((n : Int) - 1) (-1) (-1))) _ _ s
  rw [places_rev]
  exact wpAny_pure h
theorem pick_back (xs : List Value) : ∀ k : Nat, k ≤ xs.length → ((List.range k).filterMap fun (m : Nat) => xs[(((xs.length : Nat) : Int) - 1 + (m : Int) * -1).toNat]?) = xs.reverse.take k
  | 0, _ => by simp
  | k + 1, h => by
    rw [List.range_succ, List.filterMap_append, pick_back xs k (by omega)]
    have e : (((xs.length : Nat) : Int) - 1 + (k : Int) * -1).toNat = xs.length - 1 - k := by omega
    have hk : xs.length - 1 - k < xs.length := by omega
    rw [List.take_succ, List.getElem?_reverse (by omega)]
    congr 1
    simp only [List.filterMap_cons, List.filterMap_nil, e, List.getElem?_eq_getElem hk]
    rfl
theorem pick_rev (xs : Array Value) : ((List.range xs.size).filterMap fun (m : Nat) => xs[(((xs.size : Nat) : Int) - 1 + (m : Int) * -1).toNat]?).toArray = xs.toList.reverse.toArray := by
  have h := pick_back xs.toList xs.toList.length (Nat.le_refl _)
  have e : xs.toList.reverse.take xs.toList.length = xs.toList.reverse := by rw [List.take_of_length_le (by simp)]
  rw [e] at h
  rw [← h]
  simp
theorem getItem_tuple_rev {t sl : Addr} {items : Array Value} {vl vu vs : Value} {Q : Value → Shared → Prop} (ht : IsTup s.heap t items) (hs : s.heap.IsSliceOf sl vl vu vs) (pl : IsPart vl none) (pu : IsPart vu none) (ps : IsPart vs (some (-1)))
    (h : Q (.ref s.heap.objs.size) { s with heap := s.heap.push { cls := .type "tuple", data := .seq items.toList.reverse.toArray } })
    (hsz : items.size ≤ sizeLine) : wpAny (model prog w) A (getItem (.ref t) (.ref sl)) Q E s := by
  have htake : sizeOk (.seq items.toList.reverse.toArray) := by
    show items.toList.reverse.toArray.size ≤ sizeLine
    rw [List.size_toArray, List.length_reverse, Array.length_toList]
    omega
  obtain ⟨os, hos, hcs, hds⟩ := id hs
  have hTs : s.TypeIs (.ref sl) "slice" := ⟨os, hos, hcs⟩
  unfold getItem
  try with_reducible refine wpAny_holding ?_
  first | refine wpAny_bind (wpAny_pure ?_) | skip
  refine wpAny_bind (wpAny_sequenceKey ht.typeIs (by decide) ?_)
  refine wpAny_bind (wpAny_callSpecial?_slot (name := Str.ofString "__getitem__") ht.typeIs PyProof.Rows.slot_tuple_getitem
    (wpAny_call_entry PyProof.Rows.slot_tuple_getitem ht.typeIs entry_tuple_getitem ?_ (args_tuple_getitem _ _)))
  show wpAny _ _ (Builtin.Tuple.tupleItemsOf (.ref t) >>= _) _ _ s
  refine wpAny_bind (tupleItemsOf_ ht ?_)
  refine wpAny_bind (wpAny_typeOf hTs ?_)
  rw [if_pos (by decide)]
  refine wpAny_bind (sliceApplied_rev hs pl pu ps ?_)
  have hno : ¬ ((((items.size : Int) - 1) == 0 && (-1 : Int) == 1 && items.size == items.size) = true) := by
    rw [show ((-1 : Int) == 1) = false from rfl]
    simp
  show wpAny _ _ (if (((items.size : Int) - 1) == 0 && (-1 : Int) == 1 && items.size == items.size) = true then _ else _) _ _ s
  rw [if_neg hno, pick_rev]
  first
    | exact wpAny_bind (m := Builtin.Tuple.tupleExact _) (wpAny_newObj_type (wpAny_pure ⟨_, rfl, wpAny_pure h⟩) htake)
    | exact wpAny_bind (m := Builtin.Tuple.tupleExact _) (wpAny_newObj_type (wpAny_bind (wpAny_pure (wpAny_pure ⟨_, rfl, wpAny_pure h⟩))) htake)
    | exact wpAny_bind (wpAny_bind (m := Builtin.Tuple.tupleExact _) (wpAny_newObj_type (wpAny_pure (wpAny_pure ⟨_, rfl, wpAny_pure h⟩)) htake))
    | exact wpAny_bind (wpAny_bind (m := Builtin.Tuple.tupleExact _) (wpAny_newObj_type (wpAny_pure ⟨_, rfl, wpAny_pure h⟩) htake))
end
section
variable {X : Cx}
def tRevA (K : PySem.W.Frag) (te : TE) : TE := fun σ H Q => te σ H fun x H1 =>
  (∃ a xs, x = .ref a ∧ SqL K H1 a xs ∧ ∀ p, H1 p = none → Q (.ref p) (upd H1 p (.lst xs.reverse))) ∨
  (∃ a xs, x = .ref a ∧ SqT K H1 a xs ∧ QT Q H1 xs.reverse)
theorem pe_revA {e : Expr} {te : TE} {k : Nat} {p1 p2 p3 pos : Pos} (he : PE X e te) : PE X (.Subscript e (.Slice none none (some (.UnaryOp .USub (.Constant (.int 1) k p1) p2)) p3) pos) (tRevA X.K te) := by
  refine ⟨fun pins s σ H Q I h => ?_⟩
  refine Subscript_ (thn (he.run pins s σ H _ I h) fun v s1 ⟨x, H1, I1, r1, q1⟩ => ?_)
  have hst : PO X (some (.UnaryOp .USub (.Constant (.int 1) k p1) p2)) (tPart (tUn (rU fun i => .int (-i)) (tC (.int 1)))) := po_some (pe_un un_neg pe_int)
  refine wpAny_Slice (thn (po_none.run pins s1 σ H1 (fun o H2 => o = none ∧ H2 = H1) I1 ⟨rfl, rfl⟩) fun vl s2 ⟨l, H2, I2, pl, el, e2⟩ => ?_)
  subst el e2
  refine thn (po_none.run pins s2 σ H2 (fun o H3 => o = none ∧ H3 = H2) I2 ⟨rfl, rfl⟩) fun vu s3 ⟨u, H3, I3, pu, eu, e3⟩ => ?_
  subst eu e3
  refine thn (hst.run pins s3 σ H3 (fun o H4 => o = some (-1) ∧ H4 = H3) I3 ⟨1, rfl, -1, rfl, rfl, rfl⟩) fun vs s4 ⟨o, H4, I4, ps, eo, e4⟩ => ?_
  subst eo e4
  have I5 : Inv X pins σ H4 { s4 with heap := s4.heap.push { cls := .type "slice", data := .fields #[vl, vu, vs] } } := I4.kept (t' := s4.toks) fun b ob q => Heap.get?_push_of_some _ q
  rcases q1 with ⟨a, xs, ex, hx, q⟩ | ⟨a, xs, ex, hx, q⟩
  · subst ex
    cases r1
    obtain ⟨its, r, ht, hz⟩ := I5.list hx
    have hlen := r.length
    show wpAny (model X.prog X.w) X.A (subscriptTail e (.Slice none none (some (.UnaryOp .USub (.Constant (.int 1) k p1) p2)) p3) (.ref a) (.ref s4.heap.objs.size)) (EP X pins σ Q) X.xe { s4 with heap := s4.heap.push { cls := .type "slice", data := .fields #[vl, vu, vs] } }
    refine tail_any (ops := [.ref a, .ref s4.heap.objs.size]) ht.isList.typeIs (PySem.slot_list_getitem.lookup) ?_ (by with_unfolding_all rfl)
    refine wpAny_getItem_list_slice ht.isList (Heap.IsSliceOf.new _ vl vu vs) pl pu ps (by decide) ?_ (by rw [List.size_toArray]; omega)
    rw [PySem.W.krv_pick]
    refine ⟨.ref _, _, I5.laid (t' := s4.toks) (o := .lst xs.reverse) (fun b ob q => Heap.get?_push_of_some _ q) (Nat.le_refl _) ?_, rfl, q _ (I5.hok.fresh (Nat.le_refl _))⟩
    exact ⟨by rw [List.length_reverse]; exact hz, _, 0, r.reverse, Heap.get?_push_size _ rfl⟩
  · subst ex
    cases r1
    obtain ⟨its, r, ht, hz⟩ := I5.tuple hx
    have hlen := r.length
    show wpAny (model X.prog X.w) X.A (subscriptTail e (.Slice none none (some (.UnaryOp .USub (.Constant (.int 1) k p1) p2)) p3) (.ref a) (.ref s4.heap.objs.size)) (EP X pins σ Q) X.xe { s4 with heap := s4.heap.push { cls := .type "slice", data := .fields #[vl, vu, vs] } }
    refine tail_any (ops := [.ref a, .ref s4.heap.objs.size]) ht.typeIs (PyProof.Rows.slot_tuple_getitem.lookup) ?_ (by with_unfolding_all rfl)
    refine getItem_tuple_rev ht (Heap.IsSliceOf.new _ vl vu vs) pl pu ps ?_ (by rw [List.size_toArray]; omega)
    exact new_tup I5 r.reverse (by rw [List.length_reverse]; exact hz) q
end
theorem HasL.rev {H : Hp} : ∀ {vs : List V} {ds : List D}, HasL H vs ds → HasL H vs.reverse ds.reverse
  | _, _, .nil => .nil
  | _, _, .cons h r => by
    rw [List.reverse_cons, List.reverse_cons]
    exact (HasL.rev r).append (.cons h .nil)
def oRevS : D → T D
  | .list xs => .ret (.list xs.reverse)
  | .tuple xs => .ret (.tuple xs.reverse)
  | _ => .bad
def eRevS (f : Env' → T D) : Env' → T D := fun ρ => (f ρ).bind oRevS
theorem r_revS {X : Cx} {g : Ct} {f : Env' → T D} {a : Expr} {k : Nat} {p1 p2 p3 pos : Pos} (ha : PE X a (tE g f)) : PE X (.Subscript a (.Slice none none (some (.UnaryOp .USub (.Constant (.int 1) k p1) p2)) p3) pos) (tE g (eRevS f)) :=
  (pe_revA ha).imp fun σ H Q ⟨β, H0, ρ, rr, q⟩ => tE_then rr q fun d v H1 H2 st hv q1 => by
    cases hv with
    | lst h1 h2 => exact .inl ⟨_, _, rfl, SqL.of (st.ext _ _ h1), fun p hp => wp_out st q1 (.ref p) _ _ (Stp.new st.ext st.ok st.boxf hp) (.lst upd_same (upd_has (st.ext.free hp) h2.rev))⟩
    | tup h1 hdn h2 => exact .inr ⟨_, _, rfl, sqF (st.ext _ _ h1), fun p o hp hz => wp_out st q1 (.ref p) _ _ (Stp.new st.ext st.ok st.boxf hp) (.tup upd_same hz (upd_has (st.ext.free hp) h2.rev))⟩
    | _ => exact q1.elim
@[simp] theorem ev_revS {f : Env' → T D} {ρ : Env'} : eRevS f ρ = (f ρ).bind oRevS := rfl
@[simp] theorem oRevS_list {xs : List D} : oRevS (.list xs) = .ret (.list xs.reverse) := rfl
@[simp] theorem oRevS_tup {xs : List D} : oRevS (.tuple xs) = .ret (.tuple xs.reverse) := rfl
/-! ### list.count -/
def oCnt (x y : D) : T D := match x with
  | .list ds => if (cEq y && cEq (.list ds)) = true then .ret (.int ((ds.countP fun z => PyData.eqv z y : Nat) : Int)) else .bad
  | _ => .bad
def kCnt (h : Env' → T D) (ρ : Env') : D → T D
  | .list ds => (h ρ).bind fun y => oCnt (.list ds) y
  | _ => .bad
def eCnt (f h : Env' → T D) : Env' → T D := fun ρ => (f ρ).bind fun x => kCnt h ρ x
@[simp] theorem ev_cnt {f h : Env' → T D} {ρ : Env'} : eCnt f h ρ = (f ρ).bind fun x => kCnt h ρ x := rfl
@[simp] theorem kCnt_list {h : Env' → T D} {ρ : Env'} {ds : List D} : kCnt h ρ (.list ds) = (h ρ).bind fun y => oCnt (.list ds) y := rfl
@[simp] theorem oCnt_list {ds : List D} {y : D} : oCnt (.list ds) y = if (cEq y && cEq (.list ds)) = true then .ret (.int ((ds.countP fun z => PyData.eqv z y : Nat) : Int)) else .bad := rfl
theorem pe_cls {X : Cx} {x : Str} {a : Addr} {pos : Pos} (hg : Gl X x) (hm : X.mg x = some (.ref a)) (hdb : (x == ("__debug__" : Str)) = false := by decide) : PE X (.Name x pos) (tC (.ref a)) :=
  pe_glob (v := .ref a) (u := .ref a) hg hm rfl hdb
end Wb
set_option Elab.async false
set_option linter.all false
set_option maxRecDepth 100000
set_option maxHeartbeats 4000000
/-! Wb, part 27: a list of one's own out of two lists; dicts of the module, texts to numbers. -/
namespace Wb
open PySem PySem.Spec PyProof.Rows L2
def oCatL (x y : D) : T (List D) := match x with
  | .list xs => match y with
    | .list ys => if xs.length + ys.length ≤ 1000000 then .ret (xs ++ ys) else .bad
    | _ => .bad
  | _ => .bad
def lAdd (f h : Env' → T D) : Env' → T (List D) := fun ρ => (f ρ).bind fun x => (h ρ).bind fun y => oCatL x y
@[simp] theorem oCatL_list {xs ys : List D} : oCatL (.list xs) (.list ys) = if xs.length + ys.length ≤ 1000000 then .ret (xs ++ ys) else .bad := rfl
@[simp] theorem ev_lAdd {f h : Env' → T D} {ρ : Env'} : lAdd f h ρ = (f ρ).bind fun x => (h ρ).bind fun y => oCatL x y := rfl
section
variable {X : Cx} {g : Ct} {a b : Expr} {f h : Env' → T D} {pos : Pos} {st : Stmt}
theorem s_ownCat {i : Nat} (hs : PS X st (tAsg (tOp rCat (tE g f) (tE g h)) (gName i))) : PS X st (tS g (sOwn i (lAdd f h))) := hs.imp fun E σ H ⟨β, A, B, C, H0, ρ, r, q⟩ => by
  unfold sOwn lAdd at q
  rw [T.lift_bind] at q
  refine tE_lift r q fun d v H1 H2 s hv q1 => ?_
  rw [T.lift_bind] at q1
  have r1 := r.step s
  refine tE_lift r1 q1 fun d' v' H3 H4 s2 hv' q2 => ?_
  have r2 := r1.step s2
  have hv2 := hv.mono s2.grow
  cases hv2 with
  | @lst p xs ds h1 h2 =>
    cases hv' with
    | @lst p' ys es h3 h4 =>
      have q2 : (((if ds.length + es.length ≤ 1000000 then T.ret (ds ++ es) else T.bad : T (List D))).lift ρ fun ds => .ret (Fl.nx (ρ.set i (.own ds)))).wp (FlOut g β A B C E) noE := q2
      by_cases z : ds.length + es.length ≤ 1000000
      · rw [if_pos z] at q2
        have l1 := h2.length
        have l2 := h4.length
        refine ⟨p, p', xs, ys, rfl, rfl, s2.ext _ _ h1, s2.ext _ _ h3, lim_line (by omega), fun p2 hp => ?_⟩
        obtain ⟨f1, f2, f3, f4⟩ := r2.fresh hp
        have r3 := r2.step (r2.rel.junk (o := .lst (xs ++ ys)) hp)
        exact q2 _ H3 _ (r3.setOwn f1 upd_same (h2.append h4) f2 f3 fun j ys q _ a b => f4 (r2.rel.junk hp) j ys q a b)
      · rw [if_neg z] at q2
        exact q2.elim
    | _ => exact q2.elim
  | _ => exact q2.elim
end
/-! ### a dict of the module -/
def EntI : List DictEntry → List (Str × Int) → Prop
  | [], [] => True
  | e :: r, p :: s => (∃ t, e.key = .str p.1 t) ∧ (∃ t, e.val = .int p.2 t) ∧ EntI r s
  | _, _ => False
structure KdI (K : PySem.W.Frag) (w : World) (d : Addr) (kvs : List (Str × Int)) : Prop where
  ex : ∃ es n, K.lookup d = some ⟨.type "dict", none, .dict es n, #[]⟩ ∧ PySem.W.KeysLit w.params es.toList ∧ EntI es.toList kvs
  low : (d == sysModules) = false
theorem EntI.find (z : Str) : ∀ {es : List DictEntry} {kvs : List (Str × Int)}, EntI es kvs →
    (match es.find? (·.key.isStr z) with
      | some e => (some (some e.val) : Option (Option Value))
      | none => if es.any (·.refKey) then none else some none) = (match kvs.lookup z with
      | some i => (match es.find? (·.key.isStr z) with | some e => some (some e.val) | none => none)
      | none => some none) ∧ (∀ i, kvs.lookup z = some i → ∃ e t, es.find? (·.key.isStr z) = some e ∧ e.val = .int i t) ∧ es.any (·.refKey) = false
  | [], [], _ => ⟨rfl, (fun _ h => by cases h), rfl⟩
  | e :: r, p :: s, ⟨⟨t, h1⟩, ⟨u, h2⟩, h3⟩ => by
    obtain ⟨i1, i2, i3⟩ := EntI.find z h3
    have ek : e.key.isStr z = (z == p.1) := by
      rw [h1]
      show (p.1 == z) = (z == p.1)
      exact Bool.eq_iff_iff.mpr ⟨fun q => by rw [beq_iff_eq] at q ⊢; exact q.symm, fun q => by rw [beq_iff_eq] at q ⊢; exact q.symm⟩
    have rk : e.refKey = false := by
      unfold DictEntry.refKey
      rw [h1]
    have an : (e :: r).any (·.refKey) = false := by simp [rk, i3]
    cases hz : z == p.1 with
    | true =>
      have ek' : e.key.isStr z = true := ek.trans hz
      have f1 : (e :: r).find? (·.key.isStr z) = some e := by simp [List.find?, ek']
      have f2 : (p :: s).lookup z = some p.2 := by
        obtain ⟨p1, p2⟩ := p
        simp only [List.lookup]
        simp only at hz
        rw [hz]
      refine ⟨by rw [f1, f2], fun i hi => ?_, an⟩
      rw [f2] at hi
      cases hi
      exact ⟨e, u, f1, h2⟩
    | false =>
      have ek' : e.key.isStr z = false := ek.trans hz
      have f1 : (e :: r).find? (·.key.isStr z) = r.find? (·.key.isStr z) := by simp [List.find?, ek']
      have f2 : (p :: s).lookup z = s.lookup z := by
        obtain ⟨p1, p2⟩ := p
        simp only [List.lookup]
        simp only at hz
        rw [hz]
      rw [f1, f2, an]
      rw [i3] at i1
      exact ⟨i1, i2, rfl⟩
theorem KdI.ns {K : PySem.W.Frag} {w : World} {d : Addr} {kvs : List (Str × Int)} (h : KdI K w d kvs) (z : Str) :
    (kvs.lookup z = none → PySem.W.nsIn K d z = some none) ∧ ∀ i, kvs.lookup z = some i → ∃ t, PySem.W.nsIn K d z = some (some (.int i t)) := by
  obtain ⟨es, n, h1, h2, h3⟩ := h.ex
  obtain ⟨i1, i2, i3⟩ := EntI.find z h3
  have e : PySem.W.nsIn K d z = (match es.toList.find? (·.key.isStr z) with
      | some e => some (some e.val)
      | none => if es.toList.any (·.refKey) then none else some none) := by
    unfold PySem.W.nsIn
    simp only [h1]
    cases es.toList.find? (·.key.isStr z) <;> rfl
  refine ⟨fun q => ?_, fun i q => ?_⟩
  · rw [e, i1, q]
    all_goals rfl
  · obtain ⟨en, t, f1, f2⟩ := i2 i q
    refine ⟨t, ?_⟩
    rw [e, f1]
    show some (some en.val) = _
    rw [f2]
/-- x in the dict -/
def oKIn (kvs : List (Str × Int)) : D → T D
  | .str z => .ret (.bool (kvs.lookup z).isSome)
  | _ => .bad
def oKNotIn (kvs : List (Str × Int)) : D → T D
  | .str z => .ret (.bool (!(kvs.lookup z).isSome))
  | _ => .bad
/-- d[x] -/
def oKGet (kvs : List (Str × Int)) : D → T D
  | .str z => match kvs.lookup z with
    | some i => .ret (.int i)
    | none => .bad
  | _ => .bad
section
variable {X : Cx} {g : Ct} {a b : Expr} {f h : Env' → T D} {pos p : Pos} {x : Str} {d : Addr} {kvs : List (Str × Int)}
theorem KdI.kd (h : KdI X.K X.w d kvs) : ∃ es n, L2.KDict X.K X.w d es n := by
  obtain ⟨es, n, h1, h2, h3⟩ := h.ex
  exact ⟨es, n, h1, h2, h.low⟩
theorem r_kin (D : KdI X.K X.w d kvs) (hg : Gl X x) (hm : X.mg x = some (.ref d)) (ha : PE X a (tE g f)) (hdb : (x == ("__debug__" : Str)) = false := by decide) : PE X (.Compare a [.In] [.Name x p] pos) (tE g (eUn (oKIn kvs) f)) := by
  obtain ⟨es, n, K⟩ := D.kd
  refine (pe_cmpR (op_in_kd K) ha (pe_glob (v := .ref d) hg hm rfl hdb) rfl).imp fun σ H Q ⟨β, H0, ρ, rr, q⟩ => tE_then rr q fun dd v H1 H2 st hv q1 => ?_
  cases hv with
  | str z =>
    obtain ⟨n1, n2⟩ := D.ns z
    have q1 : (T.ret (PyData.bool (kvs.lookup z).isSome)).wp (Out β H0 H Q) (g.X β H0 H σ) := q1
    cases e : kvs.lookup z with
    | none =>
      rw [e] at q1
      exact ⟨z, none, rfl, rfl, n1 e, q1 (.bl false) H1 H2 st (.bl _)⟩
    | some i =>
      rw [e] at q1
      obtain ⟨t, n3⟩ := n2 i e
      exact ⟨z, _, rfl, rfl, n3, q1 (.bl true) H1 H2 st (.bl _)⟩
  | _ => exact q1.elim
theorem r_kget (D : KdI X.K X.w d kvs) (hg : Gl X x) (hm : X.mg x = some (.ref d)) (ha : PE X a (tE g f)) (hs : PlainIx a) (hdb : (x == ("__debug__" : Str)) = false := by decide) : PE X (.Subscript (.Name x p) a pos) (tE g (eUn (oKGet kvs) f)) := by
  obtain ⟨es, n, h1, h2, h3⟩ := D.ex
  refine (pe_ix ix_kdict (pe_glob (v := .ref d) hg hm rfl hdb) ha hs).imp fun σ H Q ⟨β, H0, ρ, rr, q⟩ => tE_then rr q fun dd v H1 H2 st hv q1 => ?_
  cases hv with
  | str z =>
    have q1 : (match kvs.lookup z with | some i => T.ret (PyData.int i) | none => .bad).wp (Out β H0 H Q) (g.X β H0 H σ) := q1
    cases e : kvs.lookup z with
    | none =>
      rw [e] at q1
      exact q1.elim
    | some i =>
      rw [e] at q1
      obtain ⟨t, n3⟩ := (D.ns z).2 i e
      exact ⟨d, z, .int i, rfl, rfl, ⟨es, n, _, h1, h2, n3, ⟨_, rfl⟩⟩, q1 (.int i) H1 H2 st (.int _)⟩
  | _ => exact q1.elim
end
@[simp] theorem oKIn_str {kvs : List (Str × Int)} {z : Str} : oKIn kvs (.str z) = .ret (.bool (kvs.lookup z).isSome) := rfl
@[simp] theorem oKGet_str {kvs : List (Str × Int)} {z : Str} : oKGet kvs (.str z) = (match kvs.lookup z with | some i => .ret (.int i) | none => .bad) := rfl
end Wb
set_option Elab.async false
set_option linter.all false
set_option maxRecDepth 100000
set_option maxHeartbeats 4000000
/-! Wb, part 28: == and != with an empty tuple or list, whatever the other one holds. -/
namespace Wb
open PySem PySem.Spec PyProof.Rows L2
/-- two tuples or two lists, the second one empty -/
def rNil (K : PySem.W.Frag) (f : Bool → Bool) : R2 := fun x y H Q => ∃ a b xs, x = .ref a ∧ y = .ref b ∧ ((SqT K H a xs ∧ SqT K H b []) ∨ (SqL K H a xs ∧ SqL K H b [])) ∧ Q (.bl (f xs.isEmpty)) H
theorem nil_case {X : Cx} {pins : List (Addr × Obj)} {s : Shared} {σ : L2.St} {H : Hp} (I : Inv X pins σ H s) {a b : Addr} {xs : List V} (h : (SqT X.K H a xs ∧ SqT X.K H b []) ∨ (SqL X.K H a xs ∧ SqL X.K H b [])) :
    ∃ its : List Value, its.isEmpty = xs.isEmpty ∧ ((s.heap.IsTuple a its.toArray ∧ s.heap.IsTuple b #[]) ∨ (s.heap.IsList a its.toArray ∧ s.heap.IsList b #[])) := by
  rcases h with ⟨h1, h2⟩ | ⟨h1, h2⟩
  · obtain ⟨its, r1, p1, _⟩ := I.tuple h1
    obtain ⟨its2, r2, p2, _⟩ := I.tuple h2
    cases r2
    obtain ⟨o, e1, e2, n, e3⟩ := p1
    obtain ⟨o', f1, f2, n', f3⟩ := p2
    refine ⟨its, ?_, .inl ⟨⟨o, e1, e2, n, e3⟩, ⟨o', f1, f2, n', f3⟩⟩⟩
    cases r1 <;> rfl
  · obtain ⟨its, r1, p1, _⟩ := I.list h1
    obtain ⟨its2, r2, p2, _⟩ := I.list h2
    cases r2
    refine ⟨its, ?_, .inr ⟨p1.isList, p2.isList⟩⟩
    cases r1 <;> rfl
theorem op_eqNil {X : Cx} (hu : X.A.units + 64 < cLine) : OpR X (compareOp .Eq) (rNil X.K id) := by
  intro pins s σ H x y v u Q I rx ry h
  obtain ⟨a, b, xs, rfl, rfl, hh, q⟩ := h
  cases (show v = Value.ref a from rx)
  cases (show u = Value.ref b from ry)
  obtain ⟨its, ei, hi⟩ := nil_case I hh
  rw [← ei] at q
  have hu' : X.A.units < cLine := by omega
  rcases hi with ⟨h1, h2⟩ | ⟨h1, h2⟩
  · have r := SeqAt.RcAt.tuples (A := X.A) (s := s) (e := fun _ => true) h1 h2 hu' (fun j j1 j2 => absurd j2 (by simp))
    have eb : ((List.range (min its.toArray.size (#[] : Array Value).size)).all (fun _ => true) && its.toArray.size == (#[] : Array Value).size) = its.isEmpty := by
      cases its <;> simp
    rw [eb] at r
    exact r X.prog X.w _ _ ⟨.bl its.isEmpty, H, I, rfl, q⟩
  · cases its with
    | nil =>
      have r := SeqAt.RcAt.lists (A := X.A) (s := s) (e := fun _ => true) h1 h2 rfl hu' (fun j j1 j2 => absurd j2 (by simp))
      have eb : (List.range (([] : List Value).toArray.size)).all (fun _ => true) = true := by simp
      rw [eb] at r
      exact r X.prog X.w _ _ ⟨.bl true, H, I, rfl, q⟩
    | cons z zs =>
      have r := SeqAt.RcAt.lists_lengths (A := X.A) (s := s) h1 h2 (by simp) hu'
      exact r X.prog X.w _ _ ⟨.bl false, H, I, rfl, q⟩
theorem op_neNil {X : Cx} (hu : X.A.units + 64 < cLine) : OpR X (compareOp .NotEq) (rNil X.K not) := by
  intro pins s σ H x y v u Q I rx ry h
  obtain ⟨a, b, xs, rfl, rfl, hh, q⟩ := h
  cases (show v = Value.ref a from rx)
  cases (show u = Value.ref b from ry)
  obtain ⟨its, ei, hi⟩ := nil_case I hh
  rw [← ei] at q
  have hu' : X.A.units < cLine := by omega
  rcases hi with ⟨h1, h2⟩ | ⟨h1, h2⟩
  · have r := SeqAt.RcNeAt.tuples (A := X.A) (s := s) (e := fun _ => true) h1 h2 hu' (fun j j1 j2 => absurd j2 (by simp))
    have eb : ((List.range (min its.toArray.size (#[] : Array Value).size)).all (fun _ => true) && its.toArray.size == (#[] : Array Value).size) = its.isEmpty := by
      cases its <;> simp
    rw [eb] at r
    exact r X.prog X.w _ _ ⟨.bl (!its.isEmpty), H, I, rfl, q⟩
  · cases its with
    | nil =>
      have r := SeqAt.RcNeAt.lists (A := X.A) (s := s) (e := fun _ => true) h1 h2 rfl hu' (fun j j1 j2 => absurd j2 (by simp))
      have eb : (List.range (([] : List Value).toArray.size)).all (fun _ => true) = true := by simp
      rw [eb] at r
      exact r X.prog X.w _ _ ⟨.bl false, H, I, rfl, q⟩
    | cons z zs =>
      have r := SeqAt.RcNeAt.lists_lengths (A := X.A) (s := s) h1 h2 (by simp) hu'
      exact r X.prog X.w _ _ ⟨.bl true, H, I, rfl, q⟩
def oEqN (x y : D) : T D := match x, y with
  | .tuple xs, .tuple [] => .ret (.bool xs.isEmpty)
  | .list xs, .list [] => .ret (.bool xs.isEmpty)
  | x, y => oEq x y
def oNeN (x y : D) : T D := match x, y with
  | .tuple xs, .tuple [] => .ret (.bool (!xs.isEmpty))
  | .list xs, .list [] => .ret (.bool (!xs.isEmpty))
  | x, y => oNe x y
def rNeN (K : PySem.W.Frag) : R2 := fun x y H Q => rNil K not x y H Q ∨ (rNe x y H Q ∨ rNeD K x y H Q)
theorem op_neN {X : Cx} (hu : X.A.units + 64 < cLine) : OpR X (compareOp .NotEq) (rNeN X.K) := opOr (op_neNil hu) (op_neW hu)
theorem d_neN {K : PySem.W.Frag} : OpD (rNeN K) oNeN := by
  intro β H0 H v w x y Q E e ok bf hv hw q
  unfold oNeN at q
  split at q
  · cases hv with
    | tup h1 hdn h2 =>
      cases hw with
      | tup h3 hdm h4 =>
        cases h4
        refine .inl ⟨_, _, _, rfl, rfl, .inl ⟨sqF (e _ _ h1), sqF (e _ _ h3)⟩, ?_⟩
        rw [h2.isEmpty]
        exact out_ret e ok bf (.bl _) q
  · cases hv with
    | lst h1 h2 =>
      cases hw with
      | lst h3 h4 =>
        cases h4
        refine .inl ⟨_, _, _, rfl, rfl, .inr ⟨SqL.of (e _ _ h1), SqL.of (e _ _ h3)⟩, ?_⟩
        rw [h2.isEmpty]
        exact out_ret e ok bf (.bl _) q
  · exact .inr (d_ne e ok bf hv hw q)
@[simp] theorem oEqN_tup {xs : List D} : oEqN (.tuple xs) (.tuple []) = .ret (.bool xs.isEmpty) := rfl
@[simp] theorem oEqN_lst {xs : List D} : oEqN (.list xs) (.list []) = .ret (.bool xs.isEmpty) := rfl
@[simp] theorem oNeN_tup {xs : List D} : oNeN (.tuple xs) (.tuple []) = .ret (.bool (!xs.isEmpty)) := rfl
@[simp] theorem oNeN_lst {xs : List D} : oNeN (.list xs) (.list []) = .ret (.bool (!xs.isEmpty)) := rfl
end Wb
set_option Elab.async false
set_option linter.all false
set_option maxRecDepth 100000
set_option maxHeartbeats 4000000
/-! Wb, part 29: a tuple many times, also the empty one and not at all. -/
namespace Wb
open PySem PySem.Spec PyProof.Rows L2
def oMulE : D → D → T D
  | .tuple xs, .int k => if xs = [] ∨ k = 1 then (if -(2 ^ 63) ≤ k ∧ k < 2 ^ 63 then .ret (.tuple xs) else .bad)
    else if k ≤ 0 then (if -(2 ^ 63) ≤ k then .ret (.tuple []) else .bad) else oMul (.tuple xs) (.int k)
  | x, y => oMul x y
@[simp] theorem oMulE_int {i j : Int} : oMulE (.int i) (.int j) = oMul (.int i) (.int j) := rfl
@[simp] theorem oMulE_lst {xs : List D} {y : D} : oMulE (.list xs) y = oMul (.list xs) y := rfl
end Wb
set_option Elab.async false
set_option linter.all false
set_option maxRecDepth 100000
set_option maxHeartbeats 4000000
/-! Wb, part 30: data by depth and bulk, dicts too: what bending does. -/
namespace Wb
open PySem PySem.Spec PyProof.Rows L2
/-- all is short, of depth k and bulk b at most -/
structure Ti (k b : Nat) (d : D) : Prop where
  tid : tid d = true
  dep : d.depth ≤ k
  blk : d.bulk ≤ b
structure TiL (k b : Nat) (xs : List D) : Prop where
  tid : xs.all Wb.tid = true
  dep : PyData.depthAll xs ≤ k
  blk : PyData.bulkAll xs ≤ b
theorem Ti.mono {k b k' b' : Nat} {d : D} (h : Ti k b d) (hk : k ≤ k') (hb : b ≤ b') : Ti k' b' d := ⟨h.tid, Nat.le_trans h.dep hk, Nat.le_trans h.blk hb⟩
theorem TiL.mono {k b k' b' : Nat} {d : List D} (h : TiL k b d) (hk : k ≤ k') (hb : b ≤ b') : TiL k' b' d := ⟨h.tid, Nat.le_trans h.dep hk, Nat.le_trans h.blk hb⟩
def tiB (k b : Nat) (d : D) : Bool := tid d && decide (d.depth ≤ k) && decide (d.bulk ≤ b)
theorem ti_by {k b : Nat} {d : D} (h : tiB k b d = true) : Ti k b d := by
  unfold tiB at h
  simp only [Bool.and_eq_true, decide_eq_true_eq] at h
  exact ⟨h.1.1, h.1.2, h.2⟩
theorem ti_int {i : Int} (h : i.natAbs < 10 ^ 50) : Ti 0 0 (.int i) := ⟨tid_int h, Nat.le_refl _, Nat.le_refl _⟩
theorem ti_none : Ti 0 0 .none := ⟨rfl, Nat.le_refl _, Nat.le_refl _⟩
theorem Fine.ti {k b : Nat} {d : D} (h : Fine k b d) : Ti k b d := ⟨h.tid, h.dep, h.blk⟩
theorem Ti.rep {k b : Nat} {d : D} (h : Ti k b d) (hk : k ≤ 60) (hb : b ≤ 100000) : okRep d = true := okRep_of h.tid (Nat.le_trans h.blk hb) (Nat.le_trans h.dep hk)
theorem ti_tuple {k b : Nat} {xs : List D} (h : TiL k b xs) : Ti (k + 1) b (.tuple xs) := ⟨by rw [tid_tuple]; exact h.tid, by have := h.dep; simp only [PyData.depth]; omega, by simp only [PyData.bulk]; exact h.blk⟩
theorem ti_list {k b : Nat} {xs : List D} (h : TiL k b xs) : Ti (k + 1) b (.list xs) := ⟨by rw [tid_list]; exact h.tid, by have := h.dep; simp only [PyData.depth]; omega, by simp only [PyData.bulk]; exact h.blk⟩
theorem tiL_nil {k b : Nat} : TiL k b [] := ⟨rfl, by simp [PyData.depthAll], by simp [PyData.bulkAll]⟩
theorem TiL.cons {k b k' b' : Nat} {x : D} {xs : List D} (h : Ti k b x) (r : TiL k' b' xs) : TiL (max k k') (b + 1 + b') (x :: xs) := by
  obtain ⟨h1, h2, h3⟩ := h
  obtain ⟨r1, r2, r3⟩ := r
  refine ⟨by simp [h1, r1], ?_, ?_⟩
  · simp only [PyData.depthAll]
    omega
  · simp only [PyData.bulkAll]
    omega
theorem TiL.head {k b : Nat} {x : D} {xs : List D} (h : TiL k b (x :: xs)) : Ti k b x ∧ TiL k b xs ∧ x.bulk + 1 + PyData.bulkAll xs ≤ b := by
  obtain ⟨h1, h2, h3⟩ := h
  simp only [List.all_cons, Bool.and_eq_true] at h1
  simp only [PyData.depthAll] at h2
  simp only [PyData.bulkAll] at h3
  exact ⟨⟨h1.1, by omega, by omega⟩, ⟨h1.2, by omega, by omega⟩, h3⟩
theorem TiL.one {k b : Nat} {x : D} (h : Ti k b x) : TiL k (b + 1) [x] := (TiL.cons h (tiL_nil (k := 0) (b := 0))).mono (by omega) (by omega)
theorem bulkAll_append : ∀ xs ys : List D, PyData.bulkAll (xs ++ ys) = PyData.bulkAll xs + PyData.bulkAll ys
  | [], ys => by simp [PyData.bulkAll]
  | x :: r, ys => by
    simp only [List.cons_append, PyData.bulkAll, bulkAll_append r ys]
    omega
theorem depthAll_append : ∀ xs ys : List D, PyData.depthAll (xs ++ ys) = max (PyData.depthAll xs) (PyData.depthAll ys)
  | [], ys => by simp [PyData.depthAll]
  | x :: r, ys => by
    simp only [List.cons_append, PyData.depthAll, depthAll_append r ys]
    omega
theorem TiL.of_app {k b : Nat} {xs ys : List D} (h : TiL k b (xs ++ ys)) : TiL k b xs ∧ TiL k b ys ∧ PyData.bulkAll xs + PyData.bulkAll ys ≤ b := by
  obtain ⟨h1, h2, h3⟩ := h
  rw [List.all_append, Bool.and_eq_true] at h1
  rw [depthAll_append] at h2
  rw [bulkAll_append] at h3
  exact ⟨⟨h1.1, by omega, by omega⟩, ⟨h1.2, by omega, by omega⟩, h3⟩
theorem TiL.take {k b : Nat} {xs : List D} (n : Nat) (h : TiL k b xs) : TiL k b (xs.take n) := by
  have e := List.take_append_drop n xs
  rw [← e] at h
  exact h.of_app.1
theorem TiL.drop {k b : Nat} {xs : List D} (n : Nat) (h : TiL k b xs) : TiL k b (xs.drop n) := by
  have e := List.take_append_drop n xs
  rw [← e] at h
  exact h.of_app.2.1
theorem TiL.cut {k b : Nat} {xs : List D} {lo hi : Option Int} (h : TiL k b xs) : TiL k b (cutD xs lo hi) := by
  unfold cutD
  exact (h.drop _).take _
theorem bulkAll_rev : ∀ xs : List D, PyData.bulkAll xs.reverse = PyData.bulkAll xs
  | [] => rfl
  | x :: r => by
    rw [List.reverse_cons, bulkAll_append, bulkAll_rev r]
    simp only [PyData.bulkAll]
    omega
theorem depthAll_rev : ∀ xs : List D, PyData.depthAll xs.reverse = PyData.depthAll xs
  | [] => rfl
  | x :: r => by
    rw [List.reverse_cons, depthAll_append, depthAll_rev r]
    simp only [PyData.depthAll]
    omega
theorem TiL.rev {k b : Nat} {xs : List D} (h : TiL k b xs) : TiL k b xs.reverse := ⟨by rw [List.all_reverse]; exact h.tid, by rw [depthAll_rev]; exact h.dep, by rw [bulkAll_rev]; exact h.blk⟩
theorem TiL.len {k b : Nat} : ∀ {xs : List D}, TiL k b xs → xs.length ≤ b
  | [], _ => Nat.zero_le _
  | x :: r, h => by
    obtain ⟨_, h2, h3⟩ := h.head
    have : TiL k (PyData.bulkAll r) r := ⟨h2.tid, h2.dep, Nat.le_refl _⟩
    have := this.len
    simp only [List.length_cons]
    omega
/-- an item and what stands around it -/
theorem TiL.split {k b : Nat} {xs : List D} (h : TiL k b xs) {j : Nat} (hj : j < xs.length) : ∃ b1 b2 b3, TiL k b1 (xs.take j) ∧ Ti k b2 xs[j] ∧ TiL k b3 (xs.drop (j + 1)) ∧ b1 + b2 + 1 + b3 ≤ b := by
  have e : xs = xs.take j ++ xs[j] :: xs.drop (j + 1) := by
    rw [← List.drop_eq_getElem_cons hj, List.take_append_drop]
  rw [e] at h
  obtain ⟨h1, h2, h3⟩ := h.of_app
  obtain ⟨h4, h5, h6⟩ := h2.head
  simp only [PyData.bulkAll] at h3
  exact ⟨_, _, _, ⟨h1.tid, h1.dep, Nat.le_refl _⟩, ⟨h4.tid, h4.dep, Nat.le_refl _⟩, ⟨h5.tid, h5.dep, Nat.le_refl _⟩, by omega⟩
theorem TiL.ints {ns : List Int} (h : ∀ n ∈ ns, n.natAbs < 10 ^ 50) : TiL 0 ns.length (ns.map PyData.int) := by
  induction ns with
  | nil => exact tiL_nil
  | cons n r ih =>
    have h1 := ti_int (h n (List.mem_cons_self ..))
    have h2 := ih fun m hm => h m (List.mem_cons_of_mem _ hm)
    exact (TiL.cons h1 h2).mono (by omega) (by simp only [List.length_cons]; omega)
theorem cutD_suf {xs : List D} {j : Nat} (h : j ≤ xs.length) : cutD xs (some (j : Nat)) none = xs.drop j := by
  unfold cutD
  have e : HT.sIx xs.length 0 (some ((j : Nat) : Int)) = j := by
    simp only [HT.sIx]
    rw [if_neg (by omega)]
    omega
  have e0 : HT.sIx xs.length xs.length none = xs.length := rfl
  rw [e, e0]
  exact List.take_of_length_le (by simp)
@[simp] theorem oTruth_tup {xs : List D} : oTruth (.tuple xs) = .ret (.bool (!xs.isEmpty)) := rfl
@[simp] theorem oTruth_lst {xs : List D} : oTruth (.list xs) = .ret (.bool (!xs.isEmpty)) := rfl
@[simp] theorem oTruth_none : oTruth .none = .ret (.bool false) := rfl
@[simp] theorem oTruth_bool {b : Bool} : oTruth (.bool b) = .ret (.bool b) := rfl
@[simp] theorem oTruth_int {i : Int} : oTruth (.int i) = .ret (.bool (i != 0)) := rfl
@[simp] theorem isaX_tuple_none  : isaD "tuple" (.none) = false := rfl
@[simp] theorem isaX_tuple_bool {b : Bool} : isaD "tuple" (.bool b) = false := rfl
@[simp] theorem isaX_tuple_int {i : Int} : isaD "tuple" (.int i) = false := rfl
@[simp] theorem isaX_tuple_str {z : Str} : isaD "tuple" (.str z) = false := rfl
@[simp] theorem isaX_tuple_list {xs : List D} : isaD "tuple" (.list xs) = false := rfl
@[simp] theorem isaX_tuple_tuple {xs : List D} : isaD "tuple" (.tuple xs) = true := rfl
@[simp] theorem isaX_tuple_dict {kvs : List (D × D)} : isaD "tuple" (.dict kvs) = false := rfl
@[simp] theorem isaX_str_none  : isaD "str" (.none) = false := rfl
@[simp] theorem isaX_str_bool {b : Bool} : isaD "str" (.bool b) = false := rfl
@[simp] theorem isaX_str_int {i : Int} : isaD "str" (.int i) = false := rfl
@[simp] theorem isaX_str_str {z : Str} : isaD "str" (.str z) = true := rfl
@[simp] theorem isaX_str_list {xs : List D} : isaD "str" (.list xs) = false := rfl
@[simp] theorem isaX_str_tuple {xs : List D} : isaD "str" (.tuple xs) = false := rfl
@[simp] theorem isaX_str_dict {kvs : List (D × D)} : isaD "str" (.dict kvs) = false := rfl
@[simp] theorem isaX_int_none  : isaD "int" (.none) = false := rfl
@[simp] theorem isaX_int_bool {b : Bool} : isaD "int" (.bool b) = true := rfl
@[simp] theorem isaX_int_int {i : Int} : isaD "int" (.int i) = true := rfl
@[simp] theorem isaX_int_str {z : Str} : isaD "int" (.str z) = false := rfl
@[simp] theorem isaX_int_list {xs : List D} : isaD "int" (.list xs) = false := rfl
@[simp] theorem isaX_int_tuple {xs : List D} : isaD "int" (.tuple xs) = false := rfl
@[simp] theorem isaX_int_dict {kvs : List (D × D)} : isaD "int" (.dict kvs) = false := rfl
@[simp] theorem isaX_bool_none  : isaD "bool" (.none) = false := rfl
@[simp] theorem isaX_bool_bool {b : Bool} : isaD "bool" (.bool b) = true := rfl
@[simp] theorem isaX_bool_int {i : Int} : isaD "bool" (.int i) = false := rfl
@[simp] theorem isaX_bool_str {z : Str} : isaD "bool" (.str z) = false := rfl
@[simp] theorem isaX_bool_list {xs : List D} : isaD "bool" (.list xs) = false := rfl
@[simp] theorem isaX_bool_tuple {xs : List D} : isaD "bool" (.tuple xs) = false := rfl
@[simp] theorem isaX_bool_dict {kvs : List (D × D)} : isaD "bool" (.dict kvs) = false := rfl
@[simp] theorem isaX_list_none  : isaD "list" (.none) = false := rfl
@[simp] theorem isaX_list_bool {b : Bool} : isaD "list" (.bool b) = false := rfl
@[simp] theorem isaX_list_int {i : Int} : isaD "list" (.int i) = false := rfl
@[simp] theorem isaX_list_str {z : Str} : isaD "list" (.str z) = false := rfl
@[simp] theorem isaX_list_list {xs : List D} : isaD "list" (.list xs) = true := rfl
@[simp] theorem isaX_list_tuple {xs : List D} : isaD "list" (.tuple xs) = false := rfl
@[simp] theorem isaX_list_dict {kvs : List (D × D)} : isaD "list" (.dict kvs) = false := rfl
@[simp] theorem isaX_dict_none  : isaD "dict" (.none) = false := rfl
@[simp] theorem isaX_dict_bool {b : Bool} : isaD "dict" (.bool b) = false := rfl
@[simp] theorem isaX_dict_int {i : Int} : isaD "dict" (.int i) = false := rfl
@[simp] theorem isaX_dict_str {z : Str} : isaD "dict" (.str z) = false := rfl
@[simp] theorem isaX_dict_list {xs : List D} : isaD "dict" (.list xs) = false := rfl
@[simp] theorem isaX_dict_tuple {xs : List D} : isaD "dict" (.tuple xs) = false := rfl
@[simp] theorem isaX_dict_dict {kvs : List (D × D)} : isaD "dict" (.dict kvs) = true := rfl
@[simp] theorem ev_Unp {bd : D → Env' → Option Env'} {f : Env' → T D} {ρ : Env'} : sUnp bd f ρ = (f ρ).lift ρ fun d => match bd d ρ with
  | some ρ' => .ret (.nx ρ')
  | none => .bad := rfl
@[simp] theorem isN_none  : oIsN (.none) .none = .ret (.bool true) := rfl
@[simp] theorem notN_none  : oNotN (.none) .none = .ret (.bool false) := rfl
@[simp] theorem isN_bool {b : Bool} : oIsN (.bool b) .none = .ret (.bool false) := rfl
@[simp] theorem notN_bool {b : Bool} : oNotN (.bool b) .none = .ret (.bool true) := rfl
@[simp] theorem isN_int {i : Int} : oIsN (.int i) .none = .ret (.bool false) := rfl
@[simp] theorem notN_int {i : Int} : oNotN (.int i) .none = .ret (.bool true) := rfl
@[simp] theorem isN_str {z : Str} : oIsN (.str z) .none = .ret (.bool false) := rfl
@[simp] theorem notN_str {z : Str} : oNotN (.str z) .none = .ret (.bool true) := rfl
@[simp] theorem isN_list {xs : List D} : oIsN (.list xs) .none = .ret (.bool false) := rfl
@[simp] theorem notN_list {xs : List D} : oNotN (.list xs) .none = .ret (.bool true) := rfl
@[simp] theorem isN_tuple {xs : List D} : oIsN (.tuple xs) .none = .ret (.bool false) := rfl
@[simp] theorem notN_tuple {xs : List D} : oNotN (.tuple xs) .none = .ret (.bool true) := rfl
@[simp] theorem isN_dict {kvs : List (D × D)} : oIsN (.dict kvs) .none = .ret (.bool false) := rfl
@[simp] theorem notN_dict {kvs : List (D × D)} : oNotN (.dict kvs) .none = .ret (.bool true) := rfl
theorem rangeD_succ (i n : Nat) : rangeD (i : Nat) (n + 1) = .int (i : Nat) :: rangeD ((i + 1 : Nat) : Int) n := by
  simp [rangeD, List.range_succ_eq_map]
  intro a _
  omega
end Wb
set_option Elab.async false
set_option linter.all false
set_option maxRecDepth 100000
set_option maxHeartbeats 4000000
/-! Wb, part 31: reckoning with lists of one's own. -/
namespace Wb
open PySem PySem.Spec PyProof.Rows L2
section
variable {i : Nat} {f : Env' → T D} {F : Env' → T Fl} {ρ : Env'} {fs : Env' → T (List Ar)} {gs : Env' → T (List D)}
@[simp] theorem ev_Own : sOwn i gs ρ = (gs ρ).lift ρ fun ds => .ret (.nx (ρ.set i (.own ds))) := rfl
def mkOwn : Option (List D) → T (List D)
  | some ds => if ds.length ≤ 1000000 then .ret ds else .bad
  | none => .bad
@[simp] theorem mkOwn_s {ds : List D} : mkOwn (some ds) = if ds.length ≤ 1000000 then .ret ds else .bad := rfl
@[simp] theorem ev_lLst : lLst fs ρ = (fs ρ).bind fun as => mkOwn (dsOf as) := by
  unfold lLst
  congr 1
def frK (i : Nat) (F : Env' → T Fl) (ρ : Env') : Option Sl → T Fl
  | some (.own xs) => F (ρ.set i (.d (.list xs)))
  | _ => F ρ
@[simp] theorem frK_own {xs : List D} : frK i F ρ (some (.own xs)) = F (ρ.set i (.d (.list xs))) := rfl
@[simp] theorem frK_d {x : D} : frK i F ρ (some (.d x)) = F ρ := rfl
@[simp] theorem ev_Frz : sFrz i F ρ = frK i F ρ ρ[i]? := by
  unfold sFrz frK
  rfl
def apK (i : Nat) (f : Env' → T D) (ρ : Env') : Option Sl → T Fl
  | some (.own xs) => (f ρ).lift ρ fun d => if xs.length < 1000000 then .ret (.nx (ρ.set i (.own (xs ++ [d])))) else .bad
  | _ => .bad
@[simp] theorem apK_own {xs : List D} : apK i f ρ (some (.own xs)) = (f ρ).lift ρ fun d => if xs.length < 1000000 then .ret (.nx (ρ.set i (.own (xs ++ [d])))) else .bad := rfl
@[simp] theorem ev_App : sApp i f ρ = apK i f ρ ρ[i]? := by
  unfold sApp apK
  rfl
def exL (i : Nat) (ρ : Env') (xs : List D) : D → T Fl
  | .list ys => if xs.length + ys.length ≤ 1000000 then .ret (.nx (ρ.set i (.own (xs ++ ys)))) else .bad
  | _ => .bad
@[simp] theorem exL_list {xs ys : List D} : exL i ρ xs (.list ys) = if xs.length + ys.length ≤ 1000000 then .ret (.nx (ρ.set i (.own (xs ++ ys)))) else .bad := rfl
def exK (i : Nat) (f : Env' → T D) (ρ : Env') : Option Sl → T Fl
  | some (.own xs) => (f ρ).lift ρ (exL i ρ xs)
  | _ => .bad
@[simp] theorem exK_own {xs : List D} : exK i f ρ (some (.own xs)) = (f ρ).lift ρ (exL i ρ xs) := rfl
@[simp] theorem ev_Ext : sExt i f ρ = exK i f ρ ρ[i]? := by
  unfold sExt exK
  cases ρ[i]? with
  | none => rfl
  | some s => cases s <;> rfl
end
end Wb
set_option Elab.async false
set_option linter.all false
set_option maxRecDepth 100000
set_option maxHeartbeats 4000000
/-! Wb, part 32: zip over three things, each a list or a tuple. -/
namespace Wb
open PySem PySem.Spec PyProof.Rows L2 RZ
def zip3D : List D → List D → List D → List D
  | x :: xs, y :: ys, z :: zs => .tuple [x, y, z] :: zip3D xs ys zs
  | _, _, _ => []
def oZip3 : List Ar → T (List D)
  | [.d x, .d y, .d z] => match seqD x, seqD y, seqD z with
    | some (_, xs), some (_, ys), some (_, zs) => .ret (zip3D xs ys zs)
    | _, _, _ => .bad
  | _ => .bad
@[simp] theorem ev_zip3TTT {xs ys zs : List D} : oZip3 [.d (.tuple xs), .d (.tuple ys), .d (.tuple zs)] = .ret (zip3D xs ys zs) := rfl
@[simp] theorem ev_zip3LTL {xs ys zs : List D} : oZip3 [.d (.list xs), .d (.tuple ys), .d (.list zs)] = .ret (zip3D xs ys zs) := rfl
@[simp] theorem ev_zip3TTL {xs ys zs : List D} : oZip3 [.d (.tuple xs), .d (.tuple ys), .d (.list zs)] = .ret (zip3D xs ys zs) := rfl
@[simp] theorem ev_zip3LTT {xs ys zs : List D} : oZip3 [.d (.list xs), .d (.tuple ys), .d (.tuple zs)] = .ret (zip3D xs ys zs) := rfl
end Wb
set_option Elab.async false
set_option linter.all false
set_option maxRecDepth 100000
set_option maxHeartbeats 4000000
/-! Wb, part 33: xs[i] = v of a list of one's own; min and max of two numbers; range as a list. -/
namespace Wb
open PySem PySem.Spec PyProof.Rows L2
def putI (k : Nat) (ρ : Env') (xs : List D) (d : D) : D → T Fl
  | .int z => match ixN xs.length z with
    | some j => .ret (.nx (ρ.set k (.own (xs.set j d))))
    | none => .bad
  | _ => .bad
def putK (k : Nat) (fi fv : Env' → T D) (ρ : Env') : Option Sl → T Fl
  | some (.own xs) => (fv ρ).lift ρ fun d => (fi ρ).lift ρ (putI k ρ xs d)
  | _ => .bad
def sPut (k : Nat) (fi fv : Env' → T D) : Env' → T Fl := fun ρ => putK k fi fv ρ ρ[k]?
@[simp] theorem ev_Put {k : Nat} {fi fv : Env' → T D} {ρ : Env'} : sPut k fi fv ρ = putK k fi fv ρ ρ[k]? := rfl
@[simp] theorem putK_own {k : Nat} {fi fv : Env' → T D} {ρ : Env'} {xs : List D} : putK k fi fv ρ (some (.own xs)) = (fv ρ).lift ρ fun d => (fi ρ).lift ρ (putI k ρ xs d) := rfl
/-! ### min, max -/
def oMax2 : List Ar → T D
  | [.d (.int i), .d (.int j)] => .ret (.int (if j > i then j else i))
  | _ => .bad
def oMin2 : List Ar → T D
  | [.d (.int i), .d (.int j)] => .ret (.int (if j < i then j else i))
  | _ => .bad
@[simp] theorem oMax2_i {i j : Int} : oMax2 [.d (.int i), .d (.int j)] = .ret (.int (if j > i then j else i)) := rfl
@[simp] theorem oMin2_i {i j : Int} : oMin2 [.d (.int i), .d (.int j)] = .ret (.int (if j < i then j else i)) := rfl
@[simp] theorem ev_Drop {f : Env' → T D} {ρ : Env'} : sDrop f ρ = (f ρ).lift ρ fun _ => .ret (.nx ρ) := rfl
end Wb
set_option Elab.async false
set_option linter.all false
set_option maxRecDepth 100000
set_option maxHeartbeats 4000000
/-! Wb, part 34: what a list of one's own holds is read. -/
namespace Wb
open PySem PySem.Spec PyProof.Rows L2
def oixI (xs : List D) : D → T D
  | .int z => match atI xs z with
    | some d => .ret d
    | none => .bad
  | _ => .bad
def oixK (fi : Env' → T D) (ρ : Env') : Option Sl → T D
  | some (.own xs) => (fi ρ).bind (oixI xs)
  | _ => .bad
/-- xs[i] -/
def eOIx (k : Nat) (fi : Env' → T D) : Env' → T D := fun ρ => oixK fi ρ ρ[k]?
@[simp] theorem ev_OIx {k : Nat} {fi : Env' → T D} {ρ : Env'} : eOIx k fi ρ = oixK fi ρ ρ[k]? := rfl
@[simp] theorem oixK_own {fi : Env' → T D} {ρ : Env'} {xs : List D} : oixK fi ρ (some (.own xs)) = (fi ρ).bind (oixI xs) := rfl
def olenK : Option Sl → T D
  | some (.own xs) => .ret (.int xs.length)
  | _ => .bad
/-- len(xs) -/
def eOLen (k : Nat) : Env' → T D := fun ρ => olenK ρ[k]?
@[simp] theorem ev_OLen {k : Nat} {ρ : Env'} : eOLen k ρ = olenK ρ[k]? := rfl
@[simp] theorem olenK_own {xs : List D} : olenK (some (.own xs)) = .ret (.int xs.length) := rfl
theorem own_rel {cad : Cad} {β : Box} {ξ : Xi} {H0 H : Hp} {ρ : Env'} {σ : L2.St} (r : Rel cad β ξ H0 ρ σ H) {i : Nat} {xs : List D} (hi : ρ[i]? = some (.own xs)) :
    ∃ p vs, σ[i]? = some (some (.ref p)) ∧ H p = some (.lst vs) ∧ HasL H0 vs xs := by
  have hl : i < σ.length := by
    rw [← r.len]
    exact (List.getElem?_eq_some_iff.mp hi).1
  obtain ⟨p, vs, e1, e2, e3, _⟩ := r.sl i _ _ hi (List.getElem?_eq_getElem hl)
  exact ⟨p, vs, by rw [List.getElem?_eq_getElem hl, e1], e2, e3⟩
end Wb
set_option Elab.async false
set_option linter.all false
set_option maxRecDepth 100000
set_option maxHeartbeats 4000000
/-! Wb, part 35: flows as data. -/
namespace Wb
open PySem PySem.Spec PyProof.Rows L2
abbrev Rd := Nat × List Int
abbrev Ru := Str × List Rd
def readD (r : Rd) : D := .tuple [.int (r.1 : Nat), vecD r.2]
def ruleD (r : Ru) : D := .tuple (.str r.1 :: r.2.map readD)
def rulesD (rs : List Ru) : D := .tuple (rs.map ruleD)
def flowD (n : Nat) (rs : List Ru) : D := .tuple [.int (n : Nat), rulesD rs]
theorem flow_0 (n : Nat) (rs : List Ru) : oIx (flowD n rs) (.int 0) = .ret (.int (n : Nat)) := ixT_at (j := 0) rfl
theorem flow_1 (n : Nat) (rs : List Ru) : oIx (flowD n rs) (.int 1) = .ret (rulesD rs) := ixT_at (j := 1) rfl
theorem rule_at {r : Ru} {k : Nat} {x : Rd} (h : r.2[k]? = some x) : oIx (ruleD r) (.int ((k : Int) + 1)) = .ret (readD x) := by
  have e : ((k : Int) + 1) = ((k + 1 : Nat) : Int) := by simp
  rw [e]
  exact ixT_at (by rw [List.getElem?_cons_succ, List.getElem?_map, h]; rfl)
theorem ti_allL {k b : Nat} : ∀ {xs : List D}, (∀ x ∈ xs, Ti k b x) → TiL k ((b + 1) * xs.length) xs
  | [], _ => tiL_nil
  | x :: r, h => by
    have h1 := h x (List.mem_cons_self ..)
    have h2 := ti_allL fun y hy => h y (List.mem_cons_of_mem _ hy)
    refine (TiL.cons h1 h2).mono (by omega) ?_
    rw [List.length_cons, Nat.mul_add, Nat.mul_one]
    omega
/-! ### reads told by plane and operand -/
end Wb
set_option Elab.async false
set_option linter.all false
set_option maxRecDepth 100000
set_option maxHeartbeats 4000000
/-! Wb, part 36: a truth value and a number, added. -/
namespace Wb
open PySem PySem.Spec PyProof.Rows L2
def oAddB : D → D → T D
  | .bool b, .int j => .ret (.int ((if b = true then (1 : Int) else 0) + j))
  | x, y => oAdd x y
@[simp] theorem oAddB_bi {b : Bool} {j : Int} : oAddB (.bool b) (.int j) = .ret (.int ((if b = true then (1 : Int) else 0) + j)) := rfl
@[simp] theorem oAddB_i {i : Int} {y : D} : oAddB (.int i) y = oAdd (.int i) y := rfl
@[simp] theorem oAddB_t {xs : List D} {y : D} : oAddB (.tuple xs) y = oAdd (.tuple xs) y := rfl
@[simp] theorem oAddB_l {xs : List D} {y : D} : oAddB (.list xs) y = oAdd (.list xs) y := rfl
@[simp] theorem oAddB_s {z : Str} {y : D} : oAddB (.str z) y = oAdd (.str z) y := rfl
end Wb
set_option Elab.async false
set_option linter.all false
set_option maxRecDepth 100000
set_option maxHeartbeats 4000000
/-! Wb, part 37: how great the numbers within data are. -/
namespace Wb
open PySem PySem.Spec PyProof.Rows L2
end Wb
set_option Elab.async false
set_option linter.all false
set_option maxRecDepth 100000
set_option maxHeartbeats 4000000
/-! Wb, part 38: the greatest and the least of a list of ints; where an item stands. -/
namespace Wb
open PySem PySem.Spec PyProof.Rows L2
def mxZ : Int → List Int → Int
  | a, [] => a
  | a, b :: r => mxZ (if b > a then b else a) r
def mnZ : Int → List Int → Int
  | a, [] => a
  | a, b :: r => mnZ (if b < a then b else a) r
def oMaxL : D → T D
  | .list xs => match intsOf xs with
    | some (n :: ns) => .ret (.int (mxZ n ns))
    | _ => .bad
  | _ => .bad
def oMinL : D → T D
  | .list xs => match intsOf xs with
    | some (n :: ns) => .ret (.int (mnZ n ns))
    | _ => .bad
  | _ => .bad
@[simp] theorem oMaxL_ints {n : Int} {ns : List Int} : oMaxL (.list (.int n :: ns.map PyData.int)) = .ret (.int (mxZ n ns)) := by
  have e : PyData.int n :: ns.map PyData.int = (n :: ns).map PyData.int := rfl
  rw [e]
  unfold oMaxL
  simp only [intsOf_map]
@[simp] theorem oMinL_ints {n : Int} {ns : List Int} : oMinL (.list (.int n :: ns.map PyData.int)) = .ret (.int (mnZ n ns)) := by
  have e : PyData.int n :: ns.map PyData.int = (n :: ns).map PyData.int := rfl
  rw [e]
  unfold oMinL
  simp only [intsOf_map]
/-! ### xs.index(d) -/
def oIdx (x y : D) : T D := match x with
  | .list ds => if (cEq y && cEq (.list ds)) = true then (match ds.findIdx? fun z => PyData.eqv z y with
    | some j => .ret (.int (j : Nat))
    | none => .bad) else .bad
  | _ => .bad
def kIdx (h : Env' → T D) (ρ : Env') : D → T D
  | .list ds => (h ρ).bind fun y => oIdx (.list ds) y
  | _ => .bad
def eIdx (f h : Env' → T D) : Env' → T D := fun ρ => (f ρ).bind fun x => kIdx h ρ x
@[simp] theorem ev_idx {f h : Env' → T D} {ρ : Env'} : eIdx f h ρ = (f ρ).bind fun x => kIdx h ρ x := rfl
@[simp] theorem kIdx_list {h : Env' → T D} {ρ : Env'} {ds : List D} : kIdx h ρ (.list ds) = (h ρ).bind fun y => oIdx (.list ds) y := rfl
/-! ### a, b = (e, [..]), b a list of one's own -/
def sParOwn (i j : Nat) (f : Env' → T D) (l : Env' → T (List D)) : Env' → T Fl := fun ρ => (f ρ).lift ρ fun d => (l ρ).lift ρ fun ds => .ret (.nx ((ρ.set i (.d d)).set j (.own ds)))
@[simp] theorem ev_ParOwn {i j : Nat} {f : Env' → T D} {l : Env' → T (List D)} {ρ : Env'} : sParOwn i j f l ρ = (f ρ).lift ρ fun d => (l ρ).lift ρ fun ds => .ret (.nx ((ρ.set i (.d d)).set j (.own ds))) := rfl
end Wb
set_option Elab.async false
set_option linter.all false
set_option maxRecDepth 100000
set_option maxHeartbeats 4000000
/-! Wb, part 39: targets within targets. -/
namespace Wb
open PySem PySem.Spec PyProof.Rows L2 RZ
mutual
inductive Tgt where
  | nm (i : Nat)
  | tp (l : Tgts)
inductive Tgts where
  | nil
  | cons (t : Tgt) (l : Tgts)
end
mutual
def bT : Tgt → D → Env' → Option Env'
  | .nm i, d, ρ => some (ρ.set i (.d d))
  | .tp l, d, ρ => match d with
    | .tuple ds => bTs l ds ρ
    | _ => none
def bTs : Tgts → List D → Env' → Option Env'
  | .nil, [], ρ => some ρ
  | .cons t l, d :: ds, ρ => match bT t d ρ with
    | some ρ' => bTs l ds ρ'
    | none => none
  | .nil, _ :: _, _ => none
  | .cons _ _, [], _ => none
end
def Tgts.len : Tgts → Nat
  | .nil => 0
  | .cons _ l => l.len + 1
@[simp] theorem bT_nm {i : Nat} {d : D} {ρ : Env'} : bT (.nm i) d ρ = some (ρ.set i (.d d)) := by simp [bT]
@[simp] theorem bT_tp {l : Tgts} {ds : List D} {ρ : Env'} : bT (.tp l) (.tuple ds) ρ = bTs l ds ρ := by simp [bT]
@[simp] theorem bTs_nil {ρ : Env'} : bTs .nil [] ρ = some ρ := by simp [bTs]
@[simp] theorem bTs_cons {t : Tgt} {l : Tgts} {d : D} {ds : List D} {ρ : Env'} : bTs (.cons t l) (d :: ds) ρ = (bT t d ρ).bind fun ρ' => bTs l ds ρ' := by
  simp only [bTs]
  cases bT t d ρ <;> rfl
end Wb
set_option Elab.async false
set_option linter.all false
set_option maxRecDepth 100000
set_option maxHeartbeats 4000000
/-! Wb, part 40: loops that many programs share: judging each item, a running sum of products. -/
namespace Wb
open PySem PySem.Spec PyProof.Rows L2
theorem bnd_go {mw : List Ar → T D} (hw : ∀ (v : D) (lo hi : Int), mw [.d v, .d (.int lo), .d (.int hi)] = .ret (.bool (inR lo hi v))) {n v : D} {m : Int} : ∀ (xs : List D) (s : Sl),
    (xs.all (inR (-m) m) = true → ∃ s', forGo (bName 3) (sIf (eUn oNot (eCall 3 mw (aCons (eV 3) (aCons (eUn oNeg (eV 2)) (aCons (eV 2) aNil))))) (sRet (eC (.bool false))) sNil) xs [.d n, .d v, .d (.int m), s] = .ret (.nx [.d n, .d v, .d (.int m), s'])) ∧
    (xs.all (inR (-m) m) = false → forGo (bName 3) (sIf (eUn oNot (eCall 3 mw (aCons (eV 3) (aCons (eUn oNeg (eV 2)) (aCons (eV 2) aNil))))) (sRet (eC (.bool false))) sNil) xs [.d n, .d v, .d (.int m), s] = .ret (.ret (.bool false)))
  | [], s => ⟨fun _ => ⟨s, rfl⟩, fun h => by cases h⟩
  | x :: r, s => by
    have ih := bnd_go hw (n := n) (v := v) (m := m) r (.d x)
    have e := hw x (-m) m
    rw [List.all_cons]
    cases hx : inR (-m) m x with
    | true =>
      rw [hx] at e
      simp only [Bool.true_and]
      refine ⟨fun h => ?_, fun h => ?_⟩
      · obtain ⟨s', h'⟩ := ih.1 h
        refine ⟨s', ?_⟩
        unfold forGo
        simp [e, h']
      · have h' := ih.2 h
        unfold forGo
        simp [e, h']
    | false =>
      rw [hx] at e
      refine ⟨fun h => (nomatch h), fun _ => ?_⟩
      unfold forGo
      simp [e]
end Wb
set_option Elab.async false
set_option linter.all false
set_option maxRecDepth 100000
set_option maxHeartbeats 4000000
/-! Wb, part 41: the least and the greatest of a list of alike data (pairs, say). -/
namespace Wb
open PySem PySem.Spec PyProof.Rows L2 RZ
end Wb
set_option Elab.async false
set_option linter.all false
set_option maxRecDepth 100000
set_option maxHeartbeats 4000000
/-! Wb, part 42: texts of reprs as items that are compared. -/
namespace Wb
open PySem PySem.Spec PyProof.Rows L2
/-- the text of this datum holds no sign beyond those that there are -/
def Low (d : D) : Prop := ∀ k : Nat, 1114112 ≤ k → k ∉ d.shown.cps.toList
theorem low_int (i : Int) : Low (.int i) := fun k hk => shown_int_free' (by omega) i
theorem low_none : Low .none := fun k hk hm => by
  rw [PyData.shown_none] at hm
  have e : (("None" : String) : Str).cps.toList = [78, 111, 110, 101] := by decide
  rw [e] at hm
  simp only [List.mem_cons, List.not_mem_nil, or_false] at hm
  omega
theorem low_join {k : Nat} (hk : 1114112 ≤ k) {ts : List Str} (h : ∀ t ∈ ts, k ∉ t.cps.toList) : k ∉ (Str.join ", " ts).cps.toList := fun hm => by
  rw [mem_join] at hm
  rcases hm with ⟨t, ht, hc⟩ | ⟨_, hc⟩
  · exact h t ht hc
  · have e : ((", " : String) : Str).cps.toList = [44, 32] := by decide
    rw [e] at hc
    simp only [List.mem_cons, List.not_mem_nil, or_false] at hc
    omega
theorem low_tuple {xs : List D} (h : ∀ x ∈ xs, Low x) : Low (.tuple xs) := fun k hk hm => by
  rw [PyData.shown_tuple, mem_cps_append, mem_cps_append] at hm
  have e1 : (("(" : String) : Str).cps.toList = [40] := by decide
  have e2 : ((",)" : String) : Str).cps.toList = [44, 41] := by decide
  have e3 : ((")" : String) : Str).cps.toList = [41] := by decide
  rcases hm with (hm | hm) | hm
  · rw [e1] at hm
    simp only [List.mem_cons, List.not_mem_nil, or_false] at hm
    omega
  · exact low_join hk (shownAll_free fun x hx => h x hx k hk) hm
  · split at hm
    · rw [e2] at hm
      simp only [List.mem_cons, List.not_mem_nil, or_false] at hm
      omega
    · rw [e3] at hm
      simp only [List.mem_cons, List.not_mem_nil, or_false] at hm
      omega
theorem low_list {xs : List D} (h : ∀ x ∈ xs, Low x) : Low (.list xs) := fun k hk hm => by
  rw [PyData.shown_list, mem_cps_append, mem_cps_append] at hm
  have e1 : (("[" : String) : Str).cps.toList = [91] := by decide
  have e2 : (("]" : String) : Str).cps.toList = [93] := by decide
  rcases hm with (hm | hm) | hm
  · rw [e1] at hm
    simp only [List.mem_cons, List.not_mem_nil, or_false] at hm
    omega
  · exact low_join hk (shownAll_free fun x hx => h x hx k hk) hm
  · rw [e2] at hm
    simp only [List.mem_cons, List.not_mem_nil, or_false] at hm
    omega
theorem Low.ok {d : D} (h : Low d) : PyData.strOk d.shown = true := by
  unfold PyData.strOk
  rw [← Array.all_toList, List.all_eq_true]
  intro k hk
  rw [decide_eq_true_eq]
  exact Nat.lt_of_not_le fun z => h k z hk
theorem cEq_strs {xs : List Str} (h : ∀ x ∈ xs, PyData.strOk x = true) : cEq (.list (xs.map PyData.str)) = true := by
  have h1 : ∀ xs : List Str, (∀ x ∈ xs, PyData.strOk x = true) → PyData.hasDictAll (xs.map PyData.str) = false ∧ PyData.canLayAll0 (xs.map PyData.str) = true ∧ PyData.depthAll (xs.map PyData.str) ≤ 1 := by
    intro xs
    induction xs with
    | nil => exact fun _ => ⟨rfl, rfl, Nat.zero_le _⟩
    | cons x r ih =>
      intro h
      obtain ⟨a, b, c⟩ := ih fun y hy => h y (List.mem_cons_of_mem _ hy)
      have hx := h x (List.mem_cons_self ..)
      refine ⟨?_, ?_, ?_⟩
      · simp only [List.map_cons, PyData.hasDictAll, a, PyData.hasDict, Bool.or_self]
      · simp only [List.map_cons, PyData.canLayAll0, b, PyData.canLay0, hx, Bool.and_self]
      · simp only [List.map_cons, PyData.depthAll, PyData.depth]
        omega
  obtain ⟨a, b, c⟩ := h1 xs h
  unfold cEq SeqAt.shaped
  simp only [PyData.hasDict, PyData.canLay0, PyData.depth, a, b, Bool.not_false, Bool.true_and]
  exact decide_eq_true (by omega)
end Wb
set_option Elab.async false
set_option linter.all false
set_option maxRecDepth 100000
set_option maxHeartbeats 4000000
/-! Wb, part 43: defs whose last parameter takes all that is left (`*rest`), their call. -/
namespace Wb
open PySem PySem.Spec PyProof.Rows L2 RZ
structure FnV (P : Program) (w : World) (K : PySem.W.Frag) (mg : Str → Option Value) (base : Heap) (cad : Cad) (k : Nat) (fa : Addr) (np : Nat) (m : List Ar → T D) : Prop where
  go : ∀ {X : Cx} {pins : List (Addr × Obj)} {s : Shared} {σ : L2.St} {H : Hp} {us : List Value} {vs : List V} {Q : VK} {W : WX}, X.prog = P → X.w = w → X.K = K → X.mg = mg → X.base = base → Room k X.A → X.A.guards = some [] → Takes X W → Inv X pins σ H s → Vals vs us → np ≤ vs.length → vs.length ≤ np + 6 →
    (∀ p o, H p = none → o.dict = none → spD cad (np + 1) m (vs.take np ++ [.ref p]) (upd H p (.frz o (.tup (vs.drop np)))) Q (fun c d H' => W c d σ H')) → wpAny (model X.prog X.w) X.A (call (.ref fa) us) (EP X pins σ Q) X.xe s
theorem FnV.mono {P : Program} {w : World} {K : PySem.W.Frag} {mg : Str → Option Value} {base : Heap} {cad : Cad} {j k : Nat} {fa : Addr} {np : Nat} {m : List Ar → T D} (F : FnV P w K mg base cad j fa np m) (h : j ≤ k) : FnV P w K mg base cad k fa np m :=
  ⟨fun a b c d e hr => F.go a b c d e (hr.mono h)⟩
/-! ### its call -/
def starAs (np : Nat) (as : List Ar) : Option (List Ar) := match dsOf (as.drop np) with
  | some ds => some (as.take np ++ [.d (.tuple ds)])
  | none => none
def starC (np : Nat) (m : List Ar → T D) (as : List Ar) : T D := if np ≤ as.length ∧ as.length ≤ np + 6 then (match starAs np as with
  | some bs => m bs
  | none => .bad) else .bad
def eCallV (np : Nat) (m : List Ar → T D) (fs : Env' → T (List Ar)) : Env' → T D := fun ρ => (fs ρ).bind (starC np m)
@[simp] theorem ev_callV {np : Nat} {m : List Ar → T D} {fs : Env' → T (List Ar)} {ρ : Env'} : eCallV np m fs ρ = (fs ρ).bind (starC np m) := rfl
end Wb
set_option Elab.async false
set_option linter.all false
set_option maxRecDepth 100000
set_option maxHeartbeats 4000000
/-! Wb, part 44: more lists of one's own: list(x), a slice; list(range(n)). -/
namespace Wb
open PySem PySem.Spec PyProof.Rows L2 RZ
def lOf (f : Env' → T D) : Env' → T (List D) := fun ρ => (f ρ).bind itemsD
def oSlL (x : D) (lo hi : Option Int) : T (List D) := match x with
  | .list xs => .ret (cutD xs lo hi)
  | _ => .bad
def lSl (f : Env' → T D) (l u : Env' → T (Option Int)) : Env' → T (List D) := fun ρ => (f ρ).bind fun x => (l ρ).bind fun lo => (u ρ).bind fun hi => oSlL x lo hi
@[simp] theorem oSlL_list {xs : List D} {lo hi : Option Int} : oSlL (.list xs) lo hi = .ret (cutD xs lo hi) := rfl
@[simp] theorem ev_lOf {f : Env' → T D} {ρ : Env'} : lOf f ρ = (f ρ).bind itemsD := rfl
@[simp] theorem ev_lSl {f : Env' → T D} {l u : Env' → T (Option Int)} {ρ : Env'} : lSl f l u ρ = (f ρ).bind fun x => (l ρ).bind fun lo => (u ρ).bind fun hi => oSlL x lo hi := rfl
section
variable {X : Cx} {g : Ct} {a b : Expr} {f h : Env' → T D} {pos : Pos} {st : Stmt} {β : Box} {A B C H0 H : Hp} {ρ : Env'} {σ : L2.St} {E : Ends}
/-! ### xs.insert(k, y) -/
/-! ### list(range(n)) -/
def oListRg (x : D) : T D := match x with
  | .int n => if n ≤ 1000000 ∧ -1000000 ≤ n then .ret (.list (rangeD 0 n.toNat)) else .bad
  | _ => .bad
@[simp] theorem oListRg_i {n : Int} : oListRg (.int n) = if n ≤ 1000000 ∧ -1000000 ≤ n then .ret (.list (rangeD 0 n.toNat)) else .bad := rfl
end
end Wb
set_option Elab.async false
set_option linter.all false
set_option maxRecDepth 100000
set_option maxHeartbeats 4000000
/-! Wb, part 45: sorted(set(xs)) of a list of ints. -/
namespace Wb
open PySem PySem.Spec PyProof.Rows L2 RZ
/-! ### the ints of a list, ascending, each once -/
def insU (k : Int) : List Int → List Int
  | [] => [k]
  | x :: r => if k < x then k :: x :: r else if k = x then x :: r else x :: insU k r
def sortU (ns : List Int) : List Int := ns.foldr insU []
/-! ### set(xs) -/
/-! ### sorted(set(xs)) -/
section
variable {X : Cx} {g : Ct} {a : Expr} {f : Env' → T D} {pos : Pos}
def oSortSet (x : D) : T D := match x with
  | .list ds => match intsOf ds with
    | some ns => if ns.length < 64 then .ret (.list ((sortU ns).map PyData.int)) else .bad
    | none => .bad
  | _ => .bad
@[simp] theorem oSortSet_i {ns : List Int} : oSortSet (.list (ns.map PyData.int)) = if ns.length < 64 then .ret (.list ((sortU ns).map PyData.int)) else .bad := by
  unfold oSortSet
  simp only [intsOf_map]
end
end Wb
set_option Elab.async false
set_option linter.all false
set_option maxRecDepth 100000
set_option maxHeartbeats 4000000
/-! Wb, part 46: x in xs, xs a list or a tuple of data. -/
namespace Wb
open PySem PySem.Spec PyProof.Rows L2
def rInLT (K : PySem.W.Frag) : R2 := fun x y H Q => rInD K x y H Q ∨ ∃ d ds, Dp K H x d ∧ Dp K H y (.tuple ds) ∧ SeqAt.shaped d = true ∧ SeqAt.shaped (.tuple ds) = true ∧ Q (.bl (ds.any fun z => PyData.eqv z d)) H
theorem op_inLT {X : Cx} (hu : X.A.units + 65 < cLine) : OpR X (compareOp .In) (rInLT X.K) := by
  intro pins s σ H x y v u Q I rx ry h
  rcases h with h | ⟨d, ds, hd, he, sd, se, q⟩
  · exact op_inD hu pins s σ H x y v u Q I rx ry h
  · obtain ⟨as, r1⟩ := Dp.reads I d x v hd rx
    obtain ⟨bs, r2⟩ := Dp.reads I (.tuple ds) y u he ry
    have lay : PyData.canLayAll0 ds = true := SeqAt.canLay_of_shaped (d := .tuple ds) se
    exact SeqAt.in_tuple_reads r2 r1 lay (SeqAt.canLay_of_shaped sd) (room_in_shaped sd hu) ⟨.bl _, H, I, rfl, q⟩
def oInT (x y : D) : T D := match y with
  | .tuple ds => if (cEq x && cEq (.tuple ds)) = true then .ret (.bool (ds.any fun z => PyData.eqv z x)) else .bad
  | _ => oIn x y
theorem d_inT {K : PySem.W.Frag} : OpD (rInLT K) oInT := by
  intro β H0 H v w x y Q E e ok bf hv hw q
  have other : (oIn x y).wp (Out β H0 H Q) E → rInLT K v w H Q := fun q => .inl (d_in e ok bf hv hw q)
  cases y with
  | tuple ds =>
    have q : (if (cEq x && cEq (.tuple ds)) = true then T.ret (PyData.bool (ds.any fun z => PyData.eqv z x)) else .bad).wp (Out β H0 H Q) E := q
    split at q
    · next c =>
      rw [Bool.and_eq_true] at c
      obtain ⟨a1, a2⟩ := cEq_of c.1
      obtain ⟨b1, b2⟩ := cEq_of c.2
      exact .inr ⟨x, ds, hv.dp e a1, hw.dp e b1, a2, b2, out_ret e ok bf (.bl _) q⟩
    · exact q.elim
  | _ => exact other q
/-! ints -/
end Wb
set_option Elab.async false
set_option linter.all false
set_option maxRecDepth 100000
set_option maxHeartbeats 4000000
/-! Wb, part 47: sorted(set(xs)) of many ints; min, max of a list or tuple of ints; x.index(k) for a list or tuple of ints. -/
namespace Wb
open PySem PySem.Spec PyProof.Rows L2 RZ
section
variable {X : Cx} {g : Ct} {a : Expr} {f : Env' → T D} {pos : Pos}
def oSortSetN (x : D) : T D := match x with
  | .list ds => match intsOf ds with
    | some ns => if ns.length < 4000 then .ret (.list ((sortU ns).map PyData.int)) else .bad
    | none => .bad
  | _ => .bad
@[simp] theorem oSortSetN_i {ns : List Int} : oSortSetN (.list (ns.map PyData.int)) = if ns.length < 4000 then .ret (.list ((sortU ns).map PyData.int)) else .bad := by
  unfold oSortSetN
  simp only [intsOf_map]
end
/-! ### min, max of a tuple of ints -/
def CallR.or {X : Cx} {c : Value} {r r' : List V → Hp → VK → Prop} (h : CallR X c r) (h' : CallR X c r') : CallR X c (fun xs H Q => r xs H Q ∨ r' xs H Q) := fun pins s σ H xs us Q I rv z => z.elim (h pins s σ H xs us Q I rv) (h' pins s σ H xs us Q I rv)
def oMinS : D → T D
  | .tuple xs => match intsOf xs with
    | some (n :: ns) => .ret (.int (mnZ n ns))
    | _ => .bad
  | d => oMinL d
def oMaxS : D → T D
  | .tuple xs => match intsOf xs with
    | some (n :: ns) => .ret (.int (mxZ n ns))
    | _ => .bad
  | d => oMaxL d
@[simp] theorem oMinS_list {xs : List D} : oMinS (.list xs) = oMinL (.list xs) := rfl
@[simp] theorem oMaxS_list {xs : List D} : oMaxS (.list xs) = oMaxL (.list xs) := rfl
@[simp] theorem oMinS_tuple {n : Int} {ns : List Int} : oMinS (.tuple (.int n :: ns.map PyData.int)) = .ret (.int (mnZ n ns)) := by
  have e : PyData.int n :: ns.map PyData.int = (n :: ns).map PyData.int := rfl
  rw [e]
  unfold oMinS
  simp only [intsOf_map]
@[simp] theorem oMaxS_tuple {n : Int} {ns : List Int} : oMaxS (.tuple (.int n :: ns.map PyData.int)) = .ret (.int (mxZ n ns)) := by
  have e : PyData.int n :: ns.map PyData.int = (n :: ns).map PyData.int := rfl
  rw [e]
  unfold oMaxS
  simp only [intsOf_map]
end Wb
set_option Elab.async false
set_option linter.all false
set_option maxRecDepth 100000
set_option maxHeartbeats 4000000
/-! Wb, part 48: for i, (x, y) in enumerate(zip(a, b)); a, b each a list or a tuple. -/
namespace Wb
open PySem PySem.Spec PyProof.Rows L2 RZ
def oEnumZ : List Ar → T (List D)
  | [.d x, .d y] => match seqD x, seqD y with
    | some (_, xs), some (_, ys) => .ret (numD 0 ((xs.zip ys).map fun p => .tuple [p.1, p.2]))
    | _, _ => .bad
  | _ => .bad
section
variable {X : Cx} {g : Ct} {a b : Expr} {pos pos2 : Pos} {fs : Env' → T (List Ar)}
@[simp] theorem ev_enumZT {xs ys : List D} : oEnumZ [.d (.tuple xs), .d (.tuple ys)] = .ret (numD 0 ((xs.zip ys).map fun p => .tuple [p.1, p.2])) := rfl
end
end Wb
set_option Elab.async false
set_option linter.all false
set_option maxRecDepth 100000
set_option maxHeartbeats 4000000
/-! Wb, part 49: bool(x) of an int or a bool. -/
namespace Wb
open PySem PySem.Spec PyProof.Rows L2 RZ
def oBool : D → T D
  | .int i => .ret (.bool (i != 0))
  | .bool b => .ret (.bool b)
  | _ => .bad
@[simp] theorem oBool_int {i : Int} : oBool (.int i) = .ret (.bool (i != 0)) := rfl
@[simp] theorem oBool_bool {b : Bool} : oBool (.bool b) = .ret (.bool b) := rfl
end Wb
set_option Elab.async false
set_option linter.all false
set_option maxRecDepth 100000
set_option maxHeartbeats 4000000
/-! Wb, part 50: range with a step, a = b = c = e, a, b, c = x, y, z. -/
namespace Wb
open PySem PySem.Spec PyProof.Rows L2 RZ
variable {X : Cx} {g : Ct} {a b c : Expr} {f h t : Env' → T D} {pos : Pos} {st : Stmt} {tg : Expr} {fs : Env' → T (List Ar)}
def stepN (l n c : Int) : Nat := if l < n then ((n - l - 1) / c + 1).toNat else 0
def rangeS (lo c : Int) (n : Nat) : List D := (List.range n).map fun i => .int (lo + (i : Nat) * c)
def oRng3 : List Ar → T (List D)
  | [.d (.int l), .d (.int n), .d (.int c)] => if l.natAbs < 1000000000000 ∧ n.natAbs < 1000000000000 ∧ 0 < c ∧ c < 1000000 then .ret (rangeS l c (stepN l n c)) else .bad
  | _ => .bad
@[simp] theorem oRng3_ok {l n c : Int} (h : l.natAbs < 1000000000000 ∧ n.natAbs < 1000000000000 ∧ 0 < c ∧ c < 1000000) : oRng3 [.d (.int l), .d (.int n), .d (.int c)] = .ret (rangeS l c (stepN l n c)) := if_pos h
/-- a = b = c = e -/
def sSet3 (i j k : Nat) (f : Env' → T D) : Env' → T Fl := fun ρ => (f ρ).lift ρ fun d => .ret (.nx (((ρ.set i (.d d)).set j (.d d)).set k (.d d)))
@[simp] theorem ev_Set3 {i j k : Nat} {ρ : Env'} : sSet3 i j k f ρ = (f ρ).lift ρ fun d => .ret (.nx (((ρ.set i (.d d)).set j (.d d)).set k (.d d))) := rfl
/-- a, b, c = x, y, z -/
def threeN (i j k : Nat) (ρ : Env') : List Ar → T Fl
  | [.d x, .d y, .d z] => .ret (.nx (((ρ.set i (.d x)).set j (.d y)).set k (.d z)))
  | _ => .bad
@[simp] theorem threeN_3 {i j k : Nat} {ρ : Env'} {x y z : D} : threeN i j k ρ [.d x, .d y, .d z] = .ret (.nx (((ρ.set i (.d x)).set j (.d y)).set k (.d z))) := rfl
def sPar3 (i j k : Nat) (fs : Env' → T (List Ar)) : Env' → T Fl := fun ρ => (fs ρ).lift ρ (threeN i j k ρ)
@[simp] theorem ev_Par3 {i j k : Nat} {ρ : Env'} : sPar3 i j k fs ρ = (fs ρ).lift ρ (threeN i j k ρ) := rfl
end Wb
set_option Elab.async false
set_option linter.all false
set_option maxRecDepth 100000
set_option maxHeartbeats 4000000
/-! Wb, part 51: a list of one's own is walked in a comprehension; while with a fuel that the slots tell. -/
namespace Wb
open PySem PySem.Spec PyProof.Rows L2 RZ
def iownK : Option Sl → T (List D)
  | some (.own xs) => .ret xs
  | _ => .bad
/-- the items of a list of one's own -/
def iOwn (k : Nat) : Env' → T (List D) := fun ρ => iownK ρ[k]?
@[simp] theorem ev_iOwn {k : Nat} {ρ : Env'} : iOwn k ρ = iownK ρ[k]? := rfl
@[simp] theorem iownK_own {xs : List D} : iownK (some (.own xs)) = .ret xs := rfl
section
variable {X : Cx} {g : Ct} {st : Stmt} {vs js : List Nat} {it : Env' → T (List D)} {bd : D → Env' → Option Env'} {t e : Env' → T D} {F : Env' → T Fl}
/-- while, the fuel told by the slots -/
def sWhileF (n : Env' → Nat) (t : Env' → T D) (F : Env' → T Fl) : Env' → T Fl := fun ρ => whGo t F (n ρ) ρ
@[simp] theorem ev_WhileF {n : Env' → Nat} {ρ : Env'} : sWhileF n t F ρ = whGo t F (n ρ) ρ := rfl
end
end Wb
set_option Elab.async false
set_option linter.all false
set_option maxRecDepth 100000
set_option maxHeartbeats 4000000
/-! Wb, part 52: a lambda without parameters is handed to a def that calls it. -/
namespace Wb
open PySem PySem.Spec PyProof.Rows L2 RZ LamX
/-- all is kept but what stands at P -/
def KeepBut (P : Addr) (G G' : Hp) : Prop := ∀ x u, x ≠ P → G x = some u → G' x = some u
theorem KeepBut.refl (P : Addr) (G : Hp) : KeepBut P G G := fun _ _ _ e => e
/-! ### a def that calls what it got -/
/-- the box under another value -/
def Box.at (β : Box) (v : V) : Box := { β with v := v }
theorem Stp.at {β : Box} {v : V} {H0 H H0' H' : Hp} (h : Stp β H0 H H0' H') : Stp (β.at v) H0 H H0' H' := ⟨h.grow, h.ext, h.ok, h.boxf, h.priv⟩
theorem Stp.un {β : Box} {v : V} {H0 H H0' H' : Hp} (h : Stp (β.at v) H0 H H0' H') : Stp β H0 H H0' H' := ⟨h.grow, h.ext, h.ok, h.boxf, h.priv⟩
def askK (t : T D) : Option Sl → T D
  | some .fn => t
  | _ => .bad
/-- a(), a the first parameter -/
def eAsk (t : T D) : Env' → T D := fun ρ => askK t ρ[0]?
@[simp] theorem ev_Ask {t : T D} {ρ : Env'} : eAsk t (.fn :: ρ) = t := rfl
/-- the box knows the table at tA -/
structure BoxT (tA : Addr) (q : Str) (β : Box) : Prop where
  tab : ∀ H, β.ok H → TabS H tA q
  own : β.S tA
  cod : ∀ H c y, β.ok H → H c = some (CodeO c y) → ¬ β.S c
  new : ∀ H H', β.ok H → KeepBut tA H H' → TabS H' tA q → β.ok H'
end Wb
set_option Elab.async false
set_option linter.all false
set_option maxRecDepth 100000
set_option maxHeartbeats 4000000
/-! Wb, part 53: defs that call what they got, by their names; which boxes know their tables. -/
namespace Wb
open PySem PySem.Spec PyProof.Rows L2 RZ LamX
/-- m of what the handed expression does -/
def eLam (m : T D → T D) (fb : Env' → T D) : Env' → T D := fun ρ => m (fb ρ)
@[simp] theorem ev_Lam {m : T D → T D} {fb : Env' → T D} {ρ : Env'} : eLam m fb ρ = m (fb ρ) := rfl
end Wb
set_option Elab.async false
set_option linter.all false
set_option maxRecDepth 100000
set_option maxHeartbeats 4000000
/-! Wb, part 54: the law is called where tables of code objects are tracked. -/
namespace Wb
open PySem PySem.Spec PyProof.Rows L2 RZ LamX
/-- the boxes that know all the tables -/
def BxAll (TB : List (Addr × Str)) (β : Box) : Prop := ∀ r ∈ TB, BoxT r.1 r.2 β
theorem BxAll.one {TB : List (Addr × Str)} {β : Box} {tA : Addr} {q : Str} (h : (tA, q) ∈ TB) (b : BxAll TB β) : BoxT tA q β ∧ ∀ v, BxAll TB (β.at v) :=
  ⟨b _ h, fun v r hr => ⟨(b r hr).tab, (b r hr).own, (b r hr).cod, (b r hr).new⟩⟩
end Wb
set_option Elab.async false
set_option linter.all false
set_option maxRecDepth 100000
set_option maxHeartbeats 4000000
/-! Wb, part 55: the end of a law whose defs make lambdas. -/
namespace Wb
open PySem PySem.Spec PyProof.Rows L2 RZ LamX
theorem all_cons {α : Type} {P : α → Prop} {a : α} {l : List α} (h : P a) (t : ∀ p ∈ l, P p) : ∀ p ∈ a :: l, P p := fun p hp => by
  rcases List.mem_cons.mp hp with rfl | hp'
  · exact h
  · exact t p hp'
end Wb
set_option Elab.async false
set_option linter.all false
set_option maxRecDepth 100000
set_option maxHeartbeats 4000000
/-! Wb, part 56: len(set(xs)) of a list of different ints. -/
namespace Wb
open PySem PySem.Spec PyProof.Rows L2 RZ
end Wb
set_option Elab.async false
set_option linter.all false
set_option maxRecDepth 100000
set_option maxHeartbeats 4000000
/-! Wb, part 57: heights that are raised link by link, and the ring that bars them. -/
namespace Wb
/-- a link: its plane, its source, its rise, what it is of -/
structure Lk where
  p : Nat
  s : Nat
  w : Int
  d : D
/-- heights, by which link each was raised, in which round -/
structure Ra where
  H : Nat → Int
  B : Nat → Option Lk
  R : Nat → Nat
def setF {α : Type} (f : Nat → α) (p : Nat) (x : α) : Nat → α := fun q => if q = p then x else f q
def up1 (t : Nat) (a : Ra × Option Nat) (l : Lk) : Ra × Option Nat :=
  if a.1.H l.p < a.1.H l.s + l.w then (⟨setF a.1.H l.p (a.1.H l.s + l.w), setF a.1.B l.p (some l), setF a.1.R l.p t⟩, some l.p) else a
/-- back k steps: where one is, what was risen -/
def back (B : Nat → Option Lk) : Nat → Nat → Option (Nat × Int)
  | 0, p => some (p, 0)
  | k + 1, p => match B p with
    | none => none
    | some l => (back B k l.s).map fun q => (q.1, q.2 + l.w)
end Wb
set_option Elab.async false
set_option linter.all false
set_option maxRecDepth 100000
set_option maxHeartbeats 4000000
/-! Wb, part 58: x is not True; a, b = (e, [.. for ..]) with b a list of one's own. -/
namespace Wb
open PySem PySem.Spec PyProof.Rows L2 RZ
end Wb
set_option Elab.async false
set_option linter.all false
set_option maxRecDepth 100000
set_option maxHeartbeats 4000000
/-! Wb, part 59: == with a str, whatever the other one is. -/
namespace Wb
open PySem PySem.Spec PyProof PyProof.Rows L2
end Wb
set_option Elab.async false
set_option linter.all false
set_option maxRecDepth 100000
set_option maxHeartbeats 4000000
/-! Wb, part 60: != with a str, whatever the other one is. -/
namespace Wb
open PySem PySem.Spec PyProof PyProof.Rows L2
end Wb
set_option Elab.async false
set_option linter.all false
set_option maxRecDepth 100000
set_option maxHeartbeats 4000000
/-! Wb, part 61: x not in xs, xs a list or a tuple of data. -/
namespace Wb
open PySem PySem.Spec PyProof.Rows L2
def rNotInLT (K : PySem.W.Frag) : R2 := fun x y H Q => rNotInD K x y H Q ∨ ∃ d ds, Dp K H x d ∧ Dp K H y (.tuple ds) ∧ SeqAt.shaped d = true ∧ SeqAt.shaped (.tuple ds) = true ∧ Q (.bl (!ds.any fun z => PyData.eqv z d)) H
theorem op_notInLT {X : Cx} (hu : X.A.units + 65 < cLine) : OpR X (compareOp .NotIn) (rNotInLT X.K) := by
  intro pins s σ H x y v u Q I rx ry h
  rcases h with h | ⟨d, ds, hd, he, sd, se, q⟩
  · exact op_notInD hu pins s σ H x y v u Q I rx ry h
  · obtain ⟨as, r1⟩ := Dp.reads I d x v hd rx
    obtain ⟨bs, r2⟩ := Dp.reads I (.tuple ds) y u he ry
    have lay : PyData.canLayAll0 ds = true := SeqAt.canLay_of_shaped (d := .tuple ds) se
    exact SeqAt.notIn_tuple_reads r2 r1 lay (SeqAt.canLay_of_shaped sd) (room_in_shaped sd hu) ⟨.bl _, H, I, rfl, q⟩
def oNotInT (x y : D) : T D := match y with
  | .tuple ds => if (cEq x && cEq (.tuple ds)) = true then .ret (.bool (!ds.any fun z => PyData.eqv z x)) else .bad
  | _ => oNotIn x y
theorem d_notInT {K : PySem.W.Frag} : OpD (rNotInLT K) oNotInT := by
  intro β H0 H v w x y Q E e ok bf hv hw q
  have other : (oNotIn x y).wp (Out β H0 H Q) E → rNotInLT K v w H Q := fun q => .inl (d_notIn e ok bf hv hw q)
  cases y with
  | tuple ds =>
    have q : (if (cEq x && cEq (.tuple ds)) = true then T.ret (PyData.bool (!ds.any fun z => PyData.eqv z x)) else .bad).wp (Out β H0 H Q) E := q
    split at q
    · next c =>
      rw [Bool.and_eq_true] at c
      obtain ⟨a1, a2⟩ := cEq_of c.1
      obtain ⟨b1, b2⟩ := cEq_of c.2
      exact .inr ⟨x, ds, hv.dp e a1, hw.dp e b1, a2, b2, out_ret e ok bf (.bl _) q⟩
    · exact q.elim
  | _ => exact other q
end Wb
set_option Elab.async false
set_option linter.all false
set_option maxRecDepth 100000
set_option maxHeartbeats 4000000
/-! Wb, part 62: x or y, x None or an int. -/
namespace Wb
open PySem PySem.Spec PyProof.Rows L2
section
variable {X : Cx} {g : Ct} {a b : Expr} {rest : List Expr} {pos : Pos} {ta tb : TE} {f h : Env' → T D}
def eOrV (f h : Env' → T D) : Env' → T D := fun ρ => (f ρ).bind fun x => match x with
  | .none => h ρ
  | .int i => if i = 0 then h ρ else .ret (.int i)
  | _ => .bad
end
@[simp] theorem ev_orV {f h : Env' → T D} {ρ : Env'} : eOrV f h ρ = (f ρ).bind fun x => match x with
  | .none => h ρ
  | .int i => if i = 0 then h ρ else .ret (.int i)
  | _ => .bad := rfl
end Wb
set_option Elab.async false
set_option linter.all false
set_option maxRecDepth 100000
set_option maxHeartbeats 4000000
/-! Wb, part 63: slices of strs. -/
namespace Wb
open PySem PySem.Spec PyProof.Rows L2
section
variable {X : Cx} {g : Ct} {a : Expr} {pos p2 : Pos} {lo hi : Option Expr} {f : Env' → T D} {l u : Env' → T (Option Int)}
def oSlX (x : D) (lo hi : Option Int) : T D := match x with
  | .str z => if z.length ≤ 10000000 then .ret (.str (Txt.slice z lo hi)) else .bad
  | _ => .bad
def eSlX (f : Env' → T D) (l u : Env' → T (Option Int)) : Env' → T D := fun ρ => (f ρ).bind fun x => (l ρ).bind fun lo => (u ρ).bind fun hi => oSlX x lo hi
theorem r_slX (ha : PE X a (tE g f)) (hl : PO X lo (tO g l)) (hu : PO X hi (tO g u)) : PE X (.Subscript a (.Slice lo hi none p2) pos) (tE g (eSlX f l u)) :=
  (pe_slice C8.sl_txt ha hl hu).imp fun σ H Q ⟨β, H0, ρ, rr, q⟩ => tE_then rr q fun d v H1 H2 st hv q1 => by
    have rr1 := rr.step st
    refine tO_then rr1 (wp_out st q1) fun o1 H3 H4 st2 q2 => ?_
    have rr2 := rr1.step st2
    refine tO_then rr2 (wp_out st2 q2) fun o2 H5 H6 st3 q3 => ?_
    have q4 := wp_out st3 q3
    have hv' := (hv.mono st2.grow).mono st3.grow
    cases hv' with
    | str z =>
      have q5 : (if z.length ≤ 10000000 then T.ret (PyData.str (Txt.slice z o1 o2)) else .bad).wp (Out β H5 H6 Q) (g.X β H5 H6 σ) := q4
      by_cases h : z.length ≤ 10000000
      · rw [if_pos h] at q5
        exact ⟨z, rfl, Nat.le_trans h (by decide), q5 (.str _) H5 H6 (Stp.refl st3.ext st3.ok st3.boxf) (.str _)⟩
      · rw [if_neg h] at q5
        exact q5.elim
    | _ => exact q4.elim
end
@[simp] theorem ev_slX {f : Env' → T D} {l u : Env' → T (Option Int)} {ρ : Env'} : eSlX f l u ρ = (f ρ).bind fun x => (l ρ).bind fun lo => (u ρ).bind fun hi => oSlX x lo hi := rfl
end Wb
set_option Elab.async false
set_option linter.all false
set_option maxRecDepth 100000
set_option maxHeartbeats 4000000
/-! Wb, part 64: sorted(xs) of a list of alike data (ints, tuples of them ..). -/
namespace Wb
open PySem PySem.Spec PyProof.Rows L2 RZ
open PySem.W (EachIs AllAlike Sortable dataLe alike)
theorem each_reads {h : Heap} : ∀ {vs : List Value} {ds : List PyData} {as : List Addr}, ReadsAll h vs ds as → EachIs (fun v d => ∃ as, Reads h v d as) vs ds
  | _, _, _, .nil => .nil
  | _, _, _, .cons r rs => .cons ⟨_, r⟩ (each_reads rs)
theorem DpAll.len {K : PySem.W.Frag} {H : Hp} : ∀ {vs : List V} {ds : List D}, DpAll K H vs ds → vs.length = ds.length
  | _, _, .nil => rfl
  | _, _, .cons _ r => by
    have := DpAll.len r
    simp [this]
end Wb
set_option Elab.async false
set_option linter.all false
set_option maxRecDepth 100000
set_option maxHeartbeats 4000000
/-! Wb, part 65: x = xs.pop(), while xs != []: and a, b = ([..], [..]) of lists of one's own. -/
namespace Wb
open PySem PySem.Spec PyProof.Rows L2 RZ
/-! ### x = xs.pop() -/
def popK (i k : Nat) (ρ : Env') : Option Sl → T Fl
  | some (.own xs) => match xs.getLast? with
    | some d => .ret (.nx ((ρ.set k (.own xs.dropLast)).set i (.d d)))
    | none => .bad
  | _ => .bad
def sPop (i k : Nat) : Env' → T Fl := fun ρ => popK i k ρ ρ[k]?
@[simp] theorem ev_Pop {i k : Nat} {ρ : Env'} : sPop i k ρ = popK i k ρ ρ[k]? := rfl
theorem HasL.dropLast {H : Hp} {vs : List V} {ds : List D} (h : HasL H vs ds) : HasL H vs.dropLast ds.dropLast := by
  rw [List.dropLast_eq_take, List.dropLast_eq_take, h.length]
  exact h.take _
section
variable {X : Cx} {g : Ct} {st : Stmt}
/-! ### whether a list of one's own is empty -/
def oneK : Option Sl → T D
  | some (.own xs) => .ret (.bool (!xs.isEmpty))
  | _ => .bad
/-- xs != [], and the truth of xs -/
def eONe (k : Nat) : Env' → T D := fun ρ => oneK ρ[k]?
@[simp] theorem ev_ONe {k : Nat} {ρ : Env'} : eONe k ρ = oneK ρ[k]? := rfl
@[simp] theorem oneK_own {xs : List D} : oneK (some (.own xs)) = .ret (.bool (!xs.isEmpty)) := rfl
def oeqK : Option Sl → T D
  | some (.own xs) => .ret (.bool xs.isEmpty)
  | _ => .bad
/-- xs == [] -/
def eOEq (k : Nat) : Env' → T D := fun ρ => oeqK ρ[k]?
@[simp] theorem ev_OEq {k : Nat} {ρ : Env'} : eOEq k ρ = oeqK ρ[k]? := rfl
@[simp] theorem oeqK_own {xs : List D} : oeqK (some (.own xs)) = .ret (.bool xs.isEmpty) := rfl
variable {x : Str} {p p2 pos : Pos}
theorem q_oeq {k : Nat} (hu : X.A.units + 64 < cLine) (hp : PE X (.Name x p) (tVar k)) (hm : behindInMarks .Eq (.List [] p2) = false) : PT X (.Compare (.Name x p) [.Eq] [.List [] p2] pos) (tT g (eOEq k)) :=
  (pt_cmpR (op_eqNil hu) hp (pe_lst pa_nil) hm).imp fun σ H Q ⟨β, H0, ρ, r, q⟩ => by
    unfold eOEq at q
    cases hx : ρ[k]? with
    | none =>
      rw [hx] at q
      exact q.elim
    | some sl =>
      rw [hx] at q
      cases sl with
      | own xs =>
        obtain ⟨a, vs, e1, e2, e3⟩ := own_rel r hx
        refine ⟨.ref a, e1, lim_line (by simp), fun b hb => ⟨a, b, vs, rfl, rfl, .inr ⟨SqL.of ?_, SqL.of upd_same⟩, _, rfl, ?_⟩⟩
        · rw [upd_ne (ne_of_none e2 hb)]
          exact e2
        · obtain ⟨z, e, hq⟩ := q
          cases e
          rw [id_eq, e3.isEmpty]
          exact hq H0 _ (r.junk hb)
      | _ => exact q.elim
theorem q_otruth {k : Nat} (hp : PE X (.Name x p) (tVar k)) (he : ∀ whole, isTrue (.Name x p) X.env whole = (do let v ← whole; standAt (Expr.Name x p).pos; holding [v] (truthy v)) := by intro _; rfl) : PT X (.Name x p) (tT g (eONe k)) :=
  (pt_truth hp he).imp fun σ H Q ⟨β, H0, ρ, r, q⟩ => by
    unfold eONe at q
    cases hx : ρ[k]? with
    | none =>
      rw [hx] at q
      exact q.elim
    | some sl =>
      rw [hx] at q
      cases sl with
      | own xs =>
        obtain ⟨a, vs, e1, e2, e3⟩ := own_rel r hx
        obtain ⟨z, e, hq⟩ := q
        cases e
        exact ⟨.ref a, e1, _, .inl ⟨_, SqL.of e2, by rw [e3.isEmpty]⟩, hq H0 _ r.refl⟩
      | _ => exact q.elim
/-! ### a, b = ([..], [..]) -/
def sParOO (i j : Nat) (l m : Env' → T (List D)) : Env' → T Fl := fun ρ => (l ρ).lift ρ fun xs => (m ρ).lift ρ fun ys => .ret (.nx ((ρ.set i (.own xs)).set j (.own ys)))
@[simp] theorem ev_ParOO {i j : Nat} {l m : Env' → T (List D)} {ρ : Env'} : sParOO i j l m ρ = (l ρ).lift ρ fun xs => (m ρ).lift ρ fun ys => .ret (.nx ((ρ.set i (.own xs)).set j (.own ys))) := rfl
theorem SR.junked {β : Box} {A B C H0 H : Hp} {ρ : Env'} {σ : L2.St} (r : SR g β A B C H0 ρ σ H) {p : Addr} {o : HO} (hp : H p = none) : SR g β A B C H0 ρ σ (upd H p o) := r.step (r.rel.junk hp)
end
end Wb
set_option Elab.async false
set_option linter.all false
set_option maxRecDepth 100000
set_option maxHeartbeats 4000000
/-! Wb, part 66: comprehensions over what is known by its own names. -/
namespace Wb
open PySem PySem.Spec PyProof.Rows L2
section
variable {bd : D → Env' → Option Env'} {t e : Env' → T D} {ρ : Env'}
theorem lc_rows {α : Type} {mk f : α → D} : ∀ (L : List α), (∀ r ∈ L, ∃ ρ1, bd (mk r) ρ = some ρ1 ∧ t ρ1 = .ret (.bool true) ∧ e ρ1 = .ret (f r)) → lcGo bd t e ρ (L.map mk) = .ret (L.map f)
  | [], _ => rfl
  | d :: r, h => by
    obtain ⟨ρ1, e1, e2, e3⟩ := h d (List.mem_cons_self ..)
    rw [List.map_cons]
    unfold lcGo
    rw [e1]
    simp only [e2, e3, T.quiet, T.ret_bind]
    rw [lc_rows r fun d hd => h d (List.mem_cons_of_mem _ hd)]
    rfl
theorem lc_rowsF {α : Type} {mk f : α → D} {p : α → Bool} : ∀ (L : List α), (∀ r ∈ L, ∃ ρ1, bd (mk r) ρ = some ρ1 ∧ t ρ1 = .ret (.bool (p r)) ∧ (p r = true → e ρ1 = .ret (f r))) → lcGo bd t e ρ (L.map mk) = .ret ((L.filter p).map f)
  | [], _ => rfl
  | d :: r, h => by
    obtain ⟨ρ1, e1, e2, e3⟩ := h d (List.mem_cons_self ..)
    have ih := lc_rowsF r fun d hd => h d (List.mem_cons_of_mem _ hd)
    rw [List.map_cons]
    unfold lcGo
    rw [e1]
    simp only [e2, T.quiet, T.ret_bind]
    cases hp : p d with
    | true =>
      simp only [e3 hp, T.quiet, T.ret_bind, ih, List.filter_cons, hp, if_true, List.map_cons]
    | false =>
      simp only [ih, List.filter_cons, hp]
      rfl
end
end Wb
set_option Elab.async false
set_option linter.all false
set_option maxRecDepth 100000
set_option maxHeartbeats 4000000
/-! Wb, part 67: a list of one's own is lent to an expression: it is data there, and one's own again behind it. -/
namespace Wb
open PySem PySem.Spec PyProof.Rows L2 RZ
/-! ### a value stands for one data -/
mutual
theorem Has.one {H : Hp} : ∀ {v : V} {d d' : D}, Has H v d → Has H v d' → d = d'
  | _, _, _, .non, h => by cases h; rfl
  | _, _, _, .bl b, h => by cases h; rfl
  | _, _, _, .int i, h => by cases h; rfl
  | _, _, _, .str x, h => by cases h; rfl
  | _, _, _, .lst e r, h => by
    cases h with
    | lst e' r' =>
      rw [e] at e'
      cases e'
      rw [HasL.one r r']
    | tup e' _ _ => rw [e] at e'; cases e'
    | dct e' _ => rw [e] at e'; cases e'
  | _, _, _, .tup e _ r, h => by
    cases h with
    | tup e' hdm r' =>
      rw [e] at e'
      cases e'
      rw [HasL.one r r']
    | lst e' _ => rw [e] at e'; cases e'
    | dct e' _ => rw [e] at e'; cases e'
  | _, _, _, .dct e r, h => by
    cases h with
    | dct e' r' =>
      rw [e] at e'
      cases e'
      rw [HasK.one r r']
    | lst e' _ => rw [e] at e'; cases e'
    | tup e' _ _ => rw [e] at e'; cases e'
theorem HasL.one {H : Hp} : ∀ {vs : List V} {ds ds' : List D}, HasL H vs ds → HasL H vs ds' → ds = ds'
  | _, _, _, .nil, h => by cases h; rfl
  | _, _, _, .cons a r, h => by
    cases h with
    | cons a' r' => rw [Has.one a a', HasL.one r r']
theorem HasK.one {H : Hp} : ∀ {vs : List (Key × V)} {ds ds' : List (D × D)}, HasK H vs ds → HasK H vs ds' → ds = ds'
  | _, _, _, .nil, h => by cases h; rfl
  | _, _, _, .cons a r, h => by
    cases h with
    | cons a' r' => rw [Has.one a a', HasK.one r r']
end
def kindD : D → Nat
  | .none => 0
  | .bool _ => 1
  | .int _ => 2
  | .str _ => 3
  | .list _ => 4
  | .tuple _ => 5
  | .dict _ => 6
mutual
/-- no list in it has items of just these kinds -/
def apD (ks : List Nat) : D → Bool
  | .list ys => !decide (ys.map kindD = ks) && apDs ks ys
  | .tuple ys => apDs ks ys
  | .dict _ => false
  | _ => true
def apDs (ks : List Nat) : List D → Bool
  | [] => true
  | y :: r => apD ks y && apDs ks r
end
/-! ### the list is lent -/
def lendK (k : Nat) (f : Env' → T D) (ρ : Env') : Option Sl → T D
  | some (.own xs) => ((f (ρ.set k (.d (.list xs)))).quiet).bind fun d => if apD (xs.map kindD) d = true then .ret d else .bad
  | _ => .bad
def eLend (k : Nat) (f : Env' → T D) : Env' → T D := fun ρ => lendK k f ρ ρ[k]?
@[simp] theorem ev_Lend {k : Nat} {f : Env' → T D} {ρ : Env'} : eLend k f ρ = lendK k f ρ ρ[k]? := rfl
@[simp] theorem lendK_own {k : Nat} {f : Env' → T D} {ρ : Env'} {xs : List D} : lendK k f ρ (some (.own xs)) = ((f (ρ.set k (.d (.list xs)))).quiet).bind fun d => if apD (xs.map kindD) d = true then .ret d else .bad := rfl
end Wb
set_option Elab.async false
set_option linter.all false
set_option maxRecDepth 100000
set_option maxHeartbeats 4000000
/-! Wb, part 68: the sum of a list or a tuple of ints. -/
namespace Wb
open PySem PySem.Spec PyProof.Rows L2 RZ
def oSumS : D → T D
  | .tuple xs => match intsOf xs with
    | some ns => .ret (.int ns.sum)
    | none => .bad
  | d => oSum d
@[simp] theorem oSumS_list {xs : List D} : oSumS (.list xs) = oSum (.list xs) := rfl
end Wb
set_option Elab.async false
set_option linter.all false
set_option maxRecDepth 100000
set_option maxHeartbeats 4000000
/-! Wb, part 69: a == b == c of ints; xs[i] += e of a list of one's own; any(xs), xs a list of ints. -/
namespace Wb
open PySem PySem.Spec PyProof.Rows L2 RZ
/-! ### any -/
/-! ### xs[i] += e -/
def augI (f : Int → Int → Int) (k : Nat) (ρ : Env') (xs : List D) (z : Nat) (a : Int) : D → T Fl
  | .int b => .ret (.nx (ρ.set k (.own (xs.set z (.int (f a b))))))
  | _ => .bad
def augD (f : Int → Int → Int) (k : Nat) (fv : Env' → T D) (ρ : Env') (xs : List D) (z : Nat) : Option D → T Fl
  | some (.int a) => (fv ρ).lift ρ (augI f k ρ xs z a)
  | _ => .bad
def augZ (f : Int → Int → Int) (k : Nat) (fv : Env' → T D) (ρ : Env') (xs : List D) : D → T Fl
  | .int z => if 0 ≤ z then augD f k fv ρ xs z.toNat xs[z.toNat]? else .bad
  | _ => .bad
def augK (f : Int → Int → Int) (k : Nat) (fi fv : Env' → T D) (ρ : Env') : Option Sl → T Fl
  | some (.own xs) => (fi ρ).lift ρ (augZ f k fv ρ xs)
  | _ => .bad
def sPutAug (f : Int → Int → Int) (k : Nat) (fi fv : Env' → T D) : Env' → T Fl := fun ρ => augK f k fi fv ρ ρ[k]?
@[simp] theorem ev_PutAug {f : Int → Int → Int} {k : Nat} {fi fv : Env' → T D} {ρ : Env'} : sPutAug f k fi fv ρ = augK f k fi fv ρ ρ[k]? := rfl
@[simp] theorem augK_own {f : Int → Int → Int} {k : Nat} {fi fv : Env' → T D} {ρ : Env'} {xs : List D} : augK f k fi fv ρ (some (.own xs)) = (fi ρ).lift ρ (augZ f k fv ρ xs) := rfl
@[simp] theorem augI_int {f : Int → Int → Int} {k : Nat} {ρ : Env'} {xs : List D} {j : Nat} {a b : Int} : augI f k ρ xs j a (.int b) = .ret (.nx (ρ.set k (.own (xs.set j (.int (f a b)))))) := rfl
end Wb
set_option Elab.async false
set_option linter.all false
set_option maxRecDepth 100000
set_option maxHeartbeats 4000000
/-! Wb, part 70: a list of lists that are made, each at its turn: they stand apart, and nothing else knows them. -/
namespace Wb
open PySem PySem.Spec PyProof.Rows L2
def OutLL (β : Box) (H0 H : Hp) (Q : VK) (rows : List (List D)) : Prop := ∀ p qs H0' H', Stp β H0 H H0' H' → H p = none → H' p = some (.lst (qs.map V.ref)) → H0' p = none → ¬ β.S p → p ∉ qs → Rws β H0' H' qs rows → (∀ q ∈ qs, H q = none) → Q (.ref p) H'
theorem none_back {β : Box} {H0 H H0' H' : Hp} (st : Stp β H0 H H0' H') {p : Addr} (hn : H' p = none) (hS : ¬ β.S p) : H p = none := by
  cases e : H p with
  | none => rfl
  | some o =>
    exfalso
    cases e0 : H0 p with
    | none =>
      have := (st.priv p o e e0).2 hS
      rw [hn] at this
      cases this
    | some u =>
      have := st.ext p u (st.grow p u e0)
      rw [hn] at this
      cases this
theorem OutLL.step {β : Box} {H0 H H0' H' : Hp} {Q : VK} {rows : List (List D)} (st : Stp β H0 H H0' H') (h : OutLL β H0 H Q rows) : OutLL β H0' H' Q rows := fun p qs H2 H3 s hn h1 h2 h3 h4 hr hq =>
  h p qs H2 H3 (st.trans s) (none_back st hn h3) h1 h2 h3 h4 hr fun q hm => none_back st (hq q hm) (rws_some hr q hm).2.2
end Wb
set_option Elab.async false
set_option linter.all false
set_option maxRecDepth 100000
set_option maxHeartbeats 4000000
/-! Wb, part 71: [..] * k as a list that is made; the comprehension of such lists as an expression. -/
namespace Wb
open PySem PySem.Spec PyProof.Rows L2
def lBin (o : D → D → T (List D)) (f h : Env' → T D) : Env' → T (List D) := fun ρ => (f ρ).bind fun x => (h ρ).bind fun y => o x y
@[simp] theorem ev_lBin {o : D → D → T (List D)} {f h : Env' → T D} {ρ : Env'} : lBin o f h ρ = (f ρ).bind fun x => (h ρ).bind fun y => o x y := rfl
end Wb
set_option Elab.async false
set_option linter.all false
set_option maxRecDepth 100000
set_option maxHeartbeats 4000000
/-! Wb, part 72: a slot for a list of lists of one's own: made, read, put to, appended to, frozen. -/
namespace Wb
open PySem PySem.Spec PyProof.Rows L2
/-! ### a list of lists is made -/
def sRows (i : Nat) (fs : Env' → T (List (List D))) : Env' → T Fl := fun ρ => (fs ρ).lift ρ fun rows => .ret (.nx (ρ.set i (.oth (.rows rows))))
@[simp] theorem ev_Rows {i : Nat} {fs : Env' → T (List (List D))} {ρ : Env'} : sRows i fs ρ = (fs ρ).lift ρ fun rows => .ret (.nx (ρ.set i (.oth (.rows rows)))) := rfl
def sParRD (i j : Nat) (fs : Env' → T (List (List D))) (f : Env' → T D) : Env' → T Fl := fun ρ => (fs ρ).lift ρ fun rows => (f ρ).lift ρ fun d => .ret (.nx ((ρ.set i (.oth (.rows rows))).set j (.d d)))
@[simp] theorem ev_ParRD {i j : Nat} {fs : Env' → T (List (List D))} {f : Env' → T D} {ρ : Env'} : sParRD i j fs f ρ = (fs ρ).lift ρ fun rows => (f ρ).lift ρ fun d => .ret (.nx ((ρ.set i (.oth (.rows rows))).set j (.d d))) := rfl
section
variable {X : Cx} {g : Ct} {st : Stmt} {sts : List Stmt} {fs : Env' → T (List (List D))} {f fi fj fv : Env' → T D} {F : Env' → T Fl}
/-! ### found[i][j] -/
def rowK {α : Type} (rows : List (List D)) (k : Nat → List D → T α) : D → T α
  | .int z => match ixN rows.length z with
    | some i => match rows[i]? with
      | some row => k i row
      | none => .bad
    | none => .bad
  | _ => .bad
def rixK (fi fj : Env' → T D) (ρ : Env') : Option Sl → T D
  | some (.oth (.rows rows)) => (fi ρ).bind (rowK rows fun _ row => (fj ρ).bind (oixI row))
  | _ => .bad
def eRIx (k : Nat) (fi fj : Env' → T D) : Env' → T D := fun ρ => rixK fi fj ρ ρ[k]?
@[simp] theorem ev_RIx {k : Nat} {ρ : Env'} : eRIx k fi fj ρ = rixK fi fj ρ ρ[k]? := rfl
@[simp] theorem rixK_rows {ρ : Env'} {rows : List (List D)} : rixK fi fj ρ (some (.oth (.rows rows))) = (fi ρ).bind (rowK rows fun _ row => (fj ρ).bind (oixI row)) := rfl
/-! ### found[i][j] = e -/
def rputI (k : Nat) (ρ : Env') (rows : List (List D)) (i : Nat) (row : List D) (d : D) : D → T Fl
  | .int z => match ixN row.length z with
    | some j => .ret (.nx (ρ.set k (.oth (.rows (rows.set i (row.set j d))))))
    | none => .bad
  | _ => .bad
def rputK (k : Nat) (fi fj fv : Env' → T D) (ρ : Env') : Option Sl → T Fl
  | some (.oth (.rows rows)) => (fv ρ).lift ρ fun d => (fi ρ).lift ρ (rowK rows fun i row => (fj ρ).lift ρ (rputI k ρ rows i row d))
  | _ => .bad
def sRPut (k : Nat) (fi fj fv : Env' → T D) : Env' → T Fl := fun ρ => rputK k fi fj fv ρ ρ[k]?
@[simp] theorem ev_RPut {k : Nat} {ρ : Env'} : sRPut k fi fj fv ρ = rputK k fi fj fv ρ ρ[k]? := rfl
@[simp] theorem rputK_rows {k : Nat} {ρ : Env'} {rows : List (List D)} : rputK k fi fj fv ρ (some (.oth (.rows rows))) = (fv ρ).lift ρ fun d => (fi ρ).lift ρ (rowK rows fun i row => (fj ρ).lift ρ (rputI k ρ rows i row d)) := rfl
/-! ### found[i].append(e) -/
def rappK (k : Nat) (fi f : Env' → T D) (ρ : Env') : Option Sl → T Fl
  | some (.oth (.rows rows)) => (fi ρ).lift ρ (rowK rows fun i row => (f ρ).lift ρ fun d => if row.length < 1000000 then .ret (.nx (ρ.set k (.oth (.rows (rows.set i (row ++ [d])))))) else .bad)
  | _ => .bad
def sRApp (k : Nat) (fi f : Env' → T D) : Env' → T Fl := fun ρ => rappK k fi f ρ ρ[k]?
@[simp] theorem ev_RApp {k : Nat} {ρ : Env'} : sRApp k fi f ρ = rappK k fi f ρ ρ[k]? := rfl
@[simp] theorem rappK_rows {k : Nat} {ρ : Env'} {rows : List (List D)} : rappK k fi f ρ (some (.oth (.rows rows))) = (fi ρ).lift ρ (rowK rows fun i row => (f ρ).lift ρ fun d => if row.length < 1000000 then .ret (.nx (ρ.set k (.oth (.rows (rows.set i (row ++ [d])))))) else .bad) := rfl
/-! ### from here on it is data -/
def frRK (i : Nat) (F : Env' → T Fl) (ρ : Env') : Option Sl → T Fl
  | some (.oth (.rows rows)) => F (ρ.set i (.d (.list (rows.map PyData.list))))
  | _ => F ρ
def sFrzR (i : Nat) (F : Env' → T Fl) : Env' → T Fl := fun ρ => frRK i F ρ ρ[i]?
@[simp] theorem ev_FrzR {i : Nat} {ρ : Env'} : sFrzR i F ρ = frRK i F ρ ρ[i]? := rfl
@[simp] theorem frRK_rows {i : Nat} {ρ : Env'} {rows : List (List D)} : frRK i F ρ (some (.oth (.rows rows))) = F (ρ.set i (.d (.list (rows.map PyData.list)))) := rfl
end
end Wb
set_option Elab.async false
set_option linter.all false
set_option maxRecDepth 100000
set_option maxHeartbeats 4000000
/-! Wb, part 73: a display as a list that is made. -/
namespace Wb
open PySem PySem.Spec PyProof.Rows L2
/-! ### rows = [[..] for ..] -/
/-! ### rows, e = ([..], e) where a name is captured: a tuple that is unpacked -/
end Wb
set_option Elab.async false
set_option linter.all false
set_option maxRecDepth 100000
set_option maxHeartbeats 4000000
/-! Wb, part 74: enumerate with a start; reversed(range(n)). -/
namespace Wb
open PySem PySem.Spec PyProof.Rows L2 RZ
open PySem.AutoSeq1 (wpAny_loadPart')
def oEnumS (x k : D) : T (List D) := match k with
  | .int n => if 0 ≤ n ∧ n < 1000000000 then (match seqD x with
    | some (_, xs) => .ret (numD n.toNat xs)
    | none => .bad) else .bad
  | _ => .bad
def iEnS (f h : Env' → T D) : Env' → T (List D) := fun ρ => (f ρ).bind fun x => (h ρ).bind fun k => oEnumS x k
@[simp] theorem ev_iEnS {f h : Env' → T D} {ρ : Env'} : iEnS f h ρ = (f ρ).bind fun x => (h ρ).bind fun k => oEnumS x k := rfl
section
variable {X : Cx} {g : Ct} {a b : Expr} {pos : Pos} {f h : Env' → T D}
/-! ### reversed(range(n)) -/
def oRevR : D → T (List D)
  | .int n => if n.natAbs < 1000000000000 then .ret (rangeD 0 n.toNat).reverse else .bad
  | _ => .bad
def iRevR' (f : Env' → T D) : Env' → T (List D) := fun ρ => (f ρ).bind oRevR
@[simp] theorem ev_iRevR {f : Env' → T D} {ρ : Env'} : iRevR' f ρ = (f ρ).bind oRevR := rfl
end
end Wb
set_option Elab.async false
set_option linter.all false
set_option maxRecDepth 100000
set_option maxHeartbeats 4000000
/-! Wb, part 75: methods of tuples: t.index(x) of ints, t.count(x) of data. -/
namespace Wb
open PySem PySem.Spec PyProof.Rows L2
/-! ### count -/
def oTCnt (x y : D) : T D := match x with
  | .tuple ds => if (cEq y && cEq (.tuple ds)) = true then .ret (.int ((ds.countP fun z => PyData.eqv z y : Nat) : Int)) else .bad
  | _ => .bad
def kTCnt (h : Env' → T D) (ρ : Env') : D → T D
  | .tuple ds => (h ρ).bind fun y => oTCnt (.tuple ds) y
  | _ => .bad
def eTCnt (f h : Env' → T D) : Env' → T D := fun ρ => (f ρ).bind fun x => kTCnt h ρ x
@[simp] theorem ev_tcnt {f h : Env' → T D} {ρ : Env'} : eTCnt f h ρ = (f ρ).bind fun x => kTCnt h ρ x := rfl
@[simp] theorem kTCnt_tup {h : Env' → T D} {ρ : Env'} {ds : List D} : kTCnt h ρ (.tuple ds) = (h ρ).bind fun y => oTCnt (.tuple ds) y := rfl
@[simp] theorem oTCnt_tup {ds : List D} {y : D} : oTCnt (.tuple ds) y = if (cEq y && cEq (.tuple ds)) = true then .ret (.int ((ds.countP fun z => PyData.eqv z y : Nat) : Int)) else .bad := rfl
/-! ### index -/
def firstI (z : Int) : List D → Option Nat
  | .int i :: r => if i = z then some 0 else (firstI z r).map (· + 1)
  | _ => none
def isIntD : D → Bool
  | .int _ => true
  | _ => false
def oTIdx : D → D → T D
  | .tuple ds, .int z => if ds.all isIntD = true then (match firstI z ds with
    | some j => .ret (.int (j : Nat))
    | none => .bad) else .bad
  | _, _ => .bad
def kTIdx (h : Env' → T D) (ρ : Env') : D → T D
  | .tuple ds => (h ρ).bind fun y => oTIdx (.tuple ds) y
  | _ => .bad
def eTIdx (f h : Env' → T D) : Env' → T D := fun ρ => (f ρ).bind fun x => kTIdx h ρ x
@[simp] theorem ev_tidx {f h : Env' → T D} {ρ : Env'} : eTIdx f h ρ = (f ρ).bind fun x => kTIdx h ρ x := rfl
@[simp] theorem kTIdx_tup {h : Env' → T D} {ρ : Env'} {ds : List D} : kTIdx h ρ (.tuple ds) = (h ρ).bind fun y => oTIdx (.tuple ds) y := rfl
end Wb
set_option Elab.async false
set_option linter.all false
set_option maxRecDepth 100000
set_option maxHeartbeats 4000000
/-! Wb, part 76: `law` itself makes lambdas. -/
namespace Wb
open PySem PySem.Spec PyProof.Rows L2
end Wb
set_option Elab.async false
set_option linter.all false
set_option maxRecDepth 100000
set_option maxHeartbeats 4000000
/-! Wb, part 77: floor division by any number but 0 of less than 9000 bits. -/
namespace Wb
open PySem PySem.Spec PyProof.Rows L2
end Wb
set_option Elab.async false
set_option linter.all false
set_option maxRecDepth 100000
set_option maxHeartbeats 4000000
/-! Wb, part 78: the source of draws that is a list of a list of numbers and of two numbers. -/
namespace Wb
open PySem PySem.Spec PyProof.Rows L2 RZ LamX
/-- the draw -/
def mGrind : List Ar → T D
  | [.mil, .d (.int m)] => .draw m fun i => .ret (.int i)
  | _ => .bad
@[simp] theorem ev_grind {m : Int} : mGrind [.mil, .d (.int m)] = .draw m fun i => .ret (.int i) := rfl
@[simp] theorem ev_mil0 {fs : Env' → T (List Ar)} {r : Env'} : aBox 0 fs (.mil :: r) = (fs (.mil :: r)).bind fun s => .ret (.mil :: s) := rfl
@[simp] theorem ev_mil1 {fs : Env' → T (List Ar)} {s : Sl} {r : Env'} : aBox 1 fs (s :: .mil :: r) = (fs (s :: .mil :: r)).bind fun q => .ret (.mil :: q) := rfl
@[simp] theorem ev_arM : arSl .mil = .mil := rfl
@[simp] theorem cs_m : clrS .mil = .mil := rfl
/-- the state of the source -/
structure MillAt (p g : Addr) (gs : List Int) (y z : Int) (H : Hp) : Prop where
  hp : H p = some (.lst [.ref g, .int y, .int z])
  hg : H g = some (.lst (gs.map V.int))
  g0 : ∀ x ∈ gs, 0 ≤ x
  y0 : 0 ≤ y
  y1 : y < 2147483563
  z0 : 0 ≤ z
  gl : gs.length ≤ 64
  ne : p ≠ g
theorem MillAt.ok {p g : Addr} {gs : List Int} {y z : Int} {H : Hp} (h : MillAt p g gs y z H) : millOk p g H := ⟨gs, y, z, h.hp, h.hg, h.g0, h.y0, h.y1, h.z0, h.gl, h.ne⟩
end Wb
set_option Elab.async false
set_option linter.all false
set_option maxRecDepth 100000
set_option maxHeartbeats 4000000
/-! Wb, part 79: the source with two numbers, made of the script; the law's own beginning. -/
namespace Wb
open PySem PySem.Spec PyProof.Rows L2 RZ LamX
end Wb
set_option Elab.async false
set_option linter.all false
set_option maxRecDepth 100000
set_option maxHeartbeats 4000000
/-! Wb, part 80: dicts of one's own, whose keys are numbers (dct) or tuples (dtp). -/
namespace Wb
open PySem PySem.Spec PyProof.Rows L2 RZ LamX
/-! ### keys -/
def keqD (a b : D) : Bool := match nkD 3 a, nkD 3 b with
  | some x, some y => decide (x = y)
  | _, _ => false
def dAt (ds : List (D × D)) (k : D) : Option D := (ds.find? fun e => keqD e.1 k).map (·.2)
def dPut (ds : List (D × D)) (k v : D) : List (D × D) := if (ds.any fun e => keqD e.1 k) = true then ds.map (fun e => if keqD e.1 k = true then (e.1, v) else e) else ds ++ [(k, v)]
theorem nkD_int {n : Nat} {i : Int} : nkD n (.int i) = some (.num i) := by
  cases n <;> rfl
theorem keqD_int {i j : Int} : keqD (.int i) (.int j) = decide (i = j) := by
  unfold keqD
  rw [nkD_int, nkD_int]
  by_cases e : i = j
  · subst e
    simp
  · have : ¬ (NestedKey.num i = NestedKey.num j) := fun z => e (by injection z)
    simp [e, this]
/-- no text in it: the same hash in every world -/
def TF (k : NestedKey) : Prop := ∀ w w' : World, k.hash w = k.hash w'
mutual
theorem nkD_depth : ∀ (n : Nat) (d : D) (k : NestedKey), nkD n d = some k → k.depth ≤ n
  | n, .int i, k, h => by
    rw [nkD_int] at h
    cases h
    simp [NestedKey.depth]
  | 0, .tuple ks, k, h => by cases h
  | n + 1, .tuple ks, k, h => by
    have h : (nkL (nkD n) ks).map NestedKey.tup = some k := h
    cases q : nkL (nkD n) ks with
    | none =>
      rw [q] at h
      cases h
    | some xs =>
      rw [q] at h
      cases h
      simp only [NestedKey.depth]
      have := nkL_depth n ks xs q
      omega
  | 0, .none, k, h => by cases h
  | 0, .bool _, k, h => by cases h
  | 0, .str _, k, h => by cases h
  | 0, .list _, k, h => by cases h
  | 0, .dict _, k, h => by cases h
  | _ + 1, .none, k, h => by cases h
  | _ + 1, .bool _, k, h => by cases h
  | _ + 1, .str _, k, h => by cases h
  | _ + 1, .list _, k, h => by cases h
  | _ + 1, .dict _, k, h => by cases h
theorem nkL_depth : ∀ (n : Nat) (ds : List D) (ks : List NestedKey), nkL (nkD n) ds = some ks → NestedKey.depthAll ks ≤ n
  | n, [], ks, h => by
    cases h
    simp [NestedKey.depthAll]
  | n, d :: r, ks, h => by
    unfold nkL at h
    split at h
    · next k ks' h1 h2 =>
      cases h
      simp only [NestedKey.depthAll]
      have := nkD_depth n d k h1
      have := nkL_depth n r ks' h2
      omega
    · cases h
end
mutual
theorem nkD_tf : ∀ (n : Nat) (d : D) (k : NestedKey), nkD n d = some k → TF k
  | n, .int i, k, h => by
    rw [nkD_int] at h
    cases h
    exact fun _ _ => rfl
  | 0, .tuple ks, k, h => by cases h
  | n + 1, .tuple ks, k, h => by
    have h : (nkL (nkD n) ks).map NestedKey.tup = some k := h
    cases q : nkL (nkD n) ks with
    | none =>
      rw [q] at h
      cases h
    | some xs =>
      rw [q] at h
      cases h
      intro w w'
      simp only [NestedKey.hash]
      rw [nkL_tf n ks xs q w w']
  | 0, .none, k, h => by cases h
  | 0, .bool _, k, h => by cases h
  | 0, .str _, k, h => by cases h
  | 0, .list _, k, h => by cases h
  | 0, .dict _, k, h => by cases h
  | _ + 1, .none, k, h => by cases h
  | _ + 1, .bool _, k, h => by cases h
  | _ + 1, .str _, k, h => by cases h
  | _ + 1, .list _, k, h => by cases h
  | _ + 1, .dict _, k, h => by cases h
theorem nkL_tf : ∀ (n : Nat) (ds : List D) (ks : List NestedKey), nkL (nkD n) ds = some ks → ∀ w w' : World, NestedKey.hashes w ks = NestedKey.hashes w' ks
  | n, [], ks, h, w, w' => by
    cases h
    simp [NestedKey.hashes]
  | n, d :: r, ks, h, w, w' => by
    unfold nkL at h
    split at h
    · next k ks' h1 h2 =>
      cases h
      simp only [NestedKey.hashes]
      rw [nkD_tf n d k h1 w w', nkL_tf n r ks' h2 w w']
    · cases h
end
/-- the key k stands at b -/
def KeyAt (H : Hp) (k : NestedKey) (b : Addr) : Prop := ∀ (P : Program) (w : World) (h : Heap), HOk P w H h → NestedIs h k (.ref b) ∧ k.depth ≤ 8
mutual
theorem has_key3 {H : Hp} : ∀ (n : Nat) {v : V} {d : D} {k : NestedKey}, Has H v d → nkD n d = some k → ∀ (P : Program) (w : World) (h : Heap) (u : Value), HOk P w H h → RelV v u → NestedIs h k u
  | n, _, _, _, .int i, e, P, w, h, u, ok, r => by
    rw [nkD_int] at e
    cases e
    obtain ⟨t, rfl⟩ := r
    exact .int i t
  | 0, _, _, _, .tup _ _ _, e, _, _, _, _, _, _ => by cases e
  | n + 1, _, _, k, @Has.tup _ a o xs ds h1 h2 h3, e, P, w, h, u, ok, r => by
    have e : (nkL (nkD n) ds).map NestedKey.tup = some k := e
    cases q : nkL (nkD n) ds with
    | none =>
      rw [q] at e
      cases e
    | some ks =>
      rw [q] at e
      cases e
      cases (show u = Value.ref a from r)
      obtain ⟨_, _, its, rv, ob, hob, hc, nn, hd⟩ := ok _ _ h1
      refine .tup hob hc hd ?_
      exact has_keys3 n h3 q P w h its ok rv
  | 0, _, _, _, .non, e, _, _, _, _, _, _ => by cases e
  | 0, _, _, _, .bl _, e, _, _, _, _, _, _ => by cases e
  | 0, _, _, _, .str _, e, _, _, _, _, _, _ => by cases e
  | 0, _, _, _, .lst _ _, e, _, _, _, _, _, _ => by cases e
  | 0, _, _, _, .dct _ _, e, _, _, _, _, _, _ => by cases e
  | _ + 1, _, _, _, .non, e, _, _, _, _, _, _ => by cases e
  | _ + 1, _, _, _, .bl _, e, _, _, _, _, _, _ => by cases e
  | _ + 1, _, _, _, .str _, e, _, _, _, _, _, _ => by cases e
  | _ + 1, _, _, _, .lst _ _, e, _, _, _, _, _, _ => by cases e
  | _ + 1, _, _, _, .dct _ _, e, _, _, _, _, _, _ => by cases e
theorem has_keys3 {H : Hp} : ∀ (n : Nat) {vs : List V} {ds : List D} {ks : List NestedKey}, HasL H vs ds → nkL (nkD n) ds = some ks → ∀ (P : Program) (w : World) (h : Heap) (us : List Value), HOk P w H h → Vals vs us → NestedAll h ks us
  | n, _, _, _, .nil, e, P, w, h, us, ok, r => by
    cases e
    cases r
    exact .nil
  | n, _, _, ks, @HasL.cons _ v vs d ds h1 h2, e, P, w, h, us, ok, r => by
    unfold nkL at e
    split at e
    · next k ks' e1 e2 =>
      cases e
      cases r with
      | cons r1 r2 => exact .cons (has_key3 n h1 e1 P w h _ ok r1) (has_keys3 n h2 e2 P w h _ ok r2)
    · cases e
end
theorem KeyAt.of {H : Hp} {b : Addr} {d : D} {k : NestedKey} (h : Has H (.ref b) d) (e : nkD 3 d = some k) : KeyAt H k b := fun P w hp ok =>
  ⟨has_key3 3 h e P w hp (.ref b) ok rfl, by
    have := nkD_depth 3 d k e
    omega⟩
/-! ### a dict whose keys are tuples -/
/-- all its keys stand where they are said to -/
def KeysAt (H : Hp) (xs : List (NestedKey × Addr × Value)) : Prop := ∀ x ∈ xs, KeyAt H x.1 x.2.1 ∧ TF x.1
theorem HasN.keys {H : Hp} : ∀ {xs : List (NestedKey × Addr × Value)} {ds : List (D × D)}, HasN H xs ds → KeysAt H xs
  | _, _, .nil => fun _ z => nomatch z
  | _, _, .cons h1 h2 h3 h4 r => fun x hx => by
    rcases List.mem_cons.mp hx with rfl | hx
    · exact ⟨.of h2 h1, nkD_tf 3 _ _ h1⟩
    · exact r.keys x hx
theorem HasN.length {H : Hp} : ∀ {xs : List (NestedKey × Addr × Value)} {ds : List (D × D)}, HasN H xs ds → xs.length = ds.length
  | _, _, .nil => rfl
  | _, _, .cons _ _ _ _ r => by simp [r.length]
theorem keys_ext {H H' : Hp} {xs : List (NestedKey × Addr × Value)} {ds : List (D × D)} (h : HasN H xs ds) (e : Same H H') : KeysAt H' xs := (h.mono e).keys
section
variable {X : Cx} {pins : List (Addr × Obj)} {σ : L2.St} {H : Hp} {s : Shared} {a b : Addr} {k : NestedKey} {xs : List (NestedKey × Addr × Value)} {A : Around} {E : Value → Shared → Prop}
/-- what the dict at a holds at the key y; whether it holds something -/
def NGet (H : Hp) (a : Addr) (y v : V) : Prop := ∃ xs k b p, H a = some (DctN a xs) ∧ y = .ref b ∧ KeyAt H k b ∧ KeysAt H xs ∧ atKey xs k = some p ∧ RelV v p.2
def NHas (H : Hp) (a : Addr) (y : V) (r : Bool) : Prop := ∃ xs k b, H a = some (DctN a xs) ∧ y = .ref b ∧ KeyAt H k b ∧ KeysAt H xs ∧ (a == sysModules) = false ∧ r = (atKey xs k).isSome
def XGet (H : Hp) (a : Addr) (y v : V) : Prop := DGet H a y (some v) ∨ NGet H a y v
def XHas (H : Hp) (a : Addr) (y : V) (r : Bool) : Prop := (∃ o, DGet H a y o ∧ r = o.isSome) ∨ NHas H a y r
end
end Wb
set_option Elab.async false
set_option linter.all false
set_option maxRecDepth 100000
set_option maxHeartbeats 4000000
/-! Wb, part 81: slots for dicts of one's own: made, read, asked, put to. -/
namespace Wb
open PySem PySem.Spec PyProof.Rows L2 RZ LamX
theorem dAt_cons {a d k : D} {ds : List (D × D)} : dAt ((a, d) :: ds) k = if keqD a k = true then some d else dAt ds k := by
  unfold dAt
  rw [List.find?_cons]
  cases keqD a k <;> simp
theorem keqD_str {x : Str} {k : D} : keqD (.str x) k = false := by
  unfold keqD
  rfl
/-! ### keys that are numbers -/
theorem keqK {k : Key} {i : Int} : keqD (keyD k) (.int i) = decide (k = .inl i) := by
  cases k with
  | inl j =>
    rw [show keyD (.inl j) = .int j from rfl, keqD_int]
    by_cases e : j = i
    · simp [e]
    · have : ¬ (Sum.inl j : Key) = .inl i := fun z => e (by injection z)
      simp [e, this]
  | inr x =>
    rw [show keyD (.inr x) = .str x from rfl, keqD_str]
    have : ¬ (Sum.inr x : Key) = .inl i := fun z => by cases z
    simp [this]
theorem hasK_at {H : Hp} {i : Int} : ∀ {kvs : List (Key × V)} {ds : List (D × D)}, HasK H kvs ds →
    (dAt ds (.int i) = none ∧ valV kvs (.inl i) = none) ∨ ∃ d v, dAt ds (.int i) = some d ∧ valV kvs (.inl i) = some v ∧ Has H v d
  | _, _, .nil => .inl ⟨rfl, rfl⟩
  | _, _, @HasK.cons _ k v vs d ds h r => by
    rw [dAt_cons, keqK]
    by_cases e : k = .inl i
    · subst e
      exact .inr ⟨d, v, by simp, valV_pos rfl, h⟩
    · rw [valV_neg (p := (k, v)) e]
      simp only [e, decide_false, Bool.false_eq_true, if_false]
      exact hasK_at r
theorem HasK.length {H : Hp} : ∀ {kvs : List (Key × V)} {ds : List (D × D)}, HasK H kvs ds → kvs.length = ds.length
  | _, _, .nil => rfl
  | _, _, .cons _ r => by simp [HasK.length r]
/-! ### keys that are tuples -/
theorem keqN {x y : D} {k j : NestedKey} (h : nkD 3 x = some k) (h2 : nkD 3 y = some j) : keqD x y = decide (k = j) := by
  unfold keqD
  rw [h, h2]
theorem atKey_cons {k j : NestedKey} {p : Addr × Value} {xs : List (NestedKey × Addr × Value)} : atKey ((k, p) :: xs) j = if k = j then some p else atKey xs j := by
  unfold atKey
  rw [List.find?_cons]
  by_cases e : k = j
  · simp [e]
  · simp [e]
theorem hasN_at {H : Hp} {x : D} {j : NestedKey} (hj : nkD 3 x = some j) : ∀ {xs : List (NestedKey × Addr × Value)} {ds : List (D × D)}, HasN H xs ds →
    (dAt ds x = none ∧ atKey xs j = none) ∨ ∃ d p v, dAt ds x = some d ∧ atKey xs j = some p ∧ RelV v p.2 ∧ Has H v d
  | _, _, .nil => .inl ⟨rfl, rfl⟩
  | _, _, @HasN.cons _ k b u v y d xs ds h1 h2 h3 h4 r => by
    rw [dAt_cons, keqN h1 hj, atKey_cons]
    by_cases e : k = j
    · simp only [e, decide_true, if_true]
      exact .inr ⟨d, (b, u), v, rfl, rfl, h3, h4⟩
    · simp only [e, decide_false, Bool.false_eq_true, if_false]
      exact hasN_at hj r
/-! ### the slot -/
def slD : Bool → List (D × D) → Sl
  | false, ds => .oth (.dct ds)
  | true, ds => .oth (.dtp ds)
/-- a key of the kind that the dict has -/
def kOk : Bool → D → Bool
  | false, .int _ => true
  | true, .tuple ks => (nkD 3 (.tuple ks)).isSome
  | _, _ => false
def withD {α : Type} (k : Bool → List (D × D) → T α) : Option Sl → T α
  | some (.oth (.dct ds)) => k false ds
  | some (.oth (.dtp ds)) => k true ds
  | _ => .bad
@[simp] theorem withD_k {α : Type} {k : Bool → List (D × D) → T α} {b : Bool} {ds : List (D × D)} : withD k (some (slD b ds)) = k b ds := by
  cases b <;> rfl
def xgetI (b : Bool) (ds : List (D × D)) (x : D) : T D := if kOk b x = true then (match dAt ds x with
  | some d => .ret d
  | none => .bad) else .bad
def xinI (o : Bool → Bool) (b : Bool) (ds : List (D × D)) (x : D) : T D := if kOk b x = true then .ret (.bool (o (dAt ds x).isSome)) else .bad
/-- d[x], x in d, x not in d -/
def eXGet (k : Nat) (f : Env' → T D) : Env' → T D := fun ρ => withD (fun b ds => (f ρ).bind (xgetI b ds)) ρ[k]?
def eXIn (o : Bool → Bool) (k : Nat) (f : Env' → T D) : Env' → T D := fun ρ => withD (fun b ds => (f ρ).bind (xinI o b ds)) ρ[k]?
def xputI (k : Nat) (ρ : Env') (b : Bool) (ds : List (D × D)) (d x : D) : T Fl := if kOk b x = true ∧ ds.length < 1000000 then .ret (.nx (ρ.set k (slD b (dPut ds x d)))) else .bad
/-- d[x] = v -/
def sXPutD (k : Nat) (fi fv : Env' → T D) : Env' → T Fl := fun ρ => withD (fun b ds => (fv ρ).lift ρ fun d => (fi ρ).lift ρ (xputI k ρ b ds d)) ρ[k]?
/-- d = {} -/
def sXNew (b : Bool) (i : Nat) : Env' → T Fl := fun ρ => .ret (.nx (ρ.set i (slD b [])))
@[simp] theorem ev_XGet {k : Nat} {f : Env' → T D} {ρ : Env'} : eXGet k f ρ = withD (fun b ds => (f ρ).bind (xgetI b ds)) ρ[k]? := rfl
@[simp] theorem ev_XIn {o : Bool → Bool} {k : Nat} {f : Env' → T D} {ρ : Env'} : eXIn o k f ρ = withD (fun b ds => (f ρ).bind (xinI o b ds)) ρ[k]? := rfl
@[simp] theorem ev_XPut {k : Nat} {fi fv : Env' → T D} {ρ : Env'} : sXPutD k fi fv ρ = withD (fun b ds => (fv ρ).lift ρ fun d => (fi ρ).lift ρ (xputI k ρ b ds d)) ρ[k]? := rfl
@[simp] theorem ev_XNew {b : Bool} {i : Nat} {ρ : Env'} : sXNew b i ρ = .ret (.nx (ρ.set i (slD b []))) := rfl
/-- what stands for a dict's slot -/
def DOk (H0 H : Hp) (p : Addr) : Bool → List (D × D) → Prop
  | false, ds => ∃ kvs, H p = some (.dK kvs) ∧ HasK H0 kvs ds
  | true, ds => ∃ xs, H p = some (DctN p xs) ∧ HasN H0 xs ds ∧ (p == sysModules) = false
theorem kOk_true {x : D} (h : kOk true x = true) : ∃ ks k, x = .tuple ks ∧ nkD 3 x = some k := by
  cases x with
  | tuple ks =>
    obtain ⟨k, hk⟩ := Option.isSome_iff_exists.mp (show (nkD 3 (.tuple ks)).isSome = true from h)
    exact ⟨ks, k, rfl, hk⟩
  | _ => cases h
theorem kOk_false {x : D} (h : kOk false x = true) : ∃ i, x = .int i := by
  cases x with
  | int i => exact ⟨i, rfl⟩
  | _ => cases h
theorem DOk.has {H0 H : Hp} {p : Addr} {b : Bool} {ds : List (D × D)} {x : D} {v : V} (h : DOk H0 H p b ds) (e : Same H0 H) (hk : kOk b x = true) (hv : Has H0 v x) : XHas H p v (dAt ds x).isSome := by
  cases b with
  | false =>
    obtain ⟨kvs, h1, h2⟩ := h
    obtain ⟨i, rfl⟩ := kOk_false hk
    cases hv
    refine .inl ⟨_, DGet.k (k := .inl i) h1, ?_⟩
    rcases hasK_at (i := i) h2 with ⟨a, b⟩ | ⟨d, v, a, b, _⟩ <;> rw [a, b] <;> rfl
  | true =>
    obtain ⟨xs, h1, h2, h3⟩ := h
    obtain ⟨ks, k, rfl, hk⟩ := kOk_true hk
    obtain ⟨a, rfl⟩ : ∃ a, v = .ref a := by
      cases hv
      exact ⟨_, rfl⟩
    refine .inr ⟨xs, k, a, h1, rfl, .of (hv.mono e) hk, keys_ext h2 e, h3, ?_⟩
    rcases hasN_at hk h2 with ⟨a, b⟩ | ⟨d, p, v, a, b, _⟩ <;> rw [a, b] <;> rfl
theorem DOk.get {H0 H : Hp} {p : Addr} {b : Bool} {ds : List (D × D)} {x d : D} {v : V} (h : DOk H0 H p b ds) (e : Same H0 H) (hk : kOk b x = true) (hv : Has H0 v x) (hd : dAt ds x = some d) : ∃ w, XGet H p v w ∧ Has H0 w d := by
  cases b with
  | false =>
    obtain ⟨kvs, h1, h2⟩ := h
    obtain ⟨i, rfl⟩ := kOk_false hk
    cases hv
    rcases hasK_at (i := i) h2 with ⟨a, _⟩ | ⟨d', w, a, b, hw⟩
    · rw [hd] at a
      cases a
    · rw [hd] at a
      cases a
      exact ⟨w, .inl (by rw [← b]; exact DGet.k (k := .inl i) h1), hw⟩
  | true =>
    obtain ⟨xs, h1, h2, h3⟩ := h
    obtain ⟨ks, k, rfl, hk⟩ := kOk_true hk
    obtain ⟨a, rfl⟩ : ∃ a, v = .ref a := by
      cases hv
      exact ⟨_, rfl⟩
    rcases hasN_at hk h2 with ⟨z, _⟩ | ⟨d', q, w, z, b, rw', hw⟩
    · rw [hd] at z
      cases z
    · rw [hd] at z
      cases z
      exact ⟨w, .inr ⟨xs, k, a, q, h1, rfl, .of (hv.mono e) hk, keys_ext h2 e, b, rw'⟩, hw⟩
end Wb
set_option Elab.async false
set_option linter.all false
set_option maxRecDepth 100000
set_option maxHeartbeats 4000000
/-! Wb, part 82: dict comprehensions whose keys are numbers. -/
namespace Wb
open PySem PySem.Spec PyProof.Rows L2 RZ LamX
/-- a new dict, private so far -/
def OutDc (β : Box) (H0 H : Hp) (Q : VK) (ds : List (D × D)) : Prop := ∀ p H0' H' kvs, Stp β H0 H H0' H' → H p = none → H' p = some (.dK kvs) → H0' p = none → ¬ β.S p → HasK H0' kvs ds → Q (.ref p) H'
theorem OutDc.step {β : Box} {H0 H H0' H' : Hp} {Q : VK} {ds : List (D × D)} (st : Stp β H0 H H0' H') (h : OutDc β H0 H Q ds) : OutDc β H0' H' Q ds := fun p H2 H3 kvs s hn h1 h2 h3 h4 => by
  refine h p H2 H3 kvs (st.trans s) ?_ h1 h2 h3 h4
  cases e : H p with
  | none => rfl
  | some o =>
    exfalso
    cases e0 : H0 p with
    | none =>
      have := (st.priv p o e e0).2 h3
      rw [hn] at this
      cases this
    | some u =>
      have := st.ext p u (st.grow p u e0)
      rw [hn] at this
      cases this
/-! ### n = {.. for ..} -/
/-- n = {.. for ..} -/
def sXDc (i : Nat) (f : Env' → T (List (D × D))) : Env' → T Fl := fun ρ => (f ρ).lift ρ fun ds => .ret (.nx (ρ.set i (slD false ds)))
@[simp] theorem ev_XDc {i : Nat} {f : Env' → T (List (D × D))} {ρ : Env'} : sXDc i f ρ = (f ρ).lift ρ fun ds => .ret (.nx (ρ.set i (slD false ds))) := rfl
end Wb
set_option Elab.async false
set_option linter.all false
set_option maxRecDepth 100000
set_option maxHeartbeats 4000000
/-! Wb, part 83: len(set(xs)) of any ints. -/
namespace Wb
open PySem PySem.Spec PyProof.Rows L2 RZ
end Wb
set_option Elab.async false
set_option linter.all false
set_option maxRecDepth 100000
set_option maxHeartbeats 4000000
/-! Wb, part 84: a, b = e where e is a tuple or a list. -/
namespace Wb
open PySem PySem.Spec PyProof.Rows L2 RZ
def bTupQ (is : List Nat) : D → Env' → Option Env' := fun d ρ => match d with
  | .tuple ds => bNames is ds ρ
  | .list ds => bNames is ds ρ
  | _ => none
@[simp] theorem ev_bTQt {is : List Nat} {ds : List D} {ρ : Env'} : bTupQ is (.tuple ds) ρ = bNames is ds ρ := rfl
@[simp] theorem ev_bTQl {is : List Nat} {ds : List D} {ρ : Env'} : bTupQ is (.list ds) ρ = bNames is ds ρ := rfl
end Wb
set_option Elab.async false
set_option linter.all false
set_option maxRecDepth 100000
set_option maxHeartbeats 4000000
/-! Wb, part 85: return [text, a()]. -/
namespace Wb
open PySem PySem.Spec PyProof.Rows L2 RZ LamX
def eAskL (c : Str) (t : T D) : Env' → T D := fun ρ => (eAsk t ρ).bind fun d => .ret (.list [.str c, d])
@[simp] theorem ev_AskL {c : Str} {t : T D} {ρ : Env'} : eAskL c t (.fn :: ρ) = t.bind fun d => .ret (.list [.str c, d]) := rfl
end Wb
set_option Elab.async false
set_option linter.all false
set_option maxRecDepth 100000
set_option maxHeartbeats 4000000
/-! Wb, part 86: any(t), t a tuple of ints. -/
namespace Wb
open PySem PySem.Spec PyProof.Rows L2
end Wb
set_option Elab.async false
set_option linter.all false
set_option maxRecDepth 100000
set_option maxHeartbeats 4000000
/-! Wb, part 87: for i, (x, y) in enumerate(zip(a, b), start=k). -/
namespace Wb
open PySem PySem.Spec PyProof.Rows L2 RZ
end Wb
set_option Elab.async false
set_option linter.all false
set_option maxRecDepth 100000
set_option maxHeartbeats 4000000
/-! Wb, part 88: a, b = ([..], e), a a list of one's own. -/
namespace Wb
open PySem PySem.Spec PyProof.Rows L2
def sParOL (i j : Nat) (l : Env' → T (List D)) (f : Env' → T D) : Env' → T Fl := fun ρ => (l ρ).lift ρ fun ds => (f ρ).lift ρ fun d => .ret (.nx ((ρ.set i (.own ds)).set j (.d d)))
@[simp] theorem ev_ParOL {i j : Nat} {f : Env' → T D} {l : Env' → T (List D)} {ρ : Env'} : sParOL i j l f ρ = (l ρ).lift ρ fun ds => (f ρ).lift ρ fun d => .ret (.nx ((ρ.set i (.own ds)).set j (.d d))) := rfl
theorem s_parOL {X : Cx} {g : Ct} {st : Stmt} {f : Env' → T D} {fs : Env' → T (List Ar)} {i j : Nat} (hs : PS X st (tPar i j (tCons (tLst (tA g fs)) (tCons (tE g f) tNil)))) : PS X st (tS g (sParOL i j (lLst fs) f)) := hs.imp fun E σ H ⟨β, A, B, C, H0, ρ, r, q⟩ => by
  unfold sParOL at q
  unfold lLst at q
  rw [T.lift_bind] at q
  refine tA_lift r q fun as us H1 H2 s hv q1 => ?_
  split at q1
  · next ds e =>
    split at q1
    · next hz =>
      have hl := hv.ds (dsOf_some e)
      have r1 := r.step s
      refine ⟨lim_line (by rw [hl.length]; exact hz), fun p hp => ?_⟩
      obtain ⟨f1, f2, f3, f4⟩ := r1.fresh hp
      have r2 := r1.junked (o := .lst us) hp
      have hpp : (upd H2 p (HO.lst us)) p = some (.lst us) := upd_same
      have stj := r1.rel.junk (o := .lst us) hp
      generalize upd H2 p (HO.lst us) = H2' at r2 hpp stj ⊢
      have q1 : ((f ρ).lift ρ fun d => T.ret (Fl.nx ((ρ.set i (.own ds)).set j (.d d)))).wp (FlOut g β A B C E) noE := q1
      refine tE_lift r2 q1 fun d v H3 H4 st2 hv2 q2 => ?_
      have r3 := r2.step st2
      obtain ⟨k1, k2⟩ := st2.priv p _ hpp f2
      have hp4 := k2 f3
      exact ⟨.ref p, v, rfl, q2 _ H3 _ ((r3.setOwn (i := i) f1 hp4 (hl.mono st2.grow) k1 f3 (fun k t u _ a b => f4 (stj.trans st2) k t u a b)).setD (i := j) hv2)⟩
    · exact q1.elim
  · exact q1.elim
end Wb
set_option Elab.async false
set_option linter.all false
set_option maxRecDepth 100000
set_option maxHeartbeats 4000000
/-! Wb, part 89: (a, b), (c, d) = e. -/
namespace Wb
open PySem PySem.Spec PyProof.Rows L2
end Wb
set_option Elab.async false
set_option linter.all false
set_option maxRecDepth 100000
set_option maxHeartbeats 4000000
/-! Wb, part 90: a def gets the error that is handled (asks its class, reads its fields), called in the except suite. -/
namespace Wb
open PySem PySem.Spec PyProof.Rows L2
/-- what such a def promises -/
structure FnX (P : Program) (w : World) (K : PySem.W.Frag) (mg : Str → Option Value) (base : Heap) (cad : Cad) (k : Nat) (f : Addr) (fd : FuncData) (p0 : Str) (m : Exn → T D) : Prop where
  go : ∀ (A : Around) (outer : List Env) (s : Shared) (H : Hp) (args : Args) (a : Addr) (oe : Obj) (cls : Value) (dx : Option Addr) (x : Exn) (β : Box) (H0 : Hp) (Q : VK),
    L2H.RoomH k A → Env0 P w K mg base A outer s H → BindsTo s fd args ([p0].zip [Value.ref a]) → L2H.PinOk outer H s (a, oe) → Zc cls dx oe → (∃ vs, oe.data = .fields vs) →
    Same H0 H → β.ok H → (∀ b, β.S b → H0 b = none) → cad.bx β → ExcIs cad x cls dx H0 → (m x).wp (Out β H0 H Q) noE →
    codeAny (model P w) A (.call (.ref f) args) (CR (L2.CX P w) outer P w H s Q fun _ _ _ => False) s
/-- the body's context -/
abbrev hotX (P : Program) (w : World) (K : PySem.W.Frag) (mg : Str → Option Value) (base : Heap) (N : List Str) (qual : Str) (st : Stmt) (f : Addr) (cdv : Value) (A : Around) (outer : List Env) (s : Shared) (H : Hp) (p : Addr × Obj) : Cx :=
  L2H.cxH (L2.CX P w) P w K mg base N qual (defScope st) f cdv A outer s H (fun _ _ _ => False) p
abbrev hotC (cad : Cad) (a : Addr) (cls : Value) (dx : Option Addr) : Ct := ⟨cad, some (a, cls, dx), fun _ _ _ _ => False, fun _ _ _ => True⟩
theorem ex_start {cad : Cad} {β : Box} {H0 H : Hp} {N : List Str} {a : Addr} {cls : Value} {dx : Option Addr} {x : Exn} (hN : 0 < N.length) (e : Same H0 H) (ok : β.ok H) (bf : ∀ b, β.S b → H0 b = none) (tb : cad.bx β) (he : ExcIs cad x cls dx H0) :
    Rel cad β (some (a, cls, dx)) H0 ([Sl.ex x] ++ List.replicate (N.length - 1) .no) (L2.start N [.ref a]) H := by
  have es : L2.start N [.ref a] = some (.ref a) :: List.replicate (N.length - 1) none := by
    unfold L2.start
    obtain ⟨n, hn⟩ : ∃ n, N.length = n + 1 := ⟨N.length - 1, by omega⟩
    simp [hn]
  rw [es]
  refine ⟨e, by simp, fun i sl o ha hb => ?_, fun i _ xs _ p _ _ ha _ _ _ _ f _ => ?_, ok, bf, tb⟩
  · match i, ha, hb with
    | 0, ha, hb =>
      cases ha
      cases hb
      exact ⟨a, cls, dx, rfl, rfl, he⟩
    | i + 1, ha, hb =>
      have ha' : (List.replicate (N.length - 1) Sl.no)[i]? = some sl := ha
      rw [List.getElem?_replicate] at ha'
      split at ha'
      · cases ha'
        trivial
      · cases ha'
  · match i, ha with
    | 0, ha =>
      cases ha
      exact f.elim
    | i + 1, ha =>
      have ha' : (List.replicate (N.length - 1) Sl.no)[i]? = some xs := ha
      rw [List.getElem?_replicate] at ha'
      split at ha' <;> cases ha'
      exact f.elim
section
variable {P : Program} {w : World} {K : PySem.W.Frag} {mg : Str → Option Value} {base : Heap}
theorem FnX.of {cad : Cad} {x qual p0 : Str} {st : Stmt} {f : Addr} {fd : FuncData} {N : List Str} {k : Nat} {F : Env' → T Fl} (Fu : Fun K x qual st f fd) (S : FnScope N [p0] (defScope st)) (hN : 0 < N.length)
    (hbody : ∀ (cdv : Value) (A : Around) (outer : List Env) (s : Shared) (H : Hp) (a : Addr) (oe : Obj) (cls : Value) (dx : Option Addr), Zc cls dx oe → (∃ vs, oe.data = .fields vs) → L2H.RoomH k (A.deeper (envOfC qual (defScope st) s.heap.objs.size f cdv)) →
      PSs (hotX P w K mg base N qual st f cdv A outer s H (a, oe)) (defBody st) (tS (hotC cad a cls dx) F)) :
    FnX P w K mg base cad (k + 1) f fd p0 fun y => (F ([.ex y] ++ List.replicate (N.length - 1) .no)).run := by
  obtain ⟨oc, od, kV, doc, pm, an, cdv, ct, osl, rfl, lk, hcd⟩ := Fu.ex
  constructor
  intro A outer s H args a oe cls dx y β H0 Q room e0 hbind hpin hz hf se ok bf tb he hq
  have hK : K.In s.heap := e0.mod.kin.keeps (fun b o z => (e0.bs b o z).1)
  have noLim : s.heap.NoLimit := e0.mod.nolimit.keeps (fun b o z => (e0.bs b o z).1)
  have kinds : ∀ z ∈ [p0].zip [Value.ref a], (defScope st).names.lookup z.1 = some .local ∨
      ((defScope st).names.lookup z.1 = some .cell ∧ ((cellsFrom (s.heap.objs.size + 1) (defScope st).names []).lookup z.1).isSome = true) := by
    rintro ⟨n, v⟩ hy
    have hn := (List.of_mem_zip hy).1
    cases S.par n hn with
    | inl q => exact Or.inl q
    | inr q => exact Or.inr ⟨q, PySem.W.cellsFrom_some _ _ _ (Or.inl q)⟩
  apply codeAny_call_function room.depth (hK _ _ lk) rfl S.co S.gen rfl (PySem.W.codeRec_of hK hcd)
  apply hbind
  apply wpAny_newFunctionEnv_cells S.kind kinds
  intro env henv s1 born
  subst henv
  refine ⟨noLim.keeps born.toInCall.keep, codeAny_func ?_⟩
  have ht := hbody cdv A outer s H a oe cls dx hz hf (room.deeper _)
  have I0 := L2H.inv_startH (CX := L2.CX P w) (K := K) (E := fun _ _ _ => False) (vs := [V.ref a]) S hpin e0 rfl (.cons rfl .nil) born
  have start : tS (hotC cad a cls dx) F { nx := fun _ H' => Q .non H', rt := Q } (start N [V.ref a]) H := by
    refine ⟨β, H0, H, H0, H0, _, ⟨ex_start hN se ok bf tb he, Stp.refl se ok bf, fun _ _ z => z, trivial, fun i xs p' _ ha _ g => ?_⟩, T.wp_mono (fun fl z => ?_) (fun x z => z) _ ((T.wp_run _).mp hq)⟩
    · match i, ha with
      | 0, ha =>
        cases ha
        exact g.elim
      | i + 1, ha =>
        have ha' : (List.replicate (N.length - 1) Sl.no)[i]? = some xs := ha
        rw [List.getElem?_replicate] at ha'
        split at ha' <;> cases ha'
        exact g.elim
    · cases fl with
      | nx ρ' => exact fun σ' H0' H' r => z .non H0' H' r.st .non
      | ret d => exact z
      | exc y ρ' => exact z.elim
      | brk _ => exact z.elim
      | cnt _ => exact z.elim
  have done := ht.run [] s1 (L2.start N [V.ref a]) H _ I0 start
  refine wpAny_mono done (fun fl s' res => ?_) (fun e s' res => res)
  cases fl with
  | next =>
    obtain ⟨σ', H', J, q⟩ := res
    exact ⟨V.non, H', J.os, J.bare, J.base, J.hok, rfl, q⟩
  | ret u =>
    obtain ⟨v, σ', H', J, rv, q⟩ := res
    exact ⟨v, H', J.os, J.bare, J.base, J.hok, rv, q⟩
  | brk => exact res.elim fun _ z => z.elim fun _ z => z.2.elim
  | cont => exact res.elim fun _ z => z.elim fun _ z => z.2.elim
end
def hotK (m : Exn → T D) : Option Sl → T D
  | some (.ex x) => (m x).quiet
  | _ => .bad
/-- f(e), e the error that is handled -/
def eHot (i : Nat) (m : Exn → T D) : Env' → T D := fun ρ => hotK m ρ[i]?
end Wb
set_option Elab.async false
set_option linter.all false
set_option maxRecDepth 100000
set_option maxHeartbeats 4000000
/-! Wb, part 91: isinstance of an error that stands in the context, whoever handles it. -/
namespace Wb
open PySem PySem.Spec PyProof.Rows L2
@[simp] theorem hot_S {i : Nat} {m : Exn → T D} {s : Sl} {r : Env'} : eHot (i + 1) m (s :: r) = eHot i m r := rfl
@[simp] theorem hot_0 {m : Exn → T D} {x : Exn} {r : Env'} : eHot 0 m (.ex x :: r) = (m x).quiet := rfl
end Wb
set_option Elab.async false
set_option linter.all false
set_option maxRecDepth 100000
set_option maxHeartbeats 4000000
/-! Wb, part 92: beside the draws' dict the tables are known. -/
namespace Wb
open PySem PySem.Spec PyProof.Rows L2 RZ LamX
end Wb
set_option Elab.async false
set_option linter.all false
set_option maxRecDepth 100000
set_option maxHeartbeats 4000000
/-! Wb, part 93: list(range(a, b)); a field of an error that stands in the context; x, y, z = a, [..], b with y a list of one's own. -/
namespace Wb
open PySem PySem.Spec PyProof.Rows L2
/-! ### list(range(a, b)) -/
def oListRg2 : D → D → T D
  | .int a, .int b => if -1000000 ≤ a ∧ a ≤ 1000000 ∧ -1000000 ≤ b ∧ b ≤ 1000000 then .ret (.list (rangeD a (b - a).toNat)) else .bad
  | _, _ => .bad
section
variable {X : Cx} {g : Ct} {a b : Expr} {f h : Env' → T D} {pos : Pos}
@[simp] theorem oListRg2_i {n m : Int} : oListRg2 (.int n) (.int m) = if -1000000 ≤ n ∧ n ≤ 1000000 ∧ -1000000 ≤ m ∧ m ≤ 1000000 then .ret (.list (rangeD n (m - n).toNat)) else .bad := rfl
end
/-! ### a field of the error -/
/-! ### x, y, z = a, [..], b -/
def sPar3M (i j k : Nat) (f : Env' → T D) (l : Env' → T (List D)) (h : Env' → T D) : Env' → T Fl := fun ρ => (f ρ).lift ρ fun d => (l ρ).lift ρ fun ds => (h ρ).lift ρ fun e => .ret (.nx (((ρ.set i (.d d)).set j (.own ds)).set k (.d e)))
@[simp] theorem ev_Par3M {i j k : Nat} {f h : Env' → T D} {l : Env' → T (List D)} {ρ : Env'} : sPar3M i j k f l h ρ = (f ρ).lift ρ fun d => (l ρ).lift ρ fun ds => (h ρ).lift ρ fun e => .ret (.nx (((ρ.set i (.d d)).set j (.own ds)).set k (.d e))) := rfl
theorem s_par3M {X : Cx} {g : Ct} {st : Stmt} {f h : Env' → T D} {fs : Env' → T (List Ar)} {i j k : Nat} (hs : PS X st (tPar3 i j k (tCons (tE g f) (tCons (tLst (tA g fs)) (tCons (tE g h) tNil))))) : PS X st (tS g (sPar3M i j k f (lLst fs) h)) := hs.imp fun E σ H ⟨β, A, B, C, H0, ρ, r, q⟩ => by
  unfold sPar3M lLst at q
  refine tE_lift r q fun d v H1 H2 s hv q1 => ?_
  rw [T.lift_bind] at q1
  have r1 := r.step s
  refine tA_lift r1 q1 fun as us H3 H4 s2 hvs q2 => ?_
  split at q2
  · next ds e =>
    split at q2
    · next hz =>
      have hl := hvs.ds (dsOf_some e)
      have r2 := r1.step s2
      refine ⟨lim_line (by rw [hl.length]; exact hz), fun p hp => ?_⟩
      obtain ⟨f1, f2, f3, f4⟩ := r2.fresh hp
      have r3 := r2.junked (o := .lst us) hp
      have hpp : (upd H4 p (HO.lst us)) p = some (.lst us) := upd_same
      have stj := r2.rel.junk (o := .lst us) hp
      generalize upd H4 p (HO.lst us) = H4' at r3 hpp stj ⊢
      have q2 : ((h ρ).lift ρ fun e => T.ret (Fl.nx (((ρ.set i (.d d)).set j (.own ds)).set k (.d e)))).wp (FlOut g β A B C E) noE := q2
      refine tE_lift r3 q2 fun d3 v3 H5 H6 st3 hv3 q3 => ?_
      have r4 := r3.step st3
      obtain ⟨k1, k2⟩ := st3.priv p _ hpp f2
      have hp6 := k2 f3
      have hv5 := (hv.mono s2.grow).mono st3.grow
      have r5 := r4.setD (i := i) hv5
      refine ⟨v, .ref p, v3, rfl, q3 _ H5 _ ((r5.setOwn (i := j) f1 hp6 (hl.mono st3.grow) k1 f3 fun m ys w _ a b => ?_).setD (i := k) hv3)⟩
      exact fr_set (x := .d d) trivial (fun m t u x y => f4 (stj.trans st3) m t u x y) m ys w a b
    · exact q2.elim
  · exact q2.elim
end Wb
set_option Elab.async false
set_option linter.all false
set_option maxRecDepth 100000
set_option maxHeartbeats 4000000
/-! Wb, part 94: x, y, z = a, [..], b by a tuple (a name that a comprehension looks at is a cell), y a list of one's own. -/
namespace Wb
open PySem PySem.Spec PyProof.Rows L2
end Wb
set_option Elab.async false
set_option linter.all false
set_option maxRecDepth 100000
set_option maxHeartbeats 4000000
/-! Wb, part 95: d.get(k, e) of a known dict; x, y, z = [..], a, b with x a list of one's own. -/
namespace Wb
open PySem PySem.Spec PyProof.Rows L2
/-! ### d.get(k, e) -/
def getO (kvs : List (D × D)) (y z : D) : T D := match keyOf y with
  | some k => .ret ((lookK kvs k).getD z)
  | none => .bad
def getD2 (h k : Env' → T D) (ρ : Env') : D → T D
  | .dict kvs => (h ρ).bind fun y => (k ρ).bind fun z => getO kvs y z
  | _ => .bad
def eDGet2 (f h k : Env' → T D) : Env' → T D := fun ρ => (f ρ).bind (getD2 h k ρ)
@[simp] theorem ev_DGet2 {f h k : Env' → T D} {ρ : Env'} : eDGet2 f h k ρ = (f ρ).bind (getD2 h k ρ) := rfl
@[simp] theorem getD2_dict {h k : Env' → T D} {ρ : Env'} {kvs : List (D × D)} : getD2 h k ρ (.dict kvs) = (h ρ).bind fun y => (k ρ).bind fun z => getO kvs y z := rfl
/-! ### x, y, z = [..], a, b -/
def sPar3F (i j k : Nat) (l : Env' → T (List D)) (f h : Env' → T D) : Env' → T Fl := fun ρ => (l ρ).lift ρ fun ds => (f ρ).lift ρ fun d => (h ρ).lift ρ fun e => .ret (.nx (((ρ.set i (.own ds)).set j (.d d)).set k (.d e)))
@[simp] theorem ev_Par3F {i j k : Nat} {f h : Env' → T D} {l : Env' → T (List D)} {ρ : Env'} : sPar3F i j k l f h ρ = (l ρ).lift ρ fun ds => (f ρ).lift ρ fun d => (h ρ).lift ρ fun e => .ret (.nx (((ρ.set i (.own ds)).set j (.d d)).set k (.d e))) := rfl
end Wb
set_option Elab.async false
set_option linter.all false
namespace L2H
open PySem PySem.Spec PyProof.Rows L2 HotX
/-- room for marks beside a handled error -/
theorem RoomH.units {k : Nat} {A : Around} (r : RoomH k A) : A.units + 64 < cLine := by have := r.un; omega
end L2H
set_option Elab.async false
set_option linter.all false
set_option maxRecDepth 100000
set_option maxHeartbeats 4000000
/-! Wb, part 97: x[::e] of a tuple, e being 1 or -1. -/
namespace Wb
open PySem PySem.Spec PyProof.Rows L2 HT
def oStep (x : D) (o : Option Int) : T D := match x, o with
  | .tuple xs, some i => if i = 1 then .ret (.tuple xs) else if i = -1 then .ret (.tuple xs.reverse) else .bad
  | _, _ => .bad
def eStep (f h : Env' → T D) : Env' → T D := fun ρ => (f ρ).bind fun x => (pSome h ρ).bind fun o => oStep x o
@[simp] theorem ev_step {f h : Env' → T D} {ρ : Env'} : eStep f h ρ = (f ρ).bind fun x => (pSome h ρ).bind fun o => oStep x o := rfl
end Wb
set_option Elab.async false
set_option linter.all false
set_option maxRecDepth 100000
set_option maxHeartbeats 4000000
/-! Wb, part 98: a dict of one's own with int keys is data from here on. -/
namespace Wb
open PySem PySem.Spec PyProof.Rows L2
section
variable {X : Cx} {g : Ct} {sts : List Stmt} {F : Env' → T Fl}
def frDK (i : Nat) (F : Env' → T Fl) (ρ : Env') : Option Sl → T Fl
  | some (.oth (.dct ds)) => F (ρ.set i (.d (.dict ds)))
  | _ => F ρ
def sFrzX (i : Nat) (F : Env' → T Fl) : Env' → T Fl := fun ρ => frDK i F ρ ρ[i]?
@[simp] theorem ev_FrzX {i : Nat} {ρ : Env'} : sFrzX i F ρ = frDK i F ρ ρ[i]? := rfl
@[simp] theorem frDK_dct {i : Nat} {ρ : Env'} {ds : List (D × D)} : frDK i F ρ (some (slD false ds)) = F (ρ.set i (.d (.dict ds))) := rfl
end
end Wb
set_option Elab.async false
set_option linter.all false
set_option maxRecDepth 100000
set_option maxHeartbeats 4000000
/-! Wb, part 99: x, y = [..], e by a tuple (a name is a cell), x a list of one's own. -/
namespace Wb
open PySem PySem.Spec PyProof.Rows L2
end Wb
set_option Elab.async false
set_option linter.all false
set_option maxRecDepth 100000
set_option maxHeartbeats 4000000
/-! Wb, part 100: closed calls by the kernel; errors with two fields. -/
namespace Wb
open PySem PySem.Spec PyProof.Rows L2
/-! ### what a closed call gives, told by the kernel -/
def eqL (f : D → D → Bool) : List D → List D → Bool
  | [], [] => true
  | x :: xs, y :: ys => f x y && eqL f xs ys
  | _, _ => false
def eqF : Nat → D → D → Bool
  | 0, _, _ => false
  | _ + 1, .int a, .int b => decide (a = b)
  | _ + 1, .str a, .str b => decide (a = b)
  | _ + 1, .bool a, .bool b => decide (a = b)
  | _ + 1, .none, .none => true
  | n + 1, .tuple xs, .tuple ys => eqL (eqF n) xs ys
  | n + 1, .list xs, .list ys => eqL (eqF n) xs ys
  | _ + 1, _, _ => false
theorem eqL_eq {f : D → D → Bool} (h : ∀ x y, f x y = true → x = y) : ∀ xs ys, eqL f xs ys = true → xs = ys
  | [], [], _ => rfl
  | x :: xs, y :: ys, e => by
    unfold eqL at e
    rw [Bool.and_eq_true] at e
    rw [h x y e.1, eqL_eq h xs ys e.2]
  | [], _ :: _, e => by cases e
  | _ :: _, [], e => by cases e
theorem eqF_eq : ∀ (n : Nat) (x y : D), eqF n x y = true → x = y
  | 0, _, _, h => by cases h
  | n + 1, x, y, h => by
    unfold eqF at h
    split at h
    all_goals first
      | rfl
      | (rw [of_decide_eq_true h])
      | (next he => obtain rfl := Nat.succ.inj he; rw [eqL_eq (eqF_eq n) _ _ h])
      | (cases h)
def retB (n : Nat) (m : T D) (d : D) : Bool := match m with
  | .ret x => eqF n x d
  | _ => false
theorem retB_eq {n : Nat} {m : T D} {d : D} (h : retB n m d = true) : m = .ret d := by
  unfold retB at h
  split at h
  · rw [eqF_eq _ _ _ h]
  · cases h
/-! ### an error class with two fields -/
def sRaise2 (c f1 f2 : Str) (a b : Env' → T D) : Env' → T Fl := fun ρ => (a ρ).lift ρ fun x => (b ρ).lift ρ fun y => .ret (.exc ⟨c, [(f2, y), (f1, x)]⟩ ρ)
@[simp] theorem ev_Raise2 {c f1 f2 : Str} {a b : Env' → T D} {ρ : Env'} : sRaise2 c f1 f2 a b ρ = (a ρ).lift ρ fun x => (b ρ).lift ρ fun y => .ret (.exc ⟨c, [(f2, y), (f1, x)]⟩ ρ) := rfl
end Wb
set_option Elab.async false
set_option linter.all false
set_option maxRecDepth 100000
set_option maxHeartbeats 4000000
/-! Wb, part 101: a text of numbers, words and tuples tells what it is the text of. -/
namespace Wb
namespace Rp
open PySem PySem.Spec PyProof.Rows L2 Wb
/-- the code points of a text -/
def cl (s : Str) : List Nat := s.cps.toList
/-! ### words -/
def word (z : Str) : Bool := (cl z).all fun c => decide (97 ≤ c) && decide (c ≤ 122)
theorem char_word : ∀ c : Nat, 97 ≤ c → c ≤ 122 → PySem.Builtin.Str.reprChar 39 c = [c] := by
  have h : ∀ c ∈ List.range 123, 97 ≤ c → PySem.Builtin.Str.reprChar 39 c = [c] := by decide +kernel
  exact fun c h1 h2 => h c (List.mem_range.mpr (by omega)) h1
theorem fold_repr (q : Nat) : ∀ (l : List Nat) (acc : Array Nat), (l.foldl (fun out c => out ++ (PySem.Builtin.Str.reprChar q c).toArray) acc).toList = acc.toList ++ l.flatMap (PySem.Builtin.Str.reprChar q)
  | [], acc => by simp
  | c :: l, acc => by
    rw [List.foldl_cons, fold_repr q l]
    simp
theorem repr_cl (x : Str) : cl (reprText x) = reprQuote x :: ((cl x).flatMap (PySem.Builtin.Str.reprChar (reprQuote x)) ++ [reprQuote x]) := by
  unfold cl reprText
  simp only [Array.toList_push]
  rw [← Array.foldl_toList, fold_repr]
  rfl
theorem word_repr {z : Str} (h : word z = true) : cl (reprText z) = 39 :: (cl z ++ [39]) := by
  have h : ∀ c ∈ cl z, 97 ≤ c ∧ c ≤ 122 := fun c hc => by
    have := List.all_eq_true.mp h c hc
    simpa using this
  have q : reprQuote z = 39 := by
    unfold reprQuote
    have : 39 ∉ z.cps := fun m => by
      have := h 39 (Array.mem_toList_iff.mpr m)
      omega
    simp [this]
  rw [repr_cl, q]
  congr 2
  have : ∀ (l : List Nat), (∀ c ∈ l, 97 ≤ c ∧ c ≤ 122) → l.flatMap (PySem.Builtin.Str.reprChar 39) = l := by
    intro l
    induction l with
    | nil => intro _; rfl
    | cons c l ih =>
      intro h
      have hc := h c (List.mem_cons_self ..)
      rw [List.flatMap_cons, char_word c hc.1 hc.2, ih fun d hd => h d (List.mem_cons_of_mem _ hd)]
      rfl
  exact this _ h
/-! ### all values -/
end Rp
end Wb
set_option Elab.async false
set_option linter.all false
set_option maxRecDepth 100000
set_option maxHeartbeats 4000000
/-! Wb, part 102: a loop that puts one value to a list of one's own at each turn; comprehensions of two clauses, rows by rows. -/
namespace Wb
open PySem PySem.Spec PyProof.Rows L2
end Wb
set_option Elab.async false
set_option linter.all false
set_option maxRecDepth 100000
set_option maxHeartbeats 4000000
/-! Wb, part 103: == of plain data (numbers, words, tuples of them). -/
namespace Wb
open PySem PySem.Spec PyProof.Rows L2
namespace Rp
theorem word_low {z : Str} (h : word z = true) : Low (.str z) := fun k hk hm => by
  have hm : k ∈ cl (PyData.str z).shown := hm
  rw [PyData.shown_str, word_repr h] at hm
  rcases List.mem_cons.mp hm with e | hm
  · omega
  · rcases List.mem_append.mp hm with hm | hm
    · have := List.all_eq_true.mp h k hm
      simp at this
      omega
    · rw [List.mem_singleton.mp hm] at hk
      omega
end Rp
end Wb
set_option Elab.async false
set_option linter.all false
set_option maxRecDepth 100000
set_option maxHeartbeats 4000000
/-! Wb, part 104: texts: join, split, startswith, str(int), int(text), f-strings, the signs of a text. -/
namespace Wb
open PySem PySem.Spec PyProof.Rows L2
/-! ### methods of a text with one argument -/
def kS (o : Str → D → T D) (h : Env' → T D) (ρ : Env') : D → T D
  | .str z => (h ρ).bind fun y => o z y
  | _ => .bad
def eSM (o : Str → D → T D) (f h : Env' → T D) : Env' → T D := fun ρ => (f ρ).bind (kS o h ρ)
@[simp] theorem ev_SM {o : Str → D → T D} {f h : Env' → T D} {ρ : Env'} : eSM o f h ρ = (f ρ).bind (kS o h ρ) := rfl
@[simp] theorem kS_str {o : Str → D → T D} {h : Env' → T D} {ρ : Env'} {z : Str} : kS o h ρ (.str z) = (h ρ).bind fun y => o z y := rfl
def MeD (r : V → List V → Hp → VK → Prop) (o : Str → D → T D) : Prop := ∀ {β : Box} {H0 H : Hp} {w : V} {z : Str} {y : D} {Q : VK} {E : Exn → Prop}, Same H0 H → β.ok H → (∀ a, β.S a → H0 a = none) → Has H0 w y → (o z y).wp (Out β H0 H Q) E → r (.str z) [w] H Q
theorem r_sm {X : Cx} {g : Ct} {f h : Env' → T D} {a e : Expr} {apos pos : Pos} {name id : String} {r : V → List V → Hp → VK → Prop} {o : Str → D → T D} (slot : Slot "str" name id) (hty : typeOf (.builtin id) = pure (.type "method_descriptor")) (hm : MtR X id r) (hd : MeD r o)
    (ha : PE X a (tE g f)) (hb : PE X e (tE g h)) (hbase : attributeBase a name X.env (eval a X.env) = eval a X.env := by rfl)
    (hfew : ((backTo pos (starEach [e] X.env)).all (fun x => !x.1) && (backToKw pos (keywordEach [] X.env)).all (fun x => x.1.isSome)
      && decide ([e].length + ([] : List Keyword).length + (if ([] : List Keyword).isEmpty then 0 else 1) < 30)) = true := by rfl)
    (hline : (apos.endLine == pos.line) = true := by rfl) (hs : starEach [e] X.env = (false, eval e X.env) :: starEach [] X.env := by rfl) (hplain : (backTo pos (starEach [] X.env)).any (·.1) = false := by rfl) :
    PE X (.Call (.Attribute a name apos) [e] [] pos) (tE g (eSM o f h)) :=
  (pe_bm PySem.F.plainAttrs_str slot hty hm ha (pa_cons hb pa_nil hs) hbase hfew hline hs hplain).imp fun σ H Q ⟨β, H0, ρ, rr, q⟩ => tE_then rr q fun d v H1 H2 st hv q1 => by
    have rr1 := rr.step st
    cases hv with
    | str z =>
      refine ⟨?_, ?_⟩
      · first | exact ⟨_, rfl⟩ | exact .inr ⟨rfl, _, rfl⟩ | exact .inl ⟨rfl, _, rfl⟩ | trivial
      · refine tE_then rr1 (wp_out st q1) fun d' v' H3 H4 st2 hv' q2 => ?_
        exact hd st2.ext st2.ok st2.boxf hv' (wp_out st2 q2)
    | _ => exact q1.elim
/-! ### lists of texts -/
def strsOf : List D → Option (List Str)
  | [] => some []
  | .str x :: r => (strsOf r).map (x :: ·)
  | _ => none
theorem strsOf_map : ∀ ys : List Str, strsOf (ys.map PyData.str) = some ys
  | [] => rfl
  | y :: ys => by
    rw [List.map_cons]
    unfold strsOf
    rw [strsOf_map ys]
    rfl
theorem strsOf_eq : ∀ {ds : List D} {ys : List Str}, strsOf ds = some ys → ds = ys.map PyData.str
  | [], ys, h => by
    cases h
    rfl
  | d :: ds, ys, h => by
    unfold strsOf at h
    split at h
    · next heq => cases heq
    · next x r heq =>
      injection heq with e1 e2
      subst e1 e2
      cases q : strsOf ds with
      | none =>
        rw [q] at h
        cases h
      | some zs =>
        rw [q] at h
        cases h
        rw [strsOf_eq q]
        rfl
    · cases h
theorem has_strs {H : Hp} : ∀ {ys : List Str} {vs : List V}, HasL H vs (ys.map PyData.str) → vs = ys.map V.str
  | [], _, h => by
    cases h
    rfl
  | y :: ys, _, h => by
    rw [List.map_cons] at h
    cases h with
    | cons h1 h2 =>
      cases h1
      rw [has_strs h2]
      rfl
theorem strs_has {H : Hp} : ∀ ys : List Str, HasL H (ys.map V.str) (ys.map PyData.str)
  | [] => .nil
  | y :: ys => .cons (.str y) (strs_has ys)
/-! ### sep.join(..) -/
def joinI (z : Str) (ds : List D) : T D := match strsOf ds with
  | some ys => if (ys.map (·.length)).sum + ys.length * z.length ≤ 16777216 then .ret (.str (Txt.join z ys)) else .bad
  | none => .bad
def oJoinS (z : Str) : D → T D
  | .list ds => joinI z ds
  | .tuple ds => joinI z ds
  | _ => .bad
theorem joinI_at {z : Str} {ys : List Str} (h : (ys.map (·.length)).sum + ys.length * z.length ≤ 16777216) : joinI z (ys.map PyData.str) = .ret (.str (Txt.join z ys)) := by
  unfold joinI
  rw [strsOf_map]
  exact if_pos h
theorem m_join {K : PySem.W.Frag} : MeD (fun x xs H Q => ∃ a p, ∃ ys : List Str, x = .str a ∧ xs = [.ref p] ∧ (SqL K H p (ys.map V.str) ∨ SqT K H p (ys.map V.str)) ∧ (ys.map (·.length)).sum + ys.length * a.length ≤ 16777216 ∧ Q (.str (Txt.join a ys)) H) oJoinS := by
  intro β H0 H w z y Q E e ok bf hw q
  have key : ∀ ds : List D, (joinI z ds).wp (Out β H0 H Q) E → ∃ ys : List Str, ds = ys.map PyData.str ∧ (ys.map (·.length)).sum + ys.length * z.length ≤ 16777216 ∧ Q (.str (Txt.join z ys)) H := fun ds q => by
    unfold joinI at q
    split at q
    · next ys hy =>
      split at q
      · next c => exact ⟨ys, strsOf_eq hy, c, out_ret e ok bf (.str _) q⟩
      · exact q.elim
    · exact q.elim
  cases hw with
  | lst h1 h2 =>
    obtain ⟨ys, rfl, c, q2⟩ := key _ q
    rw [has_strs h2] at h1
    exact ⟨z, _, ys, rfl, rfl, .inl (SqL.of (e _ _ h1)), c, q2⟩
  | tup h1 hdn h2 =>
    obtain ⟨ys, rfl, c, q2⟩ := key _ q
    rw [has_strs h2] at h1
    exact ⟨z, _, ys, rfl, rfl, .inr (sqF (e _ _ h1)), c, q2⟩
  | _ => exact q.elim
/-! ### text.split(sep), text.startswith(..) -/
def oSplitS (z : Str) : D → T D
  | .str b => if z.length ≤ 10000000 ∧ (b.length == 0) = false then .ret (.list ((Txt.split z b).map PyData.str)) else .bad
  | _ => .bad
theorem m_split : MeD (fun x xs H Q => ∃ a b, x = .str a ∧ xs = [.str b] ∧ (b.length == 0) = false ∧ a.length + 2 ≤ sizeLine ∧ rNewStrs (Txt.split a b) H Q) oSplitS := by
  intro β H0 H w z y Q E e ok bf hw q
  cases hw with
  | str b =>
    have q : (if z.length ≤ 10000000 ∧ (b.length == 0) = false then T.ret (PyData.list ((Txt.split z b).map PyData.str)) else .bad).wp (Out β H0 H Q) E := q
    split at q
    · next c =>
      refine ⟨z, b, rfl, rfl, c.2, ?_, fun p hp => ?_⟩
      · rw [sizeLine_eq]
        have := c.1
        omega
      · have hp0 : H0 p = none := e.free hp
        exact q (.ref p) _ _ (Stp.new e ok bf hp) (.lst upd_same (upd_has hp0 (strs_has _)))
    · exact q.elim
  | _ => exact q.elim
def oStartS (z : Str) : D → T D
  | .str b => .ret (.bool (Txt.startswith z b))
  | _ => .bad
theorem m_starts : MeD (fun x xs H Q => ∃ a b, x = .str a ∧ xs = [.str b] ∧ Q (.bl (Txt.startswith a b)) H) oStartS := by
  intro β H0 H w z y Q E e ok bf hw q
  cases hw with
  | str b => exact ⟨z, b, rfl, rfl, out_ret e ok bf (.bl _) q⟩
  | _ => exact q.elim
@[simp] theorem oSplitS_str {z b : Str} : oSplitS z (.str b) = if z.length ≤ 10000000 ∧ (b.length == 0) = false then .ret (.list ((Txt.split z b).map PyData.str)) else .bad := rfl
@[simp] theorem oStartS_str {z b : Str} : oStartS z (.str b) = .ret (.bool (Txt.startswith z b)) := rfl
@[simp] theorem oJoinS_list {z : Str} {ds : List D} : oJoinS z (.list ds) = joinI z ds := rfl
/-! ### str(n), int(text), len(text) -/
def oStrI : D → T D
  | .int i => if i.natAbs.log2 < 1920 then .ret (.str (toString i)) else .bad
  | _ => .bad
theorem d_strI : CaD (fun xs H Q => ∃ i : Int, xs = [.int i] ∧ i.natAbs.log2 < 1920 ∧ Q (.str (toString i)) H) (o1 oStrI) := by
  apply d_1
  intro β H0 H v x Q E e ok bf hv q
  cases hv with
  | int i =>
    have q : (if i.natAbs.log2 < 1920 then T.ret (PyData.str (toString i)) else .bad).wp (Out β H0 H Q) E := q
    split at q
    · next c => exact ⟨i, rfl, c, out_ret e ok bf (.str _) q⟩
    · exact q.elim
  | _ => exact q.elim
theorem oStrI_at {i : Int} (h : i.natAbs < 10 ^ 50) : oStrI (.int i) = .ret (.str (toString i)) := by
  refine if_pos ?_
  by_cases z : i.natAbs = 0
  · rw [z]
    decide
  · exact Nat.lt_of_lt_of_le ((Nat.log2_lt z).mpr (Nat.lt_of_lt_of_le h (by decide +kernel : 10 ^ 50 ≤ 2 ^ 200))) (by decide)
def oIntT : D → T D
  | .str z => match PySem.intText? z with
    | some n => if z.length ≤ 640 then .ret (.int n) else .bad
    | none => .bad
  | _ => .bad
theorem d_intT : CaD (fun xs H Q => ∃ a n, xs = [.str a] ∧ PySem.intText? a = some n ∧ a.length ≤ 640 ∧ Q (.int n) H) (o1 oIntT) := by
  apply d_1
  intro β H0 H v x Q E e ok bf hv q
  cases hv with
  | str z =>
    have q : (match PySem.intText? z with
      | some n => if z.length ≤ 640 then T.ret (PyData.int n) else .bad
      | none => .bad).wp (Out β H0 H Q) E := q
    split at q
    · next n hn =>
      split at q
      · next c => exact ⟨z, n, rfl, hn, c, out_ret e ok bf (.int _) q⟩
      · exact q.elim
    · exact q.elim
  | _ => exact q.elim
/-! ### one sign of a text within another text -/
def oInSign (x y : D) : T D := match x, y with
  | .str a, .str b => match a.cps.toList with
    | [c] => .ret (.bool (decide (c ∈ b.cps.toList)))
    | _ => .bad
  | _, _ => .bad
theorem d_inSign : OpD (fun x y H Q => ∃ (c : Nat) (z : Str), x = .str ⟨#[c]⟩ ∧ y = .str z ∧ Q (.bl (decide (c ∈ z.cps.toList))) H) oInSign := by
  intro β H0 H v w x y Q E e ok bf hv hw q
  cases hv with
  | str a =>
    cases hw with
    | str b =>
      have q : (match a.cps.toList with
        | [c] => T.ret (PyData.bool (decide (c ∈ b.cps.toList)))
        | _ => .bad).wp (Out β H0 H Q) E := q
      split at q
      · next c hc =>
        have ea : a = ⟨#[c]⟩ := by
          cases a with
          | mk cps =>
            congr 1
            exact Array.toList_inj.mp hc
        rw [ea]
        exact ⟨c, b, rfl, rfl, out_ret e ok bf (.bl _) q⟩
      · exact q.elim
    | _ => exact q.elim
  | _ => exact q.elim
/-! ### a text, sign by sign -/
def signsD (z : Str) : List D := z.cps.toList.map fun c => .str ⟨#[c]⟩
def strIt : D → T (List D)
  | .str z => .ret (signsD z)
  | _ => .bad
def iStrE (f : Env' → T D) : Env' → T (List D) := fun ρ => (f ρ).bind strIt
@[simp] theorem ev_iStrE {f : Env' → T D} {ρ : Env'} : iStrE f ρ = (f ρ).bind strIt := rfl
@[simp] theorem strIt_str {z : Str} : strIt (.str z) = .ret (signsD z) := rfl
theorem gives_str {H0 : Hp} {z : Str} : Gives (Its z) (signsD z) H0 := by
  have hl : (signsD z).length = z.cps.size := by simp [signsD]
  refine ⟨fun _ => True, fun i H v H' => H' = H ∧ ∃ c, z.cps[i]? = some c ∧ v = .str ⟨#[c]⟩, by rw [hl]; exact walk_str, fun _ _ => trivial, fun i H1 x H2 d H0' hd _ _ y => .inl ⟨y.1, ?_⟩⟩
  obtain ⟨c, hc, rfl⟩ := y.2
  have e2 : (signsD z)[i]? = some (.str ⟨#[c]⟩) := by
    unfold signsD
    rw [List.getElem?_map, Array.getElem?_toList, hc]
    rfl
  rw [hd] at e2
  cases e2
  exact .str _
theorem i_str {X : Cx} {g : Ct} {tg a : Expr} {f : Env' → T D} (ha : PE X a (tE g f)) : PI X tg a (tI g (iStrE f)) := (pi_str ha).imp fun σ H R ⟨β, H0, ρ, rr, q⟩ => tE_then rr q fun d v H1 H2 st hv q1 => by
  cases hv with
  | str z => exact ⟨z, rfl, q1 _ _ _ st gives_str⟩
  | _ => exact q1.elim
/-! ### f-strings -/
def jF : List (Env' → T D) → Str → Env' → T D
  | [], acc, _ => .ret (.str acc)
  | f :: fs, acc, ρ => (f ρ).bind fun d => match d with
    | .str y => if (acc ++ y).length ≤ 10000000 then jF fs (acc ++ y) ρ else .bad
    | _ => .bad
def eJ (fs : List (Env' → T D)) : Env' → T D := jF fs Str.empty
@[simp] theorem ev_J {fs : List (Env' → T D)} {ρ : Env'} : eJ fs ρ = jF fs Str.empty ρ := rfl
@[simp] theorem jF_nil {acc : Str} {ρ : Env'} : jF [] acc ρ = .ret (.str acc) := rfl
end Wb
set_option Elab.async false
set_option linter.all false
set_option maxRecDepth 100000
set_option maxHeartbeats 4000000
/-! Wb, part 105: len of a text; a text that is no key of a known dict. -/
namespace Wb
open PySem PySem.Spec PyProof.Rows L2
section
variable {X : Cx} {g : Ct} {a b : Expr} {f h : Env' → T D} {pos p : Pos} {x : Str} {d : Addr} {kvs : List (Str × Int)}
theorem q_knotIn (D : KdI X.K X.w d kvs) (hg : Gl X x) (hm : X.mg x = some (.ref d)) (ha : PE X a (tE g f)) (hdb : (x == ("__debug__" : Str)) = false := by decide) : PT X (.Compare a [.NotIn] [.Name x p] pos) (tT g (eUn (oKNotIn kvs) f)) := by
  obtain ⟨es, n, K⟩ := D.kd
  refine (pt_cmpR (op_notIn_kd K) ha (pe_glob (v := .ref d) hg hm rfl hdb) rfl).imp fun σ H Q ⟨β, H0, ρ, rr, q⟩ => tE_then (P := outB β H0 H Q) rr q fun dd v H1 H2 st hv q1 => ?_
  cases hv with
  | str z =>
    obtain ⟨n1, n2⟩ := D.ns z
    have q1 : (T.ret (PyData.bool (!(kvs.lookup z).isSome))).wp (outB β H0 H Q) (g.X β H0 H σ) := q1
    cases e : kvs.lookup z with
    | none =>
      rw [e] at q1
      obtain ⟨b, eb, hq⟩ := q1
      cases eb
      exact ⟨z, none, rfl, rfl, n1 e, _, rfl, hq H1 H2 st⟩
    | some i =>
      rw [e] at q1
      obtain ⟨t, n3⟩ := n2 i e
      obtain ⟨b, eb, hq⟩ := q1
      cases eb
      exact ⟨z, _, rfl, rfl, n3, _, rfl, hq H1 H2 st⟩
  | _ => exact q1.elim
end
@[simp] theorem oKNotIn_str {kvs : List (Str × Int)} {z : Str} : oKNotIn kvs (.str z) = .ret (.bool (!(kvs.lookup z).isSome)) := rfl
def oLenT : D → T D
  | .str z => if z.length ≤ 10000000 then .ret (.int z.length) else .bad
  | _ => .bad
theorem d_lenT : CaD (fun xs H Q => ∃ z, xs = [.str z] ∧ z.length ≤ sizeLine ∧ Q (.int z.length) H) (o1 oLenT) := by
  apply d_1
  intro β H0 H v x Q E e ok bf hv q
  cases hv with
  | str z =>
    have q : (if z.length ≤ 10000000 then T.ret (PyData.int z.length) else .bad).wp (Out β H0 H Q) E := q
    split at q
    · next c => exact ⟨z, rfl, Nat.le_trans c (by decide), out_ret e ok bf (.int _) q⟩
    · exact q.elim
  | _ => exact q.elim
end Wb
set_option Elab.async false
set_option linter.all false
set_option maxRecDepth 100000
set_option maxHeartbeats 4000000
/-! Wb, part 106: upper of a text; a sign that is not in a text; a sign of a text by its index. -/
namespace Wb
open PySem PySem.Spec PyProof.Rows L2
def kS0 (o : Str → T D) : D → T D
  | .str z => o z
  | _ => .bad
def eSM0 (o : Str → T D) (f : Env' → T D) : Env' → T D := fun ρ => (f ρ).bind (kS0 o)
@[simp] theorem ev_SM0 {o : Str → T D} {f : Env' → T D} {ρ : Env'} : eSM0 o f ρ = (f ρ).bind (kS0 o) := rfl
@[simp] theorem kS0_str {o : Str → T D} {z : Str} : kS0 o (.str z) = o z := rfl
def MeD0 (r : V → List V → Hp → VK → Prop) (o : Str → T D) : Prop := ∀ {β : Box} {H0 H : Hp} {z : Str} {Q : VK} {E : Exn → Prop}, Same H0 H → β.ok H → (∀ a, β.S a → H0 a = none) → (o z).wp (Out β H0 H Q) E → r (.str z) [] H Q
theorem r_sm0 {X : Cx} {g : Ct} {f : Env' → T D} {a : Expr} {apos pos : Pos} {name : Str} {id : String} {r : V → List V → Hp → VK → Prop} {o : Str → T D} (slot : Slot "str" name id) (hty : typeOf (.builtin id) = pure (.type "method_descriptor")) (hm : MtR X id r) (hd : MeD0 r o)
    (ha : PE X a (tE g f)) (hbase : attributeBase a name X.env (eval a X.env) = eval a X.env := by rfl) (hline : (apos.endLine == pos.line) = true := by rfl) :
    PE X (.Call (.Attribute a name apos) [] [] pos) (tE g (eSM0 o f)) :=
  (pe_m0 slot hty hm ha hbase hline).imp fun σ H Q ⟨β, H0, ρ, rr, q⟩ => tE_then rr q fun d v H1 H2 st hv q1 => by
    cases hv with
    | str z => exact ⟨⟨_, rfl⟩, hd st.ext st.ok st.boxf (wp_out st q1)⟩
    | _ => exact q1.elim
def oUpS (z : Str) : T D := if z.length ≤ 3000000 then .ret (.str (Txt.upper z)) else .bad
theorem m_upper : MeD0 (fun x xs H Q => ∃ a, x = .str a ∧ xs = [] ∧ a.length ≤ 5592405 ∧ Q (.str (Txt.upper a)) H) oUpS := by
  intro β H0 H z Q E e ok bf q
  unfold oUpS at q
  split at q
  · next c => exact ⟨z, rfl, rfl, Nat.le_trans c (by decide), out_ret e ok bf (.str _) q⟩
  · exact q.elim
def oNotInSign (x y : D) : T D := match x, y with
  | .str a, .str b => match a.cps.toList with
    | [c] => .ret (.bool (!decide (c ∈ b.cps.toList)))
    | _ => .bad
  | _, _ => .bad
theorem d_notInSign : OpD (fun x y H Q => ∃ (c : Nat) (z : Str), x = .str ⟨#[c]⟩ ∧ y = .str z ∧ Q (.bl (!decide (c ∈ z.cps.toList))) H) oNotInSign := by
  intro β H0 H v w x y Q E e ok bf hv hw q
  cases hv with
  | str a =>
    cases hw with
    | str b =>
      have q : (match a.cps.toList with
        | [c] => T.ret (PyData.bool (!decide (c ∈ b.cps.toList)))
        | _ => .bad).wp (Out β H0 H Q) E := q
      split at q
      · next c hc =>
        have ea : a = ⟨#[c]⟩ := by
          cases a with
          | mk cps =>
            congr 1
            exact Array.toList_inj.mp hc
        rw [ea]
        exact ⟨c, b, rfl, rfl, out_ret e ok bf (.bl _) q⟩
      · exact q.elim
    | _ => exact q.elim
  | _ => exact q.elim
def oIxX (x y : D) : T D := match x, y with
  | .str z, .int i => if z.length ≤ 10000000 then (match atI z.cps.toList i with
    | some c => .ret (.str ⟨#[c]⟩)
    | none => .bad) else .bad
  | _, _ => .bad
theorem d_ixX : OpD rIxS oIxX := by
  intro β H0 H v w x y Q E e ok bf hv hw q
  cases hv with
  | str z =>
    cases hw with
    | int i =>
      have q : (if z.length ≤ 10000000 then (match atI z.cps.toList i with
        | some c => T.ret (PyData.str ⟨#[c]⟩)
        | none => .bad) else .bad).wp (Out β H0 H Q) E := q
      split at q
      · next c =>
        split at q
        · next d hd => exact ⟨z, i, d, rfl, rfl, Nat.le_trans c (by decide), hd, out_ret e ok bf (.str _) q⟩
        · exact q.elim
      · exact q.elim
    | _ => exact q.elim
  | _ => exact q.elim
end Wb
set_option Elab.async false
set_option linter.all false
set_option maxRecDepth 100000
set_option maxHeartbeats 4000000
/-! Wb, part 107: longer lists, times a number. -/
namespace Wb
open PySem PySem.Spec PyProof.Rows L2
def oRepW : D → D → T D
  | .list xs, .int k => if 0 ≤ k ∧ k ≤ 1000 ∧ xs.length * k.toNat ≤ 1000000 then .ret (.list (List.replicate k.toNat xs).flatten) else .bad
  | _, _ => .bad
theorem d_repW : OpD rRep oRepW := by
  intro β H0 H v w x y Q E e ok bf hv hw q
  cases hv with
  | @lst a xs ds h1 h2 =>
    cases hw with
    | int k =>
      have q : (if 0 ≤ k ∧ k ≤ 1000 ∧ ds.length * k.toNat ≤ 1000000 then T.ret (PyData.list (List.replicate k.toNat ds).flatten) else .bad).wp (Out β H0 H Q) E := q
      split at q
      · next z =>
        have l1 := h2.length
        have hk : xs.length * k.toNat ≤ 1000000 := by
          rw [l1]
          exact z.2.2
        refine ⟨a, k, xs, rfl, rfl, e _ _ h1, by omega, by omega, lim_line (by omega), fun p hp => ?_⟩
        exact out_lst e ok bf hp (h2.rep _) q
      · exact q.elim
    | _ => exact q.elim
  | _ => exact q.elim
end Wb
set_option Elab.async false
set_option linter.all false
set_option maxRecDepth 100000
set_option maxHeartbeats 4000000
namespace Wk12
open PySem PySem.Spec PyProof.Rows L2 Wb
def topS (i : Nat) : Stmt := PySem.Challenge.pw_wirebeats_k12_other_texts_refused.main.body.getD i (.Pass ⟨0, 0, 0, 0⟩)
def kv_KINDS : List (Str × Int) := [(("copy" : Str), 1), (("neg" : Str), 1), (("add" : Str), 2), (("sub" : Str), 2), (("mul" : Str), 2), (("least" : Str), 2), (("most" : Str), 2), (("madd" : Str), 3)]
def cm_WireError : Str → Option Bool := fun x => [(("BadFlow" : Str), true), (("BadText" : Str), true)].lookup x
def is_BadFlow : Str → Option Bool := fun x => [(("BadFlow" : Str), true), (("BadText" : Str), false)].lookup x
def is_BadFlow_BadBeats_TooLarge : Str → Option Bool := fun x => [(("BadFlow" : Str), true), (("BadText" : Str), false)].lookup x
def is_BadText : Str → Option Bool := fun x => [(("BadFlow" : Str), false), (("BadText" : Str), true)].lookup x
def is_BadText_BadOutside : Str → Option Bool := fun x => [(("BadFlow" : Str), false), (("BadText" : Str), true)].lookup x
/-! is_within -/
abbrev St_is_within : Stmt := topS 10
abbrev N_is_within : List Str := ["value", "low", "high"]
theorem sc_is_within : FnScope N_is_within ["value", "low", "high"] (defScope St_is_within) := ⟨rfl, rfl, rfl, by decide +kernel, rfl, by decide +kernel, by decide +kernel⟩
def F_is_within : Env' → T Fl := (sRet (eAnd (eUn (oIsI "int") (eV 0)) (eAnd (eUn oNot (eUn (oIsI "bool") (eV 0))) (eCh oLe oLe (eV 1) (eV 0) (eV 2)))))
@[irreducible] def m_is_within : List Ar → T D := mkDef 3 F_is_within
theorem mq_is_within : m_is_within = mkDef 3 F_is_within := by
  unfold m_is_within
  rfl
theorem ok_is_within {P : Program} {w : World} {K : PySem.W.Frag} {mg : Str → Option Value} {base : Heap} {cad : Cad} {fa : Addr} {fd : FuncData} (Fu : Fun K "is_within" "is_within" St_is_within fa fd) (b_isinstance : mg "isinstance" = none) (b_int : mg "int" = none) (b_bool : mg "bool" = none) : FnG P w K mg base 2 fa fd ["value", "low", "high"] (spD cad 3 m_is_within) :=
  by
  rw [mq_is_within]
  exact FnG.ofD (F := F_is_within) (N := N_is_within) Fu sc_is_within fun cdv A outer s H E hr hgu => (ss_one (s_ret (r_and (r_isa (by rfl) b_isinstance (pe_bltn (by rfl) b_int (by decide +kernel) rfl) (r_v 0 (pv 0)) kit_int) (r_and (r_not (r_isa (by rfl) b_isinstance (pe_bltn (by rfl) b_bool (by decide +kernel) rfl) (r_v 0 (pv 0)) kit_bool)) (r_one (r_chain op_le op_le u_cmp d_cmp (r_v 1 (pv 1)) (r_v 0 (pv 0)) (r_v 2 (pv 2))))))))
/-! is_tuple_of -/
abbrev St_is_tuple_of : Stmt := topS 11
abbrev N_is_tuple_of : List Str := ["many", "value"]
theorem sc_is_tuple_of : FnScope N_is_tuple_of ["many", "value"] (defScope St_is_tuple_of) := ⟨rfl, rfl, rfl, by decide +kernel, rfl, by decide +kernel, by decide +kernel⟩
def F_is_tuple_of : Env' → T Fl := (sRet (eAnd (eUn (oIsI "tuple") (eV 1)) (eBin oEq (eCb oLen (aCons (eV 1) aNil)) (eV 0))))
@[irreducible] def m_is_tuple_of : List Ar → T D := mkDef 2 F_is_tuple_of
theorem mq_is_tuple_of : m_is_tuple_of = mkDef 2 F_is_tuple_of := by
  unfold m_is_tuple_of
  rfl
theorem ok_is_tuple_of {P : Program} {w : World} {K : PySem.W.Frag} {mg : Str → Option Value} {base : Heap} {cad : Cad} {fa : Addr} {fd : FuncData} (Fu : Fun K "is_tuple_of" "is_tuple_of" St_is_tuple_of fa fd) (b_isinstance : mg "isinstance" = none) (b_tuple : mg "tuple" = none) (b_len : mg "len" = none) : FnG P w K mg base 2 fa fd ["many", "value"] (spD cad 2 m_is_tuple_of) :=
  by
  rw [mq_is_tuple_of]
  exact FnG.ofD (F := F_is_tuple_of) (N := N_is_tuple_of) Fu sc_is_tuple_of fun cdv A outer s H E hr hgu => (ss_one (s_ret (r_and (r_isa (by rfl) b_isinstance (pe_bltn (by rfl) b_tuple (by decide +kernel) rfl) (r_v 1 (pv 1)) kit_tuple) (r_one (r_cmp (op_eqW hr.units) d_eq (r_b call_len_seq d_len (by rfl) b_len (by decide +kernel) (a_cons (r_v 1 (pv 1)) a_nil)) (r_v 0 (pv 0)) (nomark _))))))
/-! is_bounded -/
abbrev St_is_bounded : Stmt := topS 12
abbrev N_is_bounded : List Str := ["dims", "value", "most", "item"]
theorem sc_is_bounded : FnScope N_is_bounded ["dims", "value", "most"] (defScope St_is_bounded) := ⟨rfl, rfl, rfl, by decide +kernel, rfl, by decide +kernel, by decide +kernel⟩
def B0_is_bounded : Env' → T Fl := (sIf (eUn oNot (eCall 3 m_is_within (aCons (eV 3) (aCons (eUn oNeg (eV 2)) (aCons (eV 2) aNil))))) (sRet (eC (.bool false))) sNil)
def F_is_bounded : Env' → T Fl := (sSeq (sIf (eOr (eUn oNot (eUn (oIsI "tuple") (eV 1))) (eBin oNe (eCb oLen (aCons (eV 1) aNil)) (eV 0))) (sRet (eC (.bool false))) sNil) (sSeq (sFor (iSeq (eV 1)) (bName 3) B0_is_bounded) (sRet (eC (.bool true)))))
@[irreducible] def m_is_bounded : List Ar → T D := mkDef 4 F_is_bounded
theorem mq_is_bounded : m_is_bounded = mkDef 4 F_is_bounded := by
  unfold m_is_bounded
  rfl
theorem ok_is_bounded {P : Program} {w : World} {K : PySem.W.Frag} {mg : Str → Option Value} {base : Heap} {cad : Cad} {fa : Addr} {fd : FuncData} (Fu : Fun K "is_bounded" "is_bounded" St_is_bounded fa fd) (C_is_within : Cal P w K mg base cad "is_within" 2 3 m_is_within) (b_isinstance : mg "isinstance" = none) (b_tuple : mg "tuple" = none) (b_len : mg "len" = none) : FnG P w K mg base 3 fa fd ["dims", "value", "most"] (spD cad 3 m_is_bounded) :=
  by
  rw [mq_is_bounded]
  exact FnG.ofD (F := F_is_bounded) (N := N_is_bounded) Fu sc_is_bounded fun cdv A outer s H E hr hgu => (ss_cons (s_if (q_or (q_not (q_val (r_isa (by rfl) b_isinstance (pe_bltn (by rfl) b_tuple (by decide +kernel) rfl) (r_v 1 (pv 1)) kit_tuple))) (q_or1 (q_cmp (op_neW hr.units) d_ne (r_b call_len_seq d_len (by rfl) b_len (by decide +kernel) (a_cons (r_v 1 (pv 1)) a_nil)) (r_v 0 (pv 0)) (nomark _)))).pt (ss_one (s_ret r_bl)) ss_nil) (ss_cons (s_for (b_name (K := K)) (ps_for (passes_of rfl) rfl (i_seq (r_v 1 (pv 1))) (pg_name (i := 3) sc_is_bounded.nd rfl (by first | exact .inl rfl | exact .inr rfl)) (ss_one (s_if (q_not (q_val (r_cal C_is_within hr (by first | decide | omega) hgu (by rfl) (takes_of rfl rfl rfl rfl) (a_cons (r_v 3 (pv 3)) (a_cons (r_un un_neg d_neg (r_v 2 (pv 2))) (a_cons (r_v 2 (pv 2)) a_nil)))))) (ss_one (s_ret r_bl)) ss_nil)))) (ss_one (s_ret r_bl))))
/-! has_form -/
abbrev St_has_form : Stmt := topS 15
abbrev N_has_form : List Str := ["rule", "kind"]
theorem sc_has_form : FnScope N_has_form ["rule"] (defScope St_has_form) := ⟨rfl, rfl, rfl, by decide +kernel, rfl, by decide +kernel, by decide +kernel⟩
def F_has_form : Env' → T Fl := (sSeq (sIf (eOr (eUn oNot (eUn (oIsI "tuple") (eV 0))) (eUn oNot (eUn oTruth (eV 0)))) (sRet (eC (.bool false))) sNil) (sSeq (sSet 1 (eBin oIx (eV 0) (eC (.int 0)))) (sRet (eAnd (eUn (oIsI "str") (eV 1)) (eAnd (eUn (oKIn kv_KINDS) (eV 1)) (eBin oEq (eCb oLen (aCons (eV 0) aNil)) (eBin oAdd (eC (.int 1)) (eUn (oKGet kv_KINDS) (eV 1)))))))))
@[irreducible] def m_has_form : List Ar → T D := mkDef 2 F_has_form
theorem mq_has_form : m_has_form = mkDef 2 F_has_form := by
  unfold m_has_form
  rfl
theorem ok_has_form {P : Program} {w : World} {K : PySem.W.Frag} {mg : Str → Option Value} {base : Heap} {cad : Cad} {fa : Addr} {fd : FuncData} (Fu : Fun K "has_form" "has_form" St_has_form fa fd) (b_isinstance : mg "isinstance" = none) (b_tuple : mg "tuple" = none) (b_str : mg "str" = none) (b_len : mg "len" = none) {dA_KINDS : Addr} (K_KINDS : KdI K w dA_KINDS kv_KINDS) (k_KINDS : mg "KINDS" = some (.ref dA_KINDS)) : FnG P w K mg base 2 fa fd ["rule"] (spD cad 1 m_has_form) :=
  by
  rw [mq_has_form]
  exact FnG.ofD (F := F_has_form) (N := N_has_form) Fu sc_has_form fun cdv A outer s H E hr hgu => (ss_cons (s_if (q_or (q_not (q_val (r_isa (by rfl) b_isinstance (pe_bltn (by rfl) b_tuple (by decide +kernel) rfl) (r_v 0 (pv 0)) kit_tuple))) (q_or1 (q_not (q_truth (r_v 0 (pv 0)))))).pt (ss_one (s_ret r_bl)) ss_nil) (ss_cons (s_set (ps_set (i := 1) sc_has_form.nd rfl (by first | exact .inl rfl | exact .inr rfl) (r_ix ix_seq d_ix (r_v 0 (pv 0)) r_int (fun _ _ => rfl)))) (ss_one (s_ret (r_and (r_isa (by rfl) b_isinstance (pe_bltn (by rfl) b_str (by decide +kernel) rfl) (r_v 1 (pv 1)) kit_str) (r_and (r_kin K_KINDS (by rfl) k_KINDS (r_v 1 (pv 1))) (r_one (r_cmp (op_eqW hr.units) d_eq (r_b call_len_seq d_len (by rfl) b_len (by decide +kernel) (a_cons (r_v 0 (pv 0)) a_nil)) (r_op op_addD d_add r_int (r_kget K_KINDS (by rfl) k_KINDS (r_v 1 (pv 1)) (fun _ _ => rfl))) (nomark _)))))))))
/-! are_rules -/
abbrev St_are_rules : Stmt := topS 16
abbrev N_are_rules : List Str := ["value"]
theorem sc_are_rules : FnScope N_are_rules ["value"] (defScope St_are_rules) := ⟨rfl, rfl, rfl, by decide +kernel, rfl, by decide +kernel, by decide +kernel⟩
def F_are_rules : Env' → T Fl := (sRet (eAnd (eUn (oIsI "tuple") (eV 0)) (eCh oLe oLe (eC (.int 1)) (eCb oLen (aCons (eV 0) aNil)) (eC (.int 6)))))
@[irreducible] def m_are_rules : List Ar → T D := mkDef 1 F_are_rules
theorem mq_are_rules : m_are_rules = mkDef 1 F_are_rules := by
  unfold m_are_rules
  rfl
theorem ok_are_rules {P : Program} {w : World} {K : PySem.W.Frag} {mg : Str → Option Value} {base : Heap} {cad : Cad} {fa : Addr} {fd : FuncData} (Fu : Fun K "are_rules" "are_rules" St_are_rules fa fd) (b_isinstance : mg "isinstance" = none) (b_tuple : mg "tuple" = none) (b_len : mg "len" = none) {tok_MAX_PLANES : Tok} (c_MAX_PLANES : mg "MAX_PLANES" = some (.int 6 tok_MAX_PLANES)) : FnG P w K mg base 2 fa fd ["value"] (spD cad 1 m_are_rules) :=
  by
  rw [mq_are_rules]
  exact FnG.ofD (F := F_are_rules) (N := N_are_rules) Fu sc_are_rules fun cdv A outer s H E hr hgu => (ss_one (s_ret (r_and (r_isa (by rfl) b_isinstance (pe_bltn (by rfl) b_tuple (by decide +kernel) rfl) (r_v 0 (pv 0)) kit_tuple) (r_one (r_chain op_le op_le u_cmp d_cmp r_int (r_b call_len_seq d_len (by rfl) b_len (by decide +kernel) (a_cons (r_v 0 (pv 0)) a_nil)) (r_glob (v := .int 6) (by rfl) c_MAX_PLANES ⟨_, rfl⟩ fun _ => .int 6))))))
/-! read_error -/
abbrev St_read_error : Stmt := topS 17
abbrev N_read_error : List Str := ["dims", "planes", "value", "source", "distance"]
theorem sc_read_error : FnScope N_read_error ["dims", "planes", "value"] (defScope St_read_error) := ⟨rfl, rfl, rfl, by decide +kernel, rfl, by decide +kernel, by decide +kernel⟩
def F_read_error : Env' → T Fl := (sSeq (sIf (eUn oNot (eCall 2 m_is_tuple_of (aCons (eC (.int 2)) (aCons (eV 2) aNil)))) (sRet (eC (.str "read"))) sNil) (sSeq (sUnp (bTup [3, 4]) (eV 2)) (sSeq (sIf (eUn oNot (eCall 3 m_is_within (aCons (eV 3) (aCons (eC (.int 0)) (aCons (eBin oSub (eV 1) (eC (.int 1))) aNil))))) (sRet (eC (.str "source"))) sNil) (sSeq (sIf (eUn oNot (eCall 3 m_is_bounded (aCons (eV 0) (aCons (eV 4) (aCons (eC (.int 4)) aNil))))) (sRet (eC (.str "distance"))) sNil) (sRet (eC .none))))))
@[irreducible] def m_read_error : List Ar → T D := mkDef 5 F_read_error
theorem mq_read_error : m_read_error = mkDef 5 F_read_error := by
  unfold m_read_error
  rfl
theorem ok_read_error {P : Program} {w : World} {K : PySem.W.Frag} {mg : Str → Option Value} {base : Heap} {cad : Cad} {fa : Addr} {fd : FuncData} (Fu : Fun K "read_error" "read_error" St_read_error fa fd) (C_is_tuple_of : Cal P w K mg base cad "is_tuple_of" 2 2 m_is_tuple_of) (C_is_within : Cal P w K mg base cad "is_within" 2 3 m_is_within) (C_is_bounded : Cal P w K mg base cad "is_bounded" 3 3 m_is_bounded) {tok_MAX_DIST : Tok} (c_MAX_DIST : mg "MAX_DIST" = some (.int 4 tok_MAX_DIST)) : FnG P w K mg base 4 fa fd ["dims", "planes", "value"] (spD cad 3 m_read_error) :=
  by
  rw [mq_read_error]
  exact FnG.ofD (F := F_read_error) (N := N_read_error) Fu sc_read_error fun cdv A outer s H E hr hgu => (ss_cons (s_if (q_not (q_val (r_cal C_is_tuple_of hr (by first | decide | omega) hgu (by rfl) (takes_of rfl rfl rfl rfl) (a_cons r_int (a_cons (r_v 2 (pv 2)) a_nil))))) (ss_one (s_ret r_str)) ss_nil) (ss_cons (s_unp (is := [3, 4]) rfl (ps_asg (r_v 2 (pv 2)) (pg_tup rfl (pgs_cons (pg_name (i := 3) sc_read_error.nd rfl (by first | exact .inl rfl | exact .inr rfl)) (pgs_cons (pg_name (i := 4) sc_read_error.nd rfl (by first | exact .inl rfl | exact .inr rfl)) pgs_nil))))) (ss_cons (s_if (q_not (q_val (r_cal C_is_within hr (by first | decide | omega) hgu (by rfl) (takes_of rfl rfl rfl rfl) (a_cons (r_v 3 (pv 3)) (a_cons r_int (a_cons (r_op op_sub d_sub (r_v 1 (pv 1)) r_int) a_nil)))))) (ss_one (s_ret r_str)) ss_nil) (ss_cons (s_if (q_not (q_val (r_cal C_is_bounded hr (by first | decide | omega) hgu (by rfl) (takes_of rfl rfl rfl rfl) (a_cons (r_v 0 (pv 0)) (a_cons (r_v 4 (pv 4)) (a_cons (r_glob (v := .int 4) (by rfl) c_MAX_DIST ⟨_, rfl⟩ fun _ => .int 4) a_nil)))))) (ss_one (s_ret r_str)) ss_nil) (ss_one (s_ret r_non))))))
/-! rule_error -/
abbrev St_rule_error : Stmt := topS 18
abbrev N_rule_error : List Str := ["dims", "planes", "value", "operand", "read", "word"]
theorem sc_rule_error : FnScope N_rule_error ["dims", "planes", "value"] (defScope St_rule_error) := ⟨rfl, rfl, rfl, by decide +kernel, rfl, by decide +kernel, by decide +kernel⟩
def B0_rule_error : Env' → T Fl := (sSeq (sSet 5 (eCall 3 m_read_error (aCons (eV 0) (aCons (eV 1) (aCons (eV 4) aNil))))) (sIf (eBin oNotN (eV 5) (eC .none)) (sRet (eTup (aCons (eV 3) (aCons (eV 5) aNil)))) sNil))
def F_rule_error : Env' → T Fl := (sSeq (sIf (eUn oNot (eCall 1 m_has_form (aCons (eV 2) aNil))) (sRet (eTup (aCons (eC .none) (aCons (eC (.str "rule")) aNil)))) sNil) (sSeq (sFor (iArg oEnum (aCons (eSl (eV 2) (pSome (eC (.int 1))) pNone) aNil)) (bTup [3, 4]) B0_rule_error) (sRet (eC .none))))
@[irreducible] def m_rule_error : List Ar → T D := mkDef 6 F_rule_error
theorem mq_rule_error : m_rule_error = mkDef 6 F_rule_error := by
  unfold m_rule_error
  rfl
theorem ok_rule_error {P : Program} {w : World} {K : PySem.W.Frag} {mg : Str → Option Value} {base : Heap} {cad : Cad} {fa : Addr} {fd : FuncData} (Fu : Fun K "rule_error" "rule_error" St_rule_error fa fd) (C_has_form : Cal P w K mg base cad "has_form" 2 1 m_has_form) (C_read_error : Cal P w K mg base cad "read_error" 4 3 m_read_error) (b_enumerate : mg "enumerate" = none) : FnG P w K mg base 5 fa fd ["dims", "planes", "value"] (spD cad 3 m_rule_error) :=
  by
  rw [mq_rule_error]
  exact FnG.ofD (F := F_rule_error) (N := N_rule_error) Fu sc_rule_error fun cdv A outer s H E hr hgu => (ss_cons (s_if (q_not (q_val (r_cal C_has_form hr (by first | decide | omega) hgu (by rfl) (takes_of rfl rfl rfl rfl) (a_cons (r_v 2 (pv 2)) a_nil)))) (ss_one (s_ret (r_tup (a_cons r_non (a_cons r_str a_nil))))) ss_nil) (ss_cons (s_for (b_tup rfl) (ps_for (passes_of rfl) rfl (i_enum (by rfl) b_enumerate (a_cons (r_sl (r_v 2 (pv 2)) (p_some r_int) p_none) a_nil)) (pg_tup rfl (pgs_cons (pg_name (i := 3) sc_rule_error.nd rfl (by first | exact .inl rfl | exact .inr rfl)) (pgs_cons (pg_name (i := 4) sc_rule_error.nd rfl (by first | exact .inl rfl | exact .inr rfl)) pgs_nil))) (ss_cons (s_set (ps_set (i := 5) sc_rule_error.nd rfl (by first | exact .inl rfl | exact .inr rfl) (r_cal C_read_error hr (by first | decide | omega) hgu (by rfl) (takes_of rfl rfl rfl rfl) (a_cons (r_v 0 (pv 0)) (a_cons (r_v 1 (pv 1)) (a_cons (r_v 4 (pv 4)) a_nil)))))) (ss_one (s_if (q_cmp op_notN d_notN (r_v 5 (pv 5)) r_non (nomark _)) (ss_one (s_ret (r_tup (a_cons (r_v 3 (pv 3)) (a_cons (r_v 5 (pv 5)) a_nil))))) ss_nil))))) (ss_one (s_ret r_non))))
/-! flow_error -/
abbrev St_flow_error : Stmt := topS 19
abbrev N_flow_error : List Str := ["value", "dims", "rules", "plane", "rule", "error", "operand", "word"]
theorem sc_flow_error : FnScope N_flow_error ["value"] (defScope St_flow_error) := ⟨rfl, rfl, rfl, by decide +kernel, rfl, by decide +kernel, by decide +kernel⟩
def B0_flow_error : Env' → T Fl := (sSeq (sSet 5 (eCall 3 m_rule_error (aCons (eV 1) (aCons (eCb oLen (aCons (eV 2) aNil)) (aCons (eV 4) aNil))))) (sIf (eBin oNotN (eV 5) (eC .none)) (sSeq (sUnp (bTup [6, 7]) (eV 5)) (sRet (eTup (aCons (eIf (eBin oIsN (eV 6) (eC .none)) (eV 3) (eTup (aCons (eV 3) (aCons (eV 6) aNil)))) (aCons (eV 7) aNil))))) sNil))
def F_flow_error : Env' → T Fl := (sSeq (sIf (eUn oNot (eCall 2 m_is_tuple_of (aCons (eC (.int 2)) (aCons (eV 0) aNil)))) (sRet (eTup (aCons (eC .none) (aCons (eC (.str "flow")) aNil)))) sNil) (sSeq (sUnp (bTup [1, 2]) (eV 0)) (sSeq (sIf (eUn oNot (eCall 3 m_is_within (aCons (eV 1) (aCons (eC (.int 2)) (aCons (eC (.int 3)) aNil))))) (sRet (eTup (aCons (eC .none) (aCons (eC (.str "dims")) aNil)))) sNil) (sSeq (sIf (eUn oNot (eCall 1 m_are_rules (aCons (eV 2) aNil))) (sRet (eTup (aCons (eC .none) (aCons (eC (.str "rules")) aNil)))) sNil) (sSeq (sFor (iArg oEnum (aCons (eV 2) aNil)) (bTup [3, 4]) B0_flow_error) (sRet (eC .none)))))))
@[irreducible] def m_flow_error : List Ar → T D := mkDef 8 F_flow_error
theorem mq_flow_error : m_flow_error = mkDef 8 F_flow_error := by
  unfold m_flow_error
  rfl
theorem ok_flow_error {P : Program} {w : World} {K : PySem.W.Frag} {mg : Str → Option Value} {base : Heap} {cad : Cad} {fa : Addr} {fd : FuncData} (Fu : Fun K "flow_error" "flow_error" St_flow_error fa fd) (C_is_tuple_of : Cal P w K mg base cad "is_tuple_of" 2 2 m_is_tuple_of) (C_is_within : Cal P w K mg base cad "is_within" 2 3 m_is_within) (C_are_rules : Cal P w K mg base cad "are_rules" 2 1 m_are_rules) (C_rule_error : Cal P w K mg base cad "rule_error" 5 3 m_rule_error) (b_enumerate : mg "enumerate" = none) (b_len : mg "len" = none) : FnG P w K mg base 6 fa fd ["value"] (spD cad 1 m_flow_error) :=
  by
  rw [mq_flow_error]
  exact FnG.ofD (F := F_flow_error) (N := N_flow_error) Fu sc_flow_error fun cdv A outer s H E hr hgu => (ss_cons (s_if (q_not (q_val (r_cal C_is_tuple_of hr (by first | decide | omega) hgu (by rfl) (takes_of rfl rfl rfl rfl) (a_cons r_int (a_cons (r_v 0 (pv 0)) a_nil))))) (ss_one (s_ret (r_tup (a_cons r_non (a_cons r_str a_nil))))) ss_nil) (ss_cons (s_unp (is := [1, 2]) rfl (ps_asg (r_v 0 (pv 0)) (pg_tup rfl (pgs_cons (pg_name (i := 1) sc_flow_error.nd rfl (by first | exact .inl rfl | exact .inr rfl)) (pgs_cons (pg_name (i := 2) sc_flow_error.nd rfl (by first | exact .inl rfl | exact .inr rfl)) pgs_nil))))) (ss_cons (s_if (q_not (q_val (r_cal C_is_within hr (by first | decide | omega) hgu (by rfl) (takes_of rfl rfl rfl rfl) (a_cons (r_v 1 (pv 1)) (a_cons r_int (a_cons r_int a_nil)))))) (ss_one (s_ret (r_tup (a_cons r_non (a_cons r_str a_nil))))) ss_nil) (ss_cons (s_if (q_not (q_val (r_cal C_are_rules hr (by first | decide | omega) hgu (by rfl) (takes_of rfl rfl rfl rfl) (a_cons (r_v 2 (pv 2)) a_nil)))) (ss_one (s_ret (r_tup (a_cons r_non (a_cons r_str a_nil))))) ss_nil) (ss_cons (s_for (b_tup rfl) (ps_for (passes_of rfl) rfl (i_enum (by rfl) b_enumerate (a_cons (r_v 2 (pv 2)) a_nil)) (pg_tup rfl (pgs_cons (pg_name (i := 3) sc_flow_error.nd rfl (by first | exact .inl rfl | exact .inr rfl)) (pgs_cons (pg_name (i := 4) sc_flow_error.nd rfl (by first | exact .inl rfl | exact .inr rfl)) pgs_nil))) (ss_cons (s_set (ps_set (i := 5) sc_flow_error.nd rfl (by first | exact .inl rfl | exact .inr rfl) (r_cal C_rule_error hr (by first | decide | omega) hgu (by rfl) (takes_of rfl rfl rfl rfl) (a_cons (r_v 1 (pv 1)) (a_cons (r_b call_len_seq d_len (by rfl) b_len (by decide +kernel) (a_cons (r_v 2 (pv 2)) a_nil)) (a_cons (r_v 4 (pv 4)) a_nil)))))) (ss_one (s_if (q_cmp op_notN d_notN (r_v 5 (pv 5)) r_non (nomark _)) (ss_cons (s_unp (is := [6, 7]) rfl (ps_asg (r_v 5 (pv 5)) (pg_tup rfl (pgs_cons (pg_name (i := 6) sc_flow_error.nd rfl (by first | exact .inl rfl | exact .inr rfl)) (pgs_cons (pg_name (i := 7) sc_flow_error.nd rfl (by first | exact .inl rfl | exact .inr rfl)) pgs_nil))))) (ss_one (s_ret (r_tup (a_cons (r_if (q_cmp op_isN d_isN (r_v 6 (pv 6)) r_non (nomark _)) (r_v 3 (pv 3)) (r_tup (a_cons (r_v 3 (pv 3)) (a_cons (r_v 6 (pv 6)) a_nil)))) (a_cons (r_v 7 (pv 7)) a_nil)))))) ss_nil))))) (ss_one (s_ret r_non)))))))
/-! parse_integer -/
abbrev St_parse_integer : Stmt := topS 23
abbrev N_parse_integer : List Str := ["text", "digits", "number", "sign"]
theorem sc_parse_integer : FnScope N_parse_integer ["text"] (defScope St_parse_integer) := ⟨rfl, rfl, rfl, by decide +kernel, rfl, by decide +kernel, by decide +kernel⟩
def F_parse_integer : Env' → T Fl := (sSeq (sSet 1 (eIf (eSM oStartS (eV 0) (eC (.str "-"))) (eSlX (eV 0) (pSome (eC (.int 1))) pNone) (eV 0))) (sSeq (sIf (eOr (eUn oNot (eCh oLe oLe (eC (.int 1)) (eCb (o1 oLenT) (aCons (eV 1) aNil)) (eC (.int 12)))) (eUn oNot (eCb (o1 oAll) (aCons (eLc [3] (iStrE (eV 1)) (bName 3) tTrue (eBin oInSign (eV 3) (eC (.str "0123456789")))) aNil)))) (sRet (eC .none)) sNil) (sSeq (sSet 2 (eCb (o1 oIntT) (aCons (eV 0) aNil))) (sRet (eIf (eBin oEq (eCb (o1 oStrI) (aCons (eV 2) aNil)) (eV 0)) (eV 2) (eC .none))))))
@[irreducible] def m_parse_integer : List Ar → T D := mkDef 4 F_parse_integer
theorem mq_parse_integer : m_parse_integer = mkDef 4 F_parse_integer := by
  unfold m_parse_integer
  rfl
theorem ok_parse_integer {P : Program} {w : World} {K : PySem.W.Frag} {mg : Str → Option Value} {base : Heap} {cad : Cad} {fa : Addr} {fd : FuncData} (Fu : Fun K "parse_integer" "parse_integer" St_parse_integer fa fd) (b_len : mg "len" = none) (b_all : mg "all" = none) (b_int : mg "int" = none) (b_str : mg "str" = none) {tok_MAX_DIGITS : Tok} (c_MAX_DIGITS : mg "MAX_DIGITS" = some (.int 12 tok_MAX_DIGITS)) {tok_DIGITS : Tok} (c_DIGITS : mg "DIGITS" = some (.str "0123456789" tok_DIGITS)) : FnG P w K mg base 2 fa fd ["text"] (spD cad 1 m_parse_integer) :=
  by
  rw [mq_parse_integer]
  exact FnG.ofD (F := F_parse_integer) (N := N_parse_integer) Fu sc_parse_integer fun cdv A outer s H E hr hgu => (ss_cons (s_set (ps_set (i := 1) sc_parse_integer.nd rfl (by first | exact .inl rfl | exact .inr rfl) (r_if (q_val (r_sm PySem.F.slot_str_startswith PySem.F.type_str_startswith mt_startswith m_starts (r_v 0 (pv 0)) r_str)) (r_slX (r_v 0 (pv 0)) (p_some r_int) p_none) (r_v 0 (pv 0))))) (ss_cons (s_if (q_or (q_not (q_chain op_le op_le u_cmp d_cmp r_int (r_b call_len_str d_lenT (by rfl) b_len (by decide +kernel) (a_cons (r_v 1 (pv 1)) a_nil)) (r_glob (v := .int 12) (by rfl) c_MAX_DIGITS ⟨_, rfl⟩ fun _ => .int 12))) (q_or1 (q_not (q_val (r_b (cr_all rfl) d_all (by rfl) b_all (by decide +kernel) (a_cons (r_lc (own := [("sign", 3)]) rfl sc_parse_integer.nd (i_str (r_v 1 (pv 1))) (blkOk_by (N := N_parse_integer) (sc := defScope St_parse_integer) (by decide +kernel)) (fun _ _ _ _ _ => (g_name (pg_name (i := 3) sc_parse_integer.nd rfl (by first | exact .inl rfl | exact .inr rfl)))) (fun _ _ _ _ _ => pts_yes) (fun _ _ _ _ _ => (r_cmp op_in_sign d_inSign (r_v 3 (pv 3)) (r_glob (v := .str "0123456789") (by rfl) c_DIGITS ⟨_, rfl⟩ fun _ => .str _) rfl)) (by decide)) a_nil)))))).pt (ss_one (s_ret r_non)) ss_nil) (ss_cons (s_set (ps_set (i := 2) sc_parse_integer.nd rfl (by first | exact .inl rfl | exact .inr rfl) (r_bt call_int_str d_intT (by rfl) b_int (by decide +kernel) (a_cons (r_v 0 (pv 0)) a_nil)))) (ss_one (s_ret (r_if (q_cmp (op_eqW hr.units) d_eq (r_bt call_str_int d_strI (by rfl) b_str (by decide +kernel) (a_cons (r_v 2 (pv 2)) a_nil)) (r_v 0 (pv 0)) (nomark _)) (r_v 2 (pv 2)) r_non))))))
/-! parse_vector -/
abbrev St_parse_vector : Stmt := topS 24
abbrev N_parse_vector : List Str := ["dims", "text", "items", "item"]
theorem sc_parse_vector : FnScope N_parse_vector ["dims", "text"] (defScope St_parse_vector) := ⟨rfl, rfl, rfl, by decide +kernel, rfl, by decide +kernel, by decide +kernel⟩
def F_parse_vector : Env' → T Fl := (sSeq (sSet 2 (eLc [3] (iSeq (eSM oSplitS (eV 1) (eC (.str ",")))) (bName 3) tTrue (eCall 1 m_parse_integer (aCons (eV 3) aNil)))) (sRet (eIf (eOr (eBin oInT (eC .none) (eV 2)) (eBin oNe (eCb oLen (aCons (eV 2) aNil)) (eV 0))) (eC .none) (eCb (o1 oTupleOf) (aCons (eV 2) aNil)))))
@[irreducible] def m_parse_vector : List Ar → T D := mkDef 4 F_parse_vector
theorem mq_parse_vector : m_parse_vector = mkDef 4 F_parse_vector := by
  unfold m_parse_vector
  rfl
theorem ok_parse_vector {P : Program} {w : World} {K : PySem.W.Frag} {mg : Str → Option Value} {base : Heap} {cad : Cad} {fa : Addr} {fd : FuncData} (Fu : Fun K "parse_vector" "parse_vector" St_parse_vector fa fd) (C_parse_integer : Cal P w K mg base cad "parse_integer" 2 1 m_parse_integer) (b_len : mg "len" = none) (b_tuple : mg "tuple" = none) : FnG P w K mg base 3 fa fd ["dims", "text"] (spD cad 2 m_parse_vector) :=
  by
  rw [mq_parse_vector]
  exact FnG.ofD (F := F_parse_vector) (N := N_parse_vector) Fu sc_parse_vector fun cdv A outer s H E hr hgu => (ss_cons (s_setLc (ps_setLc (i := 2) (own := [("item", 3)]) rfl sc_parse_vector.nd rfl rfl (by rfl) (i_seq (r_sm PySem.F.slot_str_split PySem.F.type_str_split mt_split m_split (r_v 1 (pv 1)) r_str)) (blkOk_by (N := N_parse_vector) (sc := defScope St_parse_vector) (by decide +kernel)) (fun _ _ _ _ _ => (g_name (pg_name (i := 3) sc_parse_vector.nd rfl (by first | exact .inl rfl | exact .inr rfl)))) (fun _ _ _ _ _ => pts_yes) (fun _ _ _ _ _ => (r_cal C_parse_integer hr (by first | decide | omega) hgu (by rfl) takes0 (a_cons (r_v 3 (pv 3)) a_nil)))) (by decide)) (ss_one (s_ret (r_if (q_or (q_cmp (op_inLT (un65 hr)) d_inT r_non (r_v 2 (pv 2)) rfl) (q_or1 (q_cmp (op_neW hr.units) d_ne (r_b call_len_seq d_len (by rfl) b_len (by decide +kernel) (a_cons (r_v 2 (pv 2)) a_nil)) (r_v 0 (pv 0)) (nomark _)))).pt r_non (r_bt call_tuple_S d_tuple (by rfl) b_tuple (by decide +kernel) (a_cons (r_v 2 (pv 2)) a_nil))))))
/-! parse_read -/
abbrev St_parse_read : Stmt := topS 25
abbrev N_parse_read : List Str := ["dims", "text", "parts", "plane", "vector"]
theorem sc_parse_read : FnScope N_parse_read ["dims", "text"] (defScope St_parse_read) := ⟨rfl, rfl, rfl, by decide +kernel, rfl, by decide +kernel, by decide +kernel⟩
def F_parse_read : Env' → T Fl := (sSeq (sSet 2 (eSM oSplitS (eV 1) (eC (.str "@")))) (sSeq (sIf (eBin oNe (eCb oLen (aCons (eV 2) aNil)) (eC (.int 2))) (sRet (eC .none)) sNil) (sSeq (sSet 3 (eCall 1 m_parse_integer (aCons (eBin oIx (eV 2) (eC (.int 0))) aNil))) (sSeq (sSet 4 (eCall 2 m_parse_vector (aCons (eV 0) (aCons (eBin oIx (eV 2) (eC (.int 1))) aNil)))) (sRet (eIf (eOr (eBin oIsN (eV 3) (eC .none)) (eOr (eBin oLt (eV 3) (eC (.int 0))) (eBin oIsN (eV 4) (eC .none)))) (eC .none) (eTup (aCons (eV 3) (aCons (eV 4) aNil)))))))))
@[irreducible] def m_parse_read : List Ar → T D := mkDef 5 F_parse_read
theorem mq_parse_read : m_parse_read = mkDef 5 F_parse_read := by
  unfold m_parse_read
  rfl
theorem ok_parse_read {P : Program} {w : World} {K : PySem.W.Frag} {mg : Str → Option Value} {base : Heap} {cad : Cad} {fa : Addr} {fd : FuncData} (Fu : Fun K "parse_read" "parse_read" St_parse_read fa fd) (C_parse_integer : Cal P w K mg base cad "parse_integer" 2 1 m_parse_integer) (C_parse_vector : Cal P w K mg base cad "parse_vector" 3 2 m_parse_vector) (b_len : mg "len" = none) : FnG P w K mg base 4 fa fd ["dims", "text"] (spD cad 2 m_parse_read) :=
  by
  rw [mq_parse_read]
  exact FnG.ofD (F := F_parse_read) (N := N_parse_read) Fu sc_parse_read fun cdv A outer s H E hr hgu => (ss_cons (s_set (ps_set (i := 2) sc_parse_read.nd rfl (by first | exact .inl rfl | exact .inr rfl) (r_sm PySem.F.slot_str_split PySem.F.type_str_split mt_split m_split (r_v 1 (pv 1)) r_str))) (ss_cons (s_if (q_cmp (op_neW hr.units) d_ne (r_b call_len_seq d_len (by rfl) b_len (by decide +kernel) (a_cons (r_v 2 (pv 2)) a_nil)) r_int (nomark _)) (ss_one (s_ret r_non)) ss_nil) (ss_cons (s_set (ps_set (i := 3) sc_parse_read.nd rfl (by first | exact .inl rfl | exact .inr rfl) (r_cal C_parse_integer hr (by first | decide | omega) hgu (by rfl) (takes_of rfl rfl rfl rfl) (a_cons (r_ix ix_seq d_ix (r_v 2 (pv 2)) r_int (fun _ _ => rfl)) a_nil)))) (ss_cons (s_set (ps_set (i := 4) sc_parse_read.nd rfl (by first | exact .inl rfl | exact .inr rfl) (r_cal C_parse_vector hr (by first | decide | omega) hgu (by rfl) (takes_of rfl rfl rfl rfl) (a_cons (r_v 0 (pv 0)) (a_cons (r_ix ix_seq d_ix (r_v 2 (pv 2)) r_int (fun _ _ => rfl)) a_nil))))) (ss_one (s_ret (r_if (q_or (q_cmp op_isN d_isN (r_v 3 (pv 3)) r_non (nomark _)) (q_or (q_cmp op_lt d_cmp (r_v 3 (pv 3)) r_int (nomark _)) (q_or1 (q_cmp op_isN d_isN (r_v 4 (pv 4)) r_non (nomark _))))).pt r_non (r_tup (a_cons (r_v 3 (pv 3)) (a_cons (r_v 4 (pv 4)) a_nil))))))))))
/-! parse_rule -/
abbrev St_parse_rule : Stmt := topS 26
abbrev N_parse_rule : List Str := ["dims", "words", "at", "kind", "reads", "index", "read"]
theorem sc_parse_rule : FnScope N_parse_rule ["dims", "words", "at"] (defScope St_parse_rule) := ⟨rfl, rfl, rfl, by decide +kernel, rfl, by decide +kernel, by decide +kernel⟩
def B0_parse_rule : Env' → T Fl := (sSeq (sSet 6 (eIf (eBin oLt (eV 5) (eCb oLen (aCons (eV 1) aNil))) (eCall 2 m_parse_read (aCons (eV 0) (aCons (eBin oIx (eV 1) (eV 5)) aNil))) (eC .none))) (sSeq (sIf (eBin oIsN (eV 6) (eC .none)) (sRaise1 "BadText" "index" (eV 5)) sNil) (sApp 4 (eV 6))))
def F_parse_rule : Env' → T Fl := (sSeq (sIf (eOr (eBin oEq (eV 2) (eCb oLen (aCons (eV 1) aNil))) (eBin oNe (eBin oIx (eV 1) (eV 2)) (eC (.str "/")))) (sRaise1 "BadText" "index" (eV 2)) sNil) (sSeq (sIf (eOr (eBin oEq (eBin oAdd (eV 2) (eC (.int 1))) (eCb oLen (aCons (eV 1) aNil))) (eUn (oKNotIn kv_KINDS) (eBin oIx (eV 1) (eBin oAdd (eV 2) (eC (.int 1)))))) (sRaise1 "BadText" "index" (eBin oAdd (eV 2) (eC (.int 1)))) sNil) (sSeq (sSet 3 (eBin oIx (eV 1) (eBin oAdd (eV 2) (eC (.int 1))))) (sSeq (sOwn 4 (lLst aNil)) (sSeq (sFor (iArg oRng2 (aCons (eBin oAdd (eV 2) (eC (.int 2))) (aCons (eBin oAdd (eBin oAdd (eV 2) (eC (.int 2))) (eUn (oKGet kv_KINDS) (eV 3))) aNil))) (bName 5) B0_parse_rule) (sFrz 4 (sRet (eBin oAdd (eTup (aCons (eV 3) aNil)) (eCb (o1 oTupleOf) (aCons (eV 4) aNil))))))))))
@[irreducible] def m_parse_rule : List Ar → T D := mkDef 7 F_parse_rule
theorem mq_parse_rule : m_parse_rule = mkDef 7 F_parse_rule := by
  unfold m_parse_rule
  rfl
theorem ok_parse_rule {P : Program} {w : World} {K : PySem.W.Frag} {mg : Str → Option Value} {base : Heap} {cad : Cad} {fa : Addr} {fd : FuncData} (Fu : Fun K "parse_rule" "parse_rule" St_parse_rule fa fd) (C_parse_read : Cal P w K mg base cad "parse_read" 4 2 m_parse_read) (b_len : mg "len" = none) (b_range : mg "range" = none) (b_tuple : mg "tuple" = none) {dA_KINDS : Addr} (K_KINDS : KdI K w dA_KINDS kv_KINDS) (k_KINDS : mg "KINDS" = some (.ref dA_KINDS)) (E_BadText : Err1 P w K mg base cad "BadText" "index") : FnG P w K mg base 5 fa fd ["dims", "words", "at"] (spD cad 3 m_parse_rule) :=
  by
  rw [mq_parse_rule]
  exact FnG.ofD (F := F_parse_rule) (N := N_parse_rule) Fu sc_parse_rule fun cdv A outer s H E hr hgu => (ss_cons (s_if (q_or (q_cmp (op_eqW hr.units) d_eq (r_v 2 (pv 2)) (r_b call_len_seq d_len (by rfl) b_len (by decide +kernel) (a_cons (r_v 1 (pv 1)) a_nil)) (nomark _)) (q_or1 (q_cmp (op_neW hr.units) d_ne (r_ix ix_seq d_ix (r_v 1 (pv 1)) (r_v 2 (pv 2)) (fun _ _ => rfl)) r_str (nomark _)))).pt (ss_one (s_raiseE E_BadText rfl (takes_of rfl rfl rfl rfl) hr (by first | decide | omega) (by rfl) (r_v 2 (pv 2)))) ss_nil) (ss_cons (s_if (q_or (q_cmp (op_eqW hr.units) d_eq (r_op op_addD d_add (r_v 2 (pv 2)) r_int) (r_b call_len_seq d_len (by rfl) b_len (by decide +kernel) (a_cons (r_v 1 (pv 1)) a_nil)) (nomark _)) (q_or1 (q_knotIn K_KINDS (by rfl) k_KINDS (r_ix ix_seq d_ix (r_v 1 (pv 1)) (r_op op_addD d_add (r_v 2 (pv 2)) r_int) (fun _ _ => rfl))))).pt (ss_one (s_raiseE E_BadText rfl (takes_of rfl rfl rfl rfl) hr (by first | decide | omega) (by rfl) (r_op op_addD d_add (r_v 2 (pv 2)) r_int))) ss_nil) (ss_cons (s_set (ps_set (i := 3) sc_parse_rule.nd rfl (by first | exact .inl rfl | exact .inr rfl) (r_ix ix_seq d_ix (r_v 1 (pv 1)) (r_op op_addD d_add (r_v 2 (pv 2)) r_int) (fun _ _ => rfl)))) (ss_cons (s_own (ps_set (i := 4) sc_parse_rule.nd rfl (by first | exact .inl rfl | exact .inr rfl) (pe_lst a_nil))) (ss_cons (s_for (b_name (K := K)) (ps_for (passes_of rfl) rfl (i_rng2 (by rfl) b_range (a_cons (r_op op_addD d_add (r_v 2 (pv 2)) r_int) (a_cons (r_op op_addD d_add (r_op op_addD d_add (r_v 2 (pv 2)) r_int) (r_kget K_KINDS (by rfl) k_KINDS (r_v 3 (pv 3)) (fun _ _ => rfl))) a_nil))) (pg_name (i := 5) sc_parse_rule.nd rfl (by first | exact .inl rfl | exact .inr rfl)) (ss_cons (s_set (ps_set (i := 6) sc_parse_rule.nd rfl (by first | exact .inl rfl | exact .inr rfl) (r_if (q_cmp op_lt d_cmp (r_v 5 (pv 5)) (r_b call_len_seq d_len (by rfl) b_len (by decide +kernel) (a_cons (r_v 1 (pv 1)) a_nil)) (nomark _)) (r_cal C_parse_read hr (by first | decide | omega) hgu (by rfl) (takes_of rfl rfl rfl rfl) (a_cons (r_v 0 (pv 0)) (a_cons (r_ix ix_seq d_ix (r_v 1 (pv 1)) (r_v 5 (pv 5)) (fun _ _ => rfl)) a_nil))) r_non))) (ss_cons (s_if (q_cmp op_isN d_isN (r_v 6 (pv 6)) r_non (nomark _)) (ss_one (s_raiseE E_BadText rfl (takes_of rfl rfl rfl rfl) hr (by first | decide | omega) (by rfl) (r_v 5 (pv 5)))) ss_nil) (ss_one (s_app (ps_expr (pe_bm PySem.F.plainAttrs_list PySem.F.slot_list_append PySem.F.type_list_append mt_append (pv 4) (pa_cons (r_v 6 (pv 6)) pa_nil))))))))) (ss_frz (i := 4) (ss_one (s_ret (r_op op_addD d_add (r_tup (a_cons (r_v 3 (pv 3)) a_nil)) (r_bt call_tuple_S d_tuple (by rfl) b_tuple (by decide +kernel) (a_cons (r_v 4 (pv 4)) a_nil)))))))))))
/-! parse_flow -/
abbrev St_parse_flow : Stmt := topS 27
abbrev N_parse_flow : List Str := ["value", "words", "dims", "rules", "at", "rule", "flow", "error"]
theorem sc_parse_flow : FnScope N_parse_flow ["value"] (defScope St_parse_flow) := ⟨rfl, rfl, rfl, by decide +kernel, rfl, by decide +kernel, by decide +kernel⟩
def F_parse_flow : Env' → T Fl := (sSeq (sIf (eUn oNot (eUn (oIsI "str") (eV 0))) (sRaise1 "BadText" "index" (eC .none)) sNil) (sSeq (sSet 1 (eSM oSplitS (eV 0) (eC (.str " ")))) (sSeq (sIf (eBin oNotInT (eBin oIx (eV 1) (eC (.int 0))) (eTup (aCons (eC (.str "2")) (aCons (eC (.str "3")) aNil)))) (sRaise1 "BadText" "index" (eC (.int 0))) sNil) (sSeq (sSet 2 (eCb (o1 oIntT) (aCons (eBin oIx (eV 1) (eC (.int 0))) aNil))) (sSeq (sOwn 3 (lLst aNil)) (sSeq (sSet 4 (eC (.int 1))) (sSeq (sWhile 1000000000 (eOr (eBin oLt (eV 4) (eCb oLen (aCons (eV 1) aNil))) (eUn oNot (eONe 3))) (sSeq (sSet 5 (eCall 3 m_parse_rule (aCons (eV 2) (aCons (eV 1) (aCons (eV 4) aNil))))) (sSeq (sApp 3 (eV 5)) (sSet 4 (eBin oAdd (eBin oAdd (eV 4) (eC (.int 1))) (eCb oLen (aCons (eV 5) aNil))))))) (sFrz 3 (sSeq (sSet 6 (eTup (aCons (eV 2) (aCons (eCb (o1 oTupleOf) (aCons (eV 3) aNil)) aNil)))) (sSeq (sSet 7 (eCall 1 m_flow_error (aCons (eV 6) aNil))) (sSeq (sIf (eBin oNotN (eV 7) (eC .none)) (sRaise1 "BadFlow" "error" (eV 7)) sNil) (sRet (eV 6)))))))))))))
@[irreducible] def m_parse_flow : List Ar → T D := mkDef 8 F_parse_flow
theorem mq_parse_flow : m_parse_flow = mkDef 8 F_parse_flow := by
  unfold m_parse_flow
  rfl
theorem ok_parse_flow {P : Program} {w : World} {K : PySem.W.Frag} {mg : Str → Option Value} {base : Heap} {cad : Cad} {fa : Addr} {fd : FuncData} (Fu : Fun K "parse_flow" "parse_flow" St_parse_flow fa fd) (C_parse_rule : Cal P w K mg base cad "parse_rule" 5 3 m_parse_rule) (C_flow_error : Cal P w K mg base cad "flow_error" 6 1 m_flow_error) (b_isinstance : mg "isinstance" = none) (b_str : mg "str" = none) (b_int : mg "int" = none) (b_len : mg "len" = none) (b_tuple : mg "tuple" = none) (E_BadText : Err1 P w K mg base cad "BadText" "index") (E_BadFlow : Err1 P w K mg base cad "BadFlow" "error") : FnG P w K mg base 7 fa fd ["value"] (spD cad 1 m_parse_flow) :=
  by
  rw [mq_parse_flow]
  exact FnG.ofD (F := F_parse_flow) (N := N_parse_flow) Fu sc_parse_flow fun cdv A outer s H E hr hgu => (ss_cons (s_if (q_not (q_val (r_isa (by rfl) b_isinstance (pe_bltn (by rfl) b_str (by decide +kernel) rfl) (r_v 0 (pv 0)) kit_str))) (ss_one (s_raiseE E_BadText rfl (takes_of rfl rfl rfl rfl) hr (by first | decide | omega) (by rfl) r_non)) ss_nil) (ss_cons (s_set (ps_set (i := 1) sc_parse_flow.nd rfl (by first | exact .inl rfl | exact .inr rfl) (r_sm PySem.F.slot_str_split PySem.F.type_str_split mt_split m_split (r_v 0 (pv 0)) r_str))) (ss_cons (s_if (q_cmp (op_notInLT (un65 hr)) d_notInT (r_ix ix_seq d_ix (r_v 1 (pv 1)) r_int (fun _ _ => rfl)) (r_tup (a_cons r_str (a_cons r_str a_nil))) rfl) (ss_one (s_raiseE E_BadText rfl (takes_of rfl rfl rfl rfl) hr (by first | decide | omega) (by rfl) r_int)) ss_nil) (ss_cons (s_set (ps_set (i := 2) sc_parse_flow.nd rfl (by first | exact .inl rfl | exact .inr rfl) (r_bt call_int_str d_intT (by rfl) b_int (by decide +kernel) (a_cons (r_ix ix_seq d_ix (r_v 1 (pv 1)) r_int (fun _ _ => rfl)) a_nil)))) (ss_cons (s_own (ps_set (i := 3) sc_parse_flow.nd rfl (by first | exact .inl rfl | exact .inr rfl) (pe_lst a_nil))) (ss_cons (s_set (ps_set (i := 4) sc_parse_flow.nd rfl (by first | exact .inl rfl | exact .inr rfl) r_int)) (ss_cons (s_while (n := 1000000000) (ps_while (passes_of rfl) (q_or (q_cmp op_lt d_cmp (r_v 4 (pv 4)) (r_b call_len_seq d_len (by rfl) b_len (by decide +kernel) (a_cons (r_v 1 (pv 1)) a_nil)) (nomark _)) (q_or1 (q_not (q_otruth (pv 3))))).pt (ss_cons (s_set (ps_set (i := 5) sc_parse_flow.nd rfl (by first | exact .inl rfl | exact .inr rfl) (r_cal C_parse_rule hr (by first | decide | omega) hgu (by rfl) (takes_of rfl rfl rfl rfl) (a_cons (r_v 2 (pv 2)) (a_cons (r_v 1 (pv 1)) (a_cons (r_v 4 (pv 4)) a_nil)))))) (ss_cons (s_app (ps_expr (pe_bm PySem.F.plainAttrs_list PySem.F.slot_list_append PySem.F.type_list_append mt_append (pv 3) (pa_cons (r_v 5 (pv 5)) pa_nil)))) (ss_one (s_set (ps_set (i := 4) sc_parse_flow.nd rfl (by first | exact .inl rfl | exact .inr rfl) (r_op op_addD d_add (r_op op_addD d_add (r_v 4 (pv 4)) r_int) (r_b call_len_seq d_len (by rfl) b_len (by decide +kernel) (a_cons (r_v 5 (pv 5)) a_nil)))))))))) (ss_frz (i := 3) (ss_cons (s_set (ps_set (i := 6) sc_parse_flow.nd rfl (by first | exact .inl rfl | exact .inr rfl) (r_tup (a_cons (r_v 2 (pv 2)) (a_cons (r_bt call_tuple_S d_tuple (by rfl) b_tuple (by decide +kernel) (a_cons (r_v 3 (pv 3)) a_nil)) a_nil))))) (ss_cons (s_set (ps_set (i := 7) sc_parse_flow.nd rfl (by first | exact .inl rfl | exact .inr rfl) (r_cal C_flow_error hr (by first | decide | omega) hgu (by rfl) (takes_of rfl rfl rfl rfl) (a_cons (r_v 6 (pv 6)) a_nil)))) (ss_cons (s_if (q_cmp op_notN d_notN (r_v 7 (pv 7)) r_non (nomark _)) (ss_one (s_raiseE E_BadFlow rfl (takes_of rfl rfl rfl rfl) hr (by first | decide | omega) (by rfl) (r_v 7 (pv 7)))) ss_nil) (ss_one (s_ret (r_v 6 (pv 6)))))))))))))))
/-! _law_opened -/
abbrev St_law_opened : Stmt := topS 29
abbrev N_law_opened : List Str := ["_law_script", "_law_cells", "_law_small", "_law_great", "_law_cell"]
theorem sc_law_opened : FnScope N_law_opened ["_law_script"] (defScope St_law_opened) := ⟨rfl, rfl, rfl, by decide +kernel, rfl, by decide +kernel, by decide +kernel⟩
theorem ok_law_opened {P : Program} {w : World} {K : PySem.W.Frag} {mg : Str → Option Value} {base : Heap} {cad : Cad} {fa : Addr} {fd : FuncData} (Fu : Fun K "_law_opened" "_law_opened" St_law_opened fa fd) (b_int : mg "int" = none) (b_abs : mg "abs" = none) : FnG P w K mg base 1 fa fd ["_law_script"] (spOpened K) :=
  FnG.of Fu sc_law_opened (fun vs H Q E h => by
    obtain ⟨a, ns, rfl, _⟩ := h
    rfl) fun cdv A outer s H vs Q E hr hg h => by
    refine ⟨_, pss_cons (ps_setLc (i := 1) (own := [("_law_cell", 4)]) rfl sc_law_opened.nd rfl rfl (by rfl) (pi_list (pe_slice sl_list (pv 0) po_none (po_some pe_int))) (blkOk_by (N := N_law_opened) (sc := defScope St_law_opened) (by decide +kernel)) (fun _ _ _ _ _ => pg_name (i := 4) sc_law_opened.nd rfl (by first | exact .inl rfl | exact .inr rfl)) (fun _ _ _ _ _ => pts_nil) (fun _ _ _ _ _ => pe_callB call_abs (by rfl) b_abs (by decide +kernel) (pa_cons (pv 4) pa_nil)))
      (pss_cons (ps_setLc (i := 2) (own := [("_law_cell", 4)]) rfl sc_law_opened.nd rfl rfl (by rfl) (pi_list (pv 1)) (blkOk_by (N := N_law_opened) (sc := defScope St_law_opened) (by decide +kernel)) (fun _ _ _ _ _ => pg_name (i := 4) sc_law_opened.nd rfl (by first | exact .inl rfl | exact .inr rfl)) (fun _ _ _ _ _ => pts_one (pt_cmpR op_lt (pv 4) (pe_op op_pow pe_int pe_int) (nomark _))) (fun _ _ _ _ _ => (pv 4)))
      (pss_cons (ps_setLc (i := 3) (own := [("_law_cell", 4)]) rfl sc_law_opened.nd rfl rfl (by rfl) (pi_list (pv 1)) (blkOk_by (N := N_law_opened) (sc := defScope St_law_opened) (by decide +kernel)) (fun _ _ _ _ _ => pg_name (i := 4) sc_law_opened.nd rfl (by first | exact .inl rfl | exact .inr rfl)) (fun _ _ _ _ _ => pts_one (pt_cmpR op_ge (pv 4) (pe_op op_pow pe_int pe_int) (nomark _))) (fun _ _ _ _ _ => (pv 4)))
      (pss_one (ps_ret (pe_disp (pps_cons pe_str (pv 3) (pps_cons pe_str (pe_op op_cat (pv 2) (pe_op op_rep (pe_lst (pa_cons pe_int pa_nil)) (pe_callTy call_int1 (by rfl) b_int (by decide +kernel) (pa_cons (pe_cmpR (op_eqD hr.units) (pv 2) (pe_lst pa_nil) (nomark _)) pa_nil)))) (pps_cons pe_str pe_int pps_nil))) (by rfl) (by rfl) (fun z => by cases z) (by decide)))))), ?_⟩
    exact opened_reads (c := 89) (by decide) (by decide) rfl h
/-! _law_draw -/
abbrev St_law_draw : Stmt := topS 30
abbrev N_law_draw : List Str := ["_law_box", "_law_many", "_law_great", "_law_digit", "_law_cell", "_law_mixed"]
theorem sc_law_draw : FnScope N_law_draw ["_law_box", "_law_many"] (defScope St_law_draw) := ⟨rfl, rfl, rfl, by decide +kernel, rfl, by decide +kernel, by decide +kernel⟩
abbrev m_law_draw := mDraw
theorem ok_law_draw {P : Program} {w : World} {K : PySem.W.Frag} {mg : Str → Option Value} {base : Heap} {cad : Cad} {fa : Addr} {fd : FuncData} (Fu : Fun K "_law_draw" "_law_draw" St_law_draw fa fd) (b_int : mg "int" = none) (b_len : mg "len" = none) : FnG P w K mg base 1 fa fd ["_law_box", "_law_many"] (spD cad 2 mDraw) :=
  FnG.of Fu sc_law_draw (fun vs H Q E h => h.1) fun cdv A outer s H vs Q E hr hg h => by
    refine ⟨_, pss_cons (ps_set (i := 2) sc_law_draw.nd rfl (by first | exact .inl rfl | exact .inr rfl) (pe_dget (un1 hr) (pv 0) pe_str (fun _ _ => rfl)))
      (pss_cons (ps_while (passes_of rfl) (pt_cmpR (op_neD hr.units) (pv 2) (pe_lst pa_nil) (nomark _))
        (pss_cons (ps_if (pt_cmpR op_gt (pe_ix ix_list (pv 2) (pe_un un_neg pe_int) (fun _ _ => rfl)) pe_int (nomark _))
            (pss_cons (ps_set (i := 3) sc_law_draw.nd rfl (by first | exact .inl rfl | exact .inr rfl) (pe_op op_modN (pe_callTy call_int1 (by rfl) b_int (by decide +kernel) (pa_cons (pe_ix ix_list (pv 2) (pe_un un_neg pe_int) (fun _ _ => rfl)) pa_nil)) (pv 1))) (pss_cons (ps_asg (pe_op op_fdivD (pe_callTy call_int1 (by rfl) b_int (by decide +kernel) (pa_cons (pe_ix ix_list (pv 2) (pe_un un_neg pe_int) (fun _ _ => rfl)) pa_nil)) (pv 1)) (pg_sub (pv 2) (pe_un un_neg pe_int) set_list)) (pss_one (ps_ret (pv 3))))) pss_nil)
          (pss_one (ps_expr (pe_bm0 PySem.F.plainAttrs_list PySem.F.slot_list_pop PySem.F.type_list_pop mt_pop (pv 2))))))
      (pss_cons (ps_dput (un1 hr) (pv 0) pe_str (pe_op op_add (pe_dget (un1 hr) (pv 0) pe_str (fun _ _ => rfl)) pe_int) rfl)
      (pss_cons (ps_set (i := 4) sc_law_draw.nd rfl (by first | exact .inl rfl | exact .inr rfl) (pe_ix ix_list (pe_dget (un1 hr) (pv 0) pe_str (fun _ _ => rfl)) (pe_op op_modN (pe_callTy call_int1 (by rfl) b_int (by decide +kernel) (pa_cons (pe_dget (un1 hr) (pv 0) pe_str (fun _ _ => rfl)) pa_nil)) (pe_callB call_len_seq (by rfl) b_len (by decide +kernel) (pa_cons (pe_dget (un1 hr) (pv 0) pe_str (fun _ _ => rfl)) pa_nil))) (fun _ _ => rfl)))
      (pss_cons (ps_set (i := 5) sc_law_draw.nd rfl (by first | exact .inl rfl | exact .inr rfl) (pe_op op_add (pe_op op_mul (pv 4) pe_int) (pe_op op_mul (pe_dget (un1 hr) (pv 0) pe_str (fun _ _ => rfl)) pe_int))) (pss_cons (ps_set (i := 5) sc_law_draw.nd rfl (by first | exact .inl rfl | exact .inr rfl) (pe_op op_modN (pe_callTy call_int1 (by rfl) b_int (by decide +kernel) (pa_cons (pv 5) pa_nil)) pe_int)) (pss_cons (ps_set (i := 5) sc_law_draw.nd rfl (by first | exact .inl rfl | exact .inr rfl) (pe_op op_modN (pe_callTy call_int1 (by rfl) b_int (by decide +kernel) (pa_cons (pe_op op_mul (pv 5) (pe_op op_add (pe_op op_fdivD (pv 5) pe_int) pe_int)) pa_nil)) pe_int)) (pss_one (ps_ret (pe_op op_modN (pe_callTy call_int1 (by rfl) b_int (by decide +kernel) (pa_cons (pe_op op_fdivD (pv 5) pe_int) pa_nil)) (pv 1)))))))))), ?_⟩
    exact drawn_reads true restA rfl h fun b gr m cell t H' hd m0 m1 q => restA_reads _ b gr m cell t H' hd m0 q
/-! _law_one -/
abbrev St_law_one : Stmt := topS 31
abbrev N_law_one : List Str := ["_law_box", "_law_items"]
theorem sc_law_one : FnScope N_law_one ["_law_box", "_law_items"] (defScope St_law_one) := ⟨rfl, rfl, rfl, by decide +kernel, rfl, by decide +kernel, by decide +kernel⟩
def F_law_one : Env' → T Fl := (sRet (eBin oIx (eV 1) (eCall 2 m_law_draw (aBox 0 (aCons (eCb oLen (aCons (eV 1) aNil)) aNil)))))
@[irreducible] def m_law_one : List Ar → T D := mkDef 2 F_law_one
theorem mq_law_one : m_law_one = mkDef 2 F_law_one := by
  unfold m_law_one
  rfl
theorem ok_law_one {P : Program} {w : World} {K : PySem.W.Frag} {mg : Str → Option Value} {base : Heap} {cad : Cad} {fa : Addr} {fd : FuncData} (Fu : Fun K "_law_one" "_law_one" St_law_one fa fd) (C_law_draw : Cal P w K mg base cad "_law_draw" 1 2 m_law_draw) (b_len : mg "len" = none) : FnG P w K mg base 2 fa fd ["_law_box", "_law_items"] (spD cad 2 m_law_one) :=
  by
  rw [mq_law_one]
  exact FnG.ofD (F := F_law_one) (N := N_law_one) Fu sc_law_one fun cdv A outer s H E hr hgu => (ss_one (s_ret (r_ix ix_seq d_ix (r_v 1 (pv 1)) (r_cal C_law_draw hr (by first | decide | omega) hgu (by rfl) (takes_of rfl rfl rfl rfl) (a_box (i := 0) (pv 0) (a_cons (r_b call_len_seq d_len (by rfl) b_len (by decide +kernel) (a_cons (r_v 1 (pv 1)) a_nil)) a_nil))) (fun _ _ => rfl))))
/-! _law_odd -/
abbrev St_law_odd : Stmt := topS 32
abbrev N_law_odd : List Str := ["_law_box", "_law_some"]
theorem sc_law_odd : FnScope N_law_odd ["_law_box"] (defScope St_law_odd) := ⟨rfl, rfl, rfl, by decide +kernel, rfl, by decide +kernel, by decide +kernel⟩
def F_law_odd : Env' → T Fl := (sSeq (sSet 1 (eLst (aCons (eC .none) (aCons (eC (.bool true)) (aCons (eC (.bool false)) (aCons (eUn oNeg (eC (.int 1))) (aCons (eC (.int 0)) (aCons (eC (.int 1)) (aCons (eC (.int 2)) (aCons (eC (.int 3)) (aCons (eC (.int 4)) (aCons (eC (.int 6)) (aCons (eC (.int 7)) (aCons (eC (.int 61)) (aCons (eC (.int 65520)) (aCons (eC (.int 65521)) (aCons (eBin oPow (eC (.int 10)) (eC (.int 39))) (aCons (eC (.str "")) (aCons (eC (.str "add")) (aCons (eC (.str "0")) (aCons (eTup aNil) (aCons (eTup (aCons (eC (.int 0)) aNil)) (aCons (eTup (aCons (eC (.int 0)) (aCons (eC (.int 1)) aNil))) aNil))))))))))))))))))))))) (sSeq (sSet 1 (eBin oAdd (eV 1) (eLst (aCons (eTup (aCons (eC (.int 1)) (aCons (eC (.int 0)) (aCons (eC (.int 0)) aNil)))) (aCons (eTup (aCons (eC (.str "neg")) (aCons (eTup (aCons (eC (.int 0)) (aCons (eTup (aCons (eC (.int 1)) (aCons (eC (.int 0)) aNil))) aNil))) aNil))) (aCons (eTup (aCons (eC (.int 0)) (aCons (eTup (aCons (eC (.int 1)) (aCons (eC (.int 0)) aNil))) aNil))) (aCons (eTup (aCons (eC (.int 2)) (aCons (eTup aNil) aNil))) (aCons (eLst aNil) (aCons (eLst (aCons (eC (.int 0)) aNil)) (aCons (eC (.dict [])) (aCons (eDct [("neg", (eC (.int 0)))]) (aCons (eTup (aCons (eTup aNil) aNil)) (aCons (eC (.str "neg 0@1,0")) aNil))))))))))))) (sRet (eCall 2 m_law_one (aBox 0 (aCons (eV 1) aNil))))))
@[irreducible] def m_law_odd : List Ar → T D := mkDef 2 F_law_odd
theorem mq_law_odd : m_law_odd = mkDef 2 F_law_odd := by
  unfold m_law_odd
  rfl
theorem ok_law_odd {P : Program} {w : World} {K : PySem.W.Frag} {mg : Str → Option Value} {base : Heap} {cad : Cad} {fa : Addr} {fd : FuncData} (Fu : Fun K "_law_odd" "_law_odd" St_law_odd fa fd) (C_law_one : Cal P w K mg base cad "_law_one" 2 2 m_law_one) : FnG P w K mg base 3 fa fd ["_law_box"] (spD cad 1 m_law_odd) :=
  by
  rw [mq_law_odd]
  exact FnG.ofD (F := F_law_odd) (N := N_law_odd) Fu sc_law_odd fun cdv A outer s H E hr hgu => (ss_cons (s_set (ps_set (i := 1) sc_law_odd.nd rfl (by first | exact .inl rfl | exact .inr rfl) (r_lst (a_cons r_non (a_cons r_bl (a_cons r_bl (a_cons (r_un un_neg d_neg r_int) (a_cons r_int (a_cons r_int (a_cons r_int (a_cons r_int (a_cons r_int (a_cons r_int (a_cons r_int (a_cons r_int (a_cons r_int (a_cons r_int (a_cons (r_op op_pow d_pow r_int r_int) (a_cons r_str (a_cons r_str (a_cons r_str (a_cons (r_tup a_nil) (a_cons (r_tup (a_cons r_int a_nil)) (a_cons (r_tup (a_cons r_int (a_cons r_int a_nil))) a_nil)))))))))))))))))))))))) (ss_cons (s_set (ps_set (i := 1) sc_law_odd.nd rfl (by first | exact .inl rfl | exact .inr rfl) (r_op op_addD d_add (r_v 1 (pv 1)) (r_lst (a_cons (r_tup (a_cons r_int (a_cons r_int (a_cons r_int a_nil)))) (a_cons (r_tup (a_cons r_str (a_cons (r_tup (a_cons r_int (a_cons (r_tup (a_cons r_int (a_cons r_int a_nil))) a_nil))) a_nil))) (a_cons (r_tup (a_cons r_int (a_cons (r_tup (a_cons r_int (a_cons r_int a_nil))) a_nil))) (a_cons (r_tup (a_cons r_int (a_cons (r_tup a_nil) a_nil))) (a_cons (r_lst a_nil) (a_cons (r_lst (a_cons r_int a_nil)) (a_cons r_dct0 (a_cons (r_dct (l := [("neg", (eC (.int 0)))]) (pps_cons pe_str r_int pps_nil) (by rfl) (by rfl) (fun z => by cases z) (by decide)) (a_cons (r_tup (a_cons (r_tup a_nil) a_nil)) (a_cons r_str a_nil)))))))))))))) (ss_one (s_ret (r_cal C_law_one hr (by first | decide | omega) hgu (by rfl) (takes_of rfl rfl rfl rfl) (a_box (i := 0) (pv 0) (a_cons (r_v 1 (pv 1)) a_nil)))))))
/-! _law_kinds -/
abbrev St_law_kinds : Stmt := topS 33
abbrev N_law_kinds : List Str := []
theorem sc_law_kinds : FnScope N_law_kinds [] (defScope St_law_kinds) := ⟨rfl, rfl, rfl, by decide +kernel, rfl, by decide +kernel, by decide +kernel⟩
def F_law_kinds : Env' → T Fl := (sRet (eDct [("copy", (eC (.int 1))), ("neg", (eC (.int 1))), ("add", (eC (.int 2))), ("sub", (eC (.int 2))), ("mul", (eC (.int 2))), ("least", (eC (.int 2))), ("most", (eC (.int 2))), ("madd", (eC (.int 3)))]))
@[irreducible] def m_law_kinds : List Ar → T D := mkDef 0 F_law_kinds
theorem mq_law_kinds : m_law_kinds = mkDef 0 F_law_kinds := by
  unfold m_law_kinds
  rfl
theorem ok_law_kinds {P : Program} {w : World} {K : PySem.W.Frag} {mg : Str → Option Value} {base : Heap} {cad : Cad} {fa : Addr} {fd : FuncData} (Fu : Fun K "_law_kinds" "_law_kinds" St_law_kinds fa fd)  : FnG P w K mg base 2 fa fd [] (spD cad 0 m_law_kinds) :=
  by
  rw [mq_law_kinds]
  exact FnG.ofD (F := F_law_kinds) (N := N_law_kinds) Fu sc_law_kinds fun cdv A outer s H E hr hgu => (ss_one (s_ret (r_dct (l := [("copy", (eC (.int 1))), ("neg", (eC (.int 1))), ("add", (eC (.int 2))), ("sub", (eC (.int 2))), ("mul", (eC (.int 2))), ("least", (eC (.int 2))), ("most", (eC (.int 2))), ("madd", (eC (.int 3)))]) (pps_cons pe_str r_int (pps_cons pe_str r_int (pps_cons pe_str r_int (pps_cons pe_str r_int (pps_cons pe_str r_int (pps_cons pe_str r_int (pps_cons pe_str r_int (pps_cons pe_str r_int pps_nil)))))))) (by rfl) (by rfl) (fun z => by cases z) (by decide))))
/-! _law_vector -/
abbrev St_law_vector : Stmt := topS 34
abbrev N_law_vector : List Str := ["_law_box", "_law_dims", "_law_most", "_law_k"]
theorem sc_law_vector : FnScope N_law_vector ["_law_box", "_law_dims", "_law_most"] (defScope St_law_vector) := ⟨rfl, rfl, rfl, by decide +kernel, rfl, by decide +kernel, by decide +kernel⟩
def F_law_vector : Env' → T Fl := (sRet (eCb (o1 oTupleOf) (aCons (eLc [3] (iArg oRng1 (aCons (eV 1) aNil)) (bName 3) tTrue (eBin oSub (eCall 2 m_law_draw (aBox 0 (aCons (eBin oAdd (eBin oMul (eC (.int 2)) (eV 2)) (eC (.int 1))) aNil))) (eV 2))) aNil)))
@[irreducible] def m_law_vector : List Ar → T D := mkDef 4 F_law_vector
theorem mq_law_vector : m_law_vector = mkDef 4 F_law_vector := by
  unfold m_law_vector
  rfl
theorem ok_law_vector {P : Program} {w : World} {K : PySem.W.Frag} {mg : Str → Option Value} {base : Heap} {cad : Cad} {fa : Addr} {fd : FuncData} (Fu : Fun K "_law_vector" "_law_vector" St_law_vector fa fd) (C_law_draw : Cal P w K mg base cad "_law_draw" 1 2 m_law_draw) (b_tuple : mg "tuple" = none) (b_range : mg "range" = none) : FnG P w K mg base 2 fa fd ["_law_box", "_law_dims", "_law_most"] (spD cad 3 m_law_vector) :=
  by
  rw [mq_law_vector]
  exact FnG.ofD (F := F_law_vector) (N := N_law_vector) Fu sc_law_vector fun cdv A outer s H E hr hgu => (ss_one (s_ret (r_bt call_tuple_S d_tuple (by rfl) b_tuple (by decide +kernel) (a_cons (r_lc (own := [("_law_k", 3)]) rfl sc_law_vector.nd (i_rng1 (by rfl) b_range (a_cons (r_v 1 (pv 1)) a_nil)) (blkOk_by (N := N_law_vector) (sc := defScope St_law_vector) (by decide +kernel)) (fun _ _ _ _ _ => (g_name (pg_name (i := 3) sc_law_vector.nd rfl (by first | exact .inl rfl | exact .inr rfl)))) (fun _ _ _ _ _ => pts_yes) (fun _ _ _ _ _ => (r_op op_sub d_sub (r_cal C_law_draw hr (by first | decide | omega) hgu (by rfl) takes0 (a_box (i := 0) (pv 0) (a_cons (r_op op_addD d_add (r_op op_mulD d_mul r_int (r_v 2 (pv 2))) r_int) a_nil))) (r_v 2 (pv 2)))) (by decide)) a_nil))))
/-! _law_rule -/
abbrev St_law_rule : Stmt := topS 35
abbrev N_law_rule : List Str := ["_law_box", "_law_dims", "_law_many", "_law_kind", "_law_k"]
theorem sc_law_rule : FnScope N_law_rule ["_law_box", "_law_dims", "_law_many"] (defScope St_law_rule) := ⟨rfl, rfl, rfl, by decide +kernel, rfl, by decide +kernel, by decide +kernel⟩
def F_law_rule : Env' → T Fl := (sSeq (sSet 3 (eCall 2 m_law_one (aBox 0 (aCons (eLst (aCons (eC (.str "copy")) (aCons (eC (.str "neg")) (aCons (eC (.str "add")) (aCons (eC (.str "sub")) (aCons (eC (.str "mul")) (aCons (eC (.str "least")) (aCons (eC (.str "most")) (aCons (eC (.str "madd")) aNil))))))))) aNil)))) (sRet (eBin oAdd (eTup (aCons (eV 3) aNil)) (eCb (o1 oTupleOf) (aCons (eLc [4] (iArg oRng1 (aCons (eBin oDGet (eCall 0 m_law_kinds aNil) (eV 3)) aNil)) (bName 4) tTrue (eTup (aCons (eCall 2 m_law_draw (aBox 0 (aCons (eV 2) aNil))) (aCons (eCall 3 m_law_vector (aBox 0 (aCons (eV 1) (aCons (eC (.int 4)) aNil)))) aNil)))) aNil)))))
@[irreducible] def m_law_rule : List Ar → T D := mkDef 5 F_law_rule
theorem mq_law_rule : m_law_rule = mkDef 5 F_law_rule := by
  unfold m_law_rule
  rfl
theorem ok_law_rule {P : Program} {w : World} {K : PySem.W.Frag} {mg : Str → Option Value} {base : Heap} {cad : Cad} {fa : Addr} {fd : FuncData} (Fu : Fun K "_law_rule" "_law_rule" St_law_rule fa fd) (C_law_one : Cal P w K mg base cad "_law_one" 2 2 m_law_one) (C_law_kinds : Cal P w K mg base cad "_law_kinds" 2 0 m_law_kinds) (C_law_vector : Cal P w K mg base cad "_law_vector" 2 3 m_law_vector) (C_law_draw : Cal P w K mg base cad "_law_draw" 1 2 m_law_draw) (b_tuple : mg "tuple" = none) (b_range : mg "range" = none) : FnG P w K mg base 3 fa fd ["_law_box", "_law_dims", "_law_many"] (spD cad 3 m_law_rule) :=
  by
  rw [mq_law_rule]
  exact FnG.ofD (F := F_law_rule) (N := N_law_rule) Fu sc_law_rule fun cdv A outer s H E hr hgu => (ss_cons (s_set (ps_set (i := 3) sc_law_rule.nd rfl (by first | exact .inl rfl | exact .inr rfl) (r_cal C_law_one hr (by first | decide | omega) hgu (by rfl) (takes_of rfl rfl rfl rfl) (a_box (i := 0) (pv 0) (a_cons (r_lst (a_cons r_str (a_cons r_str (a_cons r_str (a_cons r_str (a_cons r_str (a_cons r_str (a_cons r_str (a_cons r_str a_nil))))))))) a_nil))))) (ss_one (s_ret (r_op op_addD d_add (r_tup (a_cons (r_v 3 (pv 3)) a_nil)) (r_bt call_tuple_S d_tuple (by rfl) b_tuple (by decide +kernel) (a_cons (r_lc (own := [("_law_k", 4)]) rfl sc_law_rule.nd (i_rng1 (by rfl) b_range (a_cons (r_dget (un1 hr) (r_cal0 C_law_kinds hr (by first | decide | omega) hgu (by rfl) (takes_of rfl rfl rfl rfl)) (r_v 3 (pv 3)) (fun _ _ => rfl)) a_nil)) (blkOk_by (N := N_law_rule) (sc := defScope St_law_rule) (by decide +kernel)) (fun _ _ _ _ _ => (g_name (pg_name (i := 4) sc_law_rule.nd rfl (by first | exact .inl rfl | exact .inr rfl)))) (fun _ _ _ _ _ => pts_yes) (fun _ _ _ _ _ => (r_tup (a_cons (r_cal C_law_draw hr (by first | decide | omega) hgu (by rfl) takes0 (a_box (i := 0) (pv 0) (a_cons (r_v 2 (pv 2)) a_nil))) (a_cons (r_cal C_law_vector hr (by first | decide | omega) hgu (by rfl) takes0 (a_box (i := 0) (pv 0) (a_cons (r_v 1 (pv 1)) (a_cons r_int a_nil)))) a_nil)))) (by decide)) a_nil))))))
/-! _law_flow -/
abbrev St_law_flow : Stmt := topS 36
abbrev N_law_flow : List Str := ["_law_box", "_law_dims", "_law_many", "_law_k"]
theorem sc_law_flow : FnScope N_law_flow ["_law_box"] (defScope St_law_flow) := ⟨rfl, rfl, rfl, by decide +kernel, rfl, by decide +kernel, by decide +kernel⟩
def F_law_flow : Env' → T Fl := (sSeq (sUnp (bTup [1, 2]) (eTup (aCons (eBin oAdd (eC (.int 2)) (eCall 2 m_law_draw (aBox 0 (aCons (eC (.int 2)) aNil)))) (aCons (eBin oAdd (eC (.int 1)) (eCall 2 m_law_draw (aBox 0 (aCons (eC (.int 6)) aNil)))) aNil)))) (sRet (eTup (aCons (eV 1) (aCons (eCb (o1 oTupleOf) (aCons (eLc [3] (iArg oRng1 (aCons (eV 2) aNil)) (bName 3) tTrue (eCall 3 m_law_rule (aBox 0 (aCons (eV 1) (aCons (eV 2) aNil))))) aNil)) aNil)))))
@[irreducible] def m_law_flow : List Ar → T D := mkDef 4 F_law_flow
theorem mq_law_flow : m_law_flow = mkDef 4 F_law_flow := by
  unfold m_law_flow
  rfl
theorem ok_law_flow {P : Program} {w : World} {K : PySem.W.Frag} {mg : Str → Option Value} {base : Heap} {cad : Cad} {fa : Addr} {fd : FuncData} (Fu : Fun K "_law_flow" "_law_flow" St_law_flow fa fd) (C_law_draw : Cal P w K mg base cad "_law_draw" 1 2 m_law_draw) (C_law_rule : Cal P w K mg base cad "_law_rule" 3 3 m_law_rule) (b_tuple : mg "tuple" = none) (b_range : mg "range" = none) : FnG P w K mg base 4 fa fd ["_law_box"] (spD cad 1 m_law_flow) :=
  by
  rw [mq_law_flow]
  exact FnG.ofD (F := F_law_flow) (N := N_law_flow) Fu sc_law_flow fun cdv A outer s H E hr hgu => (ss_cons (s_unp (is := [1, 2]) rfl (ps_asg (r_tup (a_cons (r_op op_addD d_add r_int (r_cal C_law_draw hr (by first | decide | omega) hgu (by rfl) (takes_of rfl rfl rfl rfl) (a_box (i := 0) (pv 0) (a_cons r_int a_nil)))) (a_cons (r_op op_addD d_add r_int (r_cal C_law_draw hr (by first | decide | omega) hgu (by rfl) (takes_of rfl rfl rfl rfl) (a_box (i := 0) (pv 0) (a_cons r_int a_nil)))) a_nil))) (pg_tup rfl (pgs_cons (pg_name (i := 1) sc_law_flow.nd rfl (by first | exact .inl rfl | exact .inr rfl)) (pgs_cons (pg_name (i := 2) sc_law_flow.nd rfl (by first | exact .inl rfl | exact .inr rfl)) pgs_nil))))) (ss_one (s_ret (r_tup (a_cons (r_v 1 (pv 1)) (a_cons (r_bt call_tuple_S d_tuple (by rfl) b_tuple (by decide +kernel) (a_cons (r_lc (own := [("_law_k", 3)]) rfl sc_law_flow.nd (i_rng1 (by rfl) b_range (a_cons (r_v 2 (pv 2)) a_nil)) (blkOk_by (N := N_law_flow) (sc := defScope St_law_flow) (by decide +kernel)) (fun _ _ _ _ _ => (g_name (pg_name (i := 3) sc_law_flow.nd rfl (by first | exact .inl rfl | exact .inr rfl)))) (fun _ _ _ _ _ => pts_yes) (fun _ _ _ _ _ => (r_cal C_law_rule hr (by first | decide | omega) hgu (by rfl) takes0 (a_box (i := 0) (pv 0) (a_cons (r_v 1 (pv 1)) (a_cons (r_v 2 (pv 2)) a_nil))))) (by decide)) a_nil)) a_nil))))))
/-! _law_vector_text -/
abbrev St_law_vector_text : Stmt := topS 37
abbrev N_law_vector_text : List Str := ["_law_vector_here", "_law_item"]
theorem sc_law_vector_text : FnScope N_law_vector_text ["_law_vector_here"] (defScope St_law_vector_text) := ⟨rfl, rfl, rfl, by decide +kernel, rfl, by decide +kernel, by decide +kernel⟩
def F_law_vector_text : Env' → T Fl := (sRet (eSM oJoinS (eC (.str ",")) (eLc [1] (iSeq (eV 0)) (bName 1) tTrue (eCb (o1 oStrI) (aCons (eV 1) aNil)))))
@[irreducible] def m_law_vector_text : List Ar → T D := mkDef 2 F_law_vector_text
theorem mq_law_vector_text : m_law_vector_text = mkDef 2 F_law_vector_text := by
  unfold m_law_vector_text
  rfl
theorem ok_law_vector_text {P : Program} {w : World} {K : PySem.W.Frag} {mg : Str → Option Value} {base : Heap} {cad : Cad} {fa : Addr} {fd : FuncData} (Fu : Fun K "_law_vector_text" "_law_vector_text" St_law_vector_text fa fd) (b_str : mg "str" = none) : FnG P w K mg base 2 fa fd ["_law_vector_here"] (spD cad 1 m_law_vector_text) :=
  by
  rw [mq_law_vector_text]
  exact FnG.ofD (F := F_law_vector_text) (N := N_law_vector_text) Fu sc_law_vector_text fun cdv A outer s H E hr hgu => (ss_one (s_ret (r_sm PySem.F.slot_str_join PySem.F.type_str_join mt_join m_join r_str (r_lc (own := [("_law_item", 1)]) rfl sc_law_vector_text.nd (i_seq (r_v 0 (pv 0))) (blkOk_by (N := N_law_vector_text) (sc := defScope St_law_vector_text) (by decide +kernel)) (fun _ _ _ _ _ => (g_name (pg_name (i := 1) sc_law_vector_text.nd rfl (by first | exact .inl rfl | exact .inr rfl)))) (fun _ _ _ _ _ => pts_yes) (fun _ _ _ _ _ => (r_bt call_str_int d_strI (by rfl) b_str (by decide +kernel) (a_cons (r_v 1 (pv 1)) a_nil))) (by decide)))))
/-! _law_rule_text -/
abbrev St_law_rule_text : Stmt := topS 38
abbrev N_law_rule_text : List Str := ["_law_rule_here", "_law_read"]
theorem sc_law_rule_text : FnScope N_law_rule_text ["_law_rule_here"] (defScope St_law_rule_text) := ⟨rfl, rfl, rfl, by decide +kernel, rfl, by decide +kernel, by decide +kernel⟩
def F_law_rule_text : Env' → T Fl := (sRet (eSM oJoinS (eC (.str " ")) (eBin oAdd (eLst (aCons (eBin oIx (eV 0) (eC (.int 0))) aNil)) (eLc [1] (iSeq (eSl (eV 0) (pSome (eC (.int 1))) pNone)) (bName 1) tTrue (eBin oAdd (eBin oAdd (eCb (o1 oStrI) (aCons (eBin oIx (eV 1) (eC (.int 0))) aNil)) (eC (.str "@"))) (eCall 1 m_law_vector_text (aCons (eBin oIx (eV 1) (eC (.int 1))) aNil)))))))
@[irreducible] def m_law_rule_text : List Ar → T D := mkDef 2 F_law_rule_text
theorem mq_law_rule_text : m_law_rule_text = mkDef 2 F_law_rule_text := by
  unfold m_law_rule_text
  rfl
theorem ok_law_rule_text {P : Program} {w : World} {K : PySem.W.Frag} {mg : Str → Option Value} {base : Heap} {cad : Cad} {fa : Addr} {fd : FuncData} (Fu : Fun K "_law_rule_text" "_law_rule_text" St_law_rule_text fa fd) (C_law_vector_text : Cal P w K mg base cad "_law_vector_text" 2 1 m_law_vector_text) (b_str : mg "str" = none) : FnG P w K mg base 3 fa fd ["_law_rule_here"] (spD cad 1 m_law_rule_text) :=
  by
  rw [mq_law_rule_text]
  exact FnG.ofD (F := F_law_rule_text) (N := N_law_rule_text) Fu sc_law_rule_text fun cdv A outer s H E hr hgu => (ss_one (s_ret (r_sm PySem.F.slot_str_join PySem.F.type_str_join mt_join m_join r_str (r_op op_addD d_add (r_lst (a_cons (r_ix ix_seq d_ix (r_v 0 (pv 0)) r_int (fun _ _ => rfl)) a_nil)) (r_lc (own := [("_law_read", 1)]) rfl sc_law_rule_text.nd (i_seq (r_sl (r_v 0 (pv 0)) (p_some r_int) p_none)) (blkOk_by (N := N_law_rule_text) (sc := defScope St_law_rule_text) (by decide +kernel)) (fun _ _ _ _ _ => (g_name (pg_name (i := 1) sc_law_rule_text.nd rfl (by first | exact .inl rfl | exact .inr rfl)))) (fun _ _ _ _ _ => pts_yes) (fun _ _ _ _ _ => (r_op op_addD d_add (r_op op_addD d_add (r_bt call_str_int d_strI (by rfl) b_str (by decide +kernel) (a_cons (r_ix ix_seq d_ix (r_v 1 (pv 1)) r_int (fun _ _ => rfl)) a_nil)) r_str) (r_cal C_law_vector_text hr (by first | decide | omega) hgu (by rfl) takes0 (a_cons (r_ix ix_seq d_ix (r_v 1 (pv 1)) r_int (fun _ _ => rfl)) a_nil)))) (by decide))))))
/-! _law_flow_text -/
abbrev St_law_flow_text : Stmt := topS 39
abbrev N_law_flow_text : List Str := ["_law_flow_here", "_law_rule_here"]
theorem sc_law_flow_text : FnScope N_law_flow_text ["_law_flow_here"] (defScope St_law_flow_text) := ⟨rfl, rfl, rfl, by decide +kernel, rfl, by decide +kernel, by decide +kernel⟩
def F_law_flow_text : Env' → T Fl := (sRet (eSM oJoinS (eC (.str " ")) (eBin oAdd (eLst (aCons (eCb (o1 oStrI) (aCons (eBin oIx (eV 0) (eC (.int 0))) aNil)) aNil)) (eLc [1] (iSeq (eBin oIx (eV 0) (eC (.int 1)))) (bName 1) tTrue (eBin oAdd (eC (.str "/ ")) (eCall 1 m_law_rule_text (aCons (eV 1) aNil)))))))
@[irreducible] def m_law_flow_text : List Ar → T D := mkDef 2 F_law_flow_text
theorem mq_law_flow_text : m_law_flow_text = mkDef 2 F_law_flow_text := by
  unfold m_law_flow_text
  rfl
theorem ok_law_flow_text {P : Program} {w : World} {K : PySem.W.Frag} {mg : Str → Option Value} {base : Heap} {cad : Cad} {fa : Addr} {fd : FuncData} (Fu : Fun K "_law_flow_text" "_law_flow_text" St_law_flow_text fa fd) (C_law_rule_text : Cal P w K mg base cad "_law_rule_text" 3 1 m_law_rule_text) (b_str : mg "str" = none) : FnG P w K mg base 4 fa fd ["_law_flow_here"] (spD cad 1 m_law_flow_text) :=
  by
  rw [mq_law_flow_text]
  exact FnG.ofD (F := F_law_flow_text) (N := N_law_flow_text) Fu sc_law_flow_text fun cdv A outer s H E hr hgu => (ss_one (s_ret (r_sm PySem.F.slot_str_join PySem.F.type_str_join mt_join m_join r_str (r_op op_addD d_add (r_lst (a_cons (r_bt call_str_int d_strI (by rfl) b_str (by decide +kernel) (a_cons (r_ix ix_seq d_ix (r_v 0 (pv 0)) r_int (fun _ _ => rfl)) a_nil)) a_nil)) (r_lc (own := [("_law_rule_here", 1)]) rfl sc_law_flow_text.nd (i_seq (r_ix ix_seq d_ix (r_v 0 (pv 0)) r_int (fun _ _ => rfl))) (blkOk_by (N := N_law_flow_text) (sc := defScope St_law_flow_text) (by decide +kernel)) (fun _ _ _ _ _ => (g_name (pg_name (i := 1) sc_law_flow_text.nd rfl (by first | exact .inl rfl | exact .inr rfl)))) (fun _ _ _ _ _ => pts_yes) (fun _ _ _ _ _ => (r_op op_addD d_add r_str (r_cal C_law_rule_text hr (by first | decide | omega) hgu (by rfl) takes0 (a_cons (r_v 1 (pv 1)) a_nil)))) (by decide))))))
/-! _law_number -/
abbrev St_law_number : Stmt := topS 40
abbrev N_law_number : List Str := ["_law_text", "_law_digits", "_law_sign"]
theorem sc_law_number : FnScope N_law_number ["_law_text"] (defScope St_law_number) := ⟨rfl, rfl, rfl, by decide +kernel, rfl, by decide +kernel, by decide +kernel⟩
def F_law_number : Env' → T Fl := (sSeq (sSet 1 (eIf (eBin oEq (eSlX (eV 0) pNone (pSome (eC (.int 1)))) (eC (.str "-"))) (eSlX (eV 0) (pSome (eC (.int 1))) pNone) (eV 0))) (sSeq (sIf (eOr (eBin oEq (eV 1) (eC (.str ""))) (eOr (eBin oGt (eCb (o1 oLenT) (aCons (eV 1) aNil)) (eC (.int 12))) (eBin oNeN (eLc [2] (iStrE (eV 1)) (bName 2) (eBin oNotInSign (eV 2) (eC (.str "0123456789"))) (eV 2)) (eLst aNil)))) (sRet (eC .none)) sNil) (sRet (eIf (eAnd (eBin oEq (eBin oIxX (eV 1) (eC (.int 0))) (eC (.str "0"))) (eBin oNe (eV 0) (eC (.str "0")))) (eC .none) (eCb (o1 oIntT) (aCons (eV 0) aNil))))))
@[irreducible] def m_law_number : List Ar → T D := mkDef 3 F_law_number
theorem mq_law_number : m_law_number = mkDef 3 F_law_number := by
  unfold m_law_number
  rfl
theorem ok_law_number {P : Program} {w : World} {K : PySem.W.Frag} {mg : Str → Option Value} {base : Heap} {cad : Cad} {fa : Addr} {fd : FuncData} (Fu : Fun K "_law_number" "_law_number" St_law_number fa fd) (b_len : mg "len" = none) (b_int : mg "int" = none) : FnG P w K mg base 2 fa fd ["_law_text"] (spD cad 1 m_law_number) :=
  by
  rw [mq_law_number]
  exact FnG.ofD (F := F_law_number) (N := N_law_number) Fu sc_law_number fun cdv A outer s H E hr hgu => (ss_cons (s_set (ps_set (i := 1) sc_law_number.nd rfl (by first | exact .inl rfl | exact .inr rfl) (r_if (q_cmp (op_eqW hr.units) d_eq (r_slX (r_v 0 (pv 0)) p_none (p_some r_int)) r_str (nomark _)) (r_slX (r_v 0 (pv 0)) (p_some r_int) p_none) (r_v 0 (pv 0))))) (ss_cons (s_if (q_or (q_cmp (op_eqW hr.units) d_eq (r_v 1 (pv 1)) r_str (nomark _)) (q_or (q_cmp op_gt d_cmp (r_b call_len_str d_lenT (by rfl) b_len (by decide +kernel) (a_cons (r_v 1 (pv 1)) a_nil)) r_int (nomark _)) (q_or1 (q_cmp (op_neN hr.units) d_neN (r_lc (own := [("_law_sign", 2)]) rfl sc_law_number.nd (i_str (r_v 1 (pv 1))) (blkOk_by (N := N_law_number) (sc := defScope St_law_number) (by decide +kernel)) (fun _ _ _ _ _ => (g_name (pg_name (i := 2) sc_law_number.nd rfl (by first | exact .inl rfl | exact .inr rfl)))) (fun _ _ _ _ _ => (pts_if (q_cmp op_notIn_sign d_notInSign (r_v 2 (pv 2)) r_str rfl))) (fun _ _ _ _ _ => (r_v 2 (pv 2))) (by decide)) (r_lst a_nil) (nomark _))))).pt (ss_one (s_ret r_non)) ss_nil) (ss_one (s_ret (r_if (q_and (q_cmp (op_eqW hr.units) d_eq (r_ix ix_str d_ixX (r_v 1 (pv 1)) r_int (fun _ _ => rfl)) r_str (nomark _)) (q_and1 (q_cmp (op_neW hr.units) d_ne (r_v 0 (pv 0)) r_str (nomark _)))).pt r_non (r_bt call_int_str d_intT (by rfl) b_int (by decide +kernel) (a_cons (r_v 0 (pv 0)) a_nil)))))))
/-! _law_read_of -/
abbrev St_law_read_of : Stmt := topS 41
abbrev N_law_read_of : List Str := ["_law_dims", "_law_word", "_law_halves", "_law_plane", "_law_items", "_law_part"]
theorem sc_law_read_of : FnScope N_law_read_of ["_law_dims", "_law_word"] (defScope St_law_read_of) := ⟨rfl, rfl, rfl, by decide +kernel, rfl, by decide +kernel, by decide +kernel⟩
def F_law_read_of : Env' → T Fl := (sSeq (sSet 2 (eSM oSplitS (eV 1) (eC (.str "@")))) (sSeq (sIf (eBin oNe (eCb oLen (aCons (eV 2) aNil)) (eC (.int 2))) (sRet (eC .none)) sNil) (sSeq (sPar 3 4 (aCons (eCall 1 m_law_number (aCons (eBin oIx (eV 2) (eC (.int 0))) aNil)) (aCons (eLc [5] (iSeq (eSM oSplitS (eBin oIx (eV 2) (eC (.int 1))) (eC (.str ",")))) (bName 5) tTrue (eCall 1 m_law_number (aCons (eV 5) aNil))) aNil))) (sSeq (sIf (eOr (eBin oIsN (eV 3) (eC .none)) (eOr (eBin oLt (eV 3) (eC (.int 0))) (eOr (eBin oInT (eC .none) (eV 4)) (eBin oNe (eCb oLen (aCons (eV 4) aNil)) (eV 0))))) (sRet (eC .none)) sNil) (sRet (eTup (aCons (eV 3) (aCons (eCb (o1 oTupleOf) (aCons (eV 4) aNil)) aNil))))))))
@[irreducible] def m_law_read_of : List Ar → T D := mkDef 6 F_law_read_of
theorem mq_law_read_of : m_law_read_of = mkDef 6 F_law_read_of := by
  unfold m_law_read_of
  rfl
theorem ok_law_read_of {P : Program} {w : World} {K : PySem.W.Frag} {mg : Str → Option Value} {base : Heap} {cad : Cad} {fa : Addr} {fd : FuncData} (Fu : Fun K "_law_read_of" "_law_read_of" St_law_read_of fa fd) (C_law_number : Cal P w K mg base cad "_law_number" 2 1 m_law_number) (b_len : mg "len" = none) (b_tuple : mg "tuple" = none) : FnG P w K mg base 3 fa fd ["_law_dims", "_law_word"] (spD cad 2 m_law_read_of) :=
  by
  rw [mq_law_read_of]
  exact FnG.ofD (F := F_law_read_of) (N := N_law_read_of) Fu sc_law_read_of fun cdv A outer s H E hr hgu => (ss_cons (s_set (ps_set (i := 2) sc_law_read_of.nd rfl (by first | exact .inl rfl | exact .inr rfl) (r_sm PySem.F.slot_str_split PySem.F.type_str_split mt_split m_split (r_v 1 (pv 1)) r_str))) (ss_cons (s_if (q_cmp (op_neW hr.units) d_ne (r_b call_len_seq d_len (by rfl) b_len (by decide +kernel) (a_cons (r_v 2 (pv 2)) a_nil)) r_int (nomark _)) (ss_one (s_ret r_non)) ss_nil) (ss_cons (s_par (ps_par (i := 3) (j := 4) rfl sc_law_read_of.nd rfl rfl (by decide) rfl rfl (a_cons (r_cal C_law_number hr (by first | decide | omega) hgu (by rfl) (takes_of rfl rfl rfl rfl) (a_cons (r_ix ix_seq d_ix (r_v 2 (pv 2)) r_int (fun _ _ => rfl)) a_nil)) (a_cons (r_lc (own := [("_law_part", 5)]) rfl sc_law_read_of.nd (i_seq (r_sm PySem.F.slot_str_split PySem.F.type_str_split mt_split m_split (r_ix ix_seq d_ix (r_v 2 (pv 2)) r_int (fun _ _ => rfl)) r_str)) (blkOk_by (N := N_law_read_of) (sc := defScope St_law_read_of) (by decide +kernel)) (fun _ _ _ _ _ => (g_name (pg_name (i := 5) sc_law_read_of.nd rfl (by first | exact .inl rfl | exact .inr rfl)))) (fun _ _ _ _ _ => pts_yes) (fun _ _ _ _ _ => (r_cal C_law_number hr (by first | decide | omega) hgu (by rfl) takes0 (a_cons (r_v 5 (pv 5)) a_nil))) (by decide)) a_nil)) (by rfl))) (ss_cons (s_if (q_or (q_cmp op_isN d_isN (r_v 3 (pv 3)) r_non (nomark _)) (q_or (q_cmp op_lt d_cmp (r_v 3 (pv 3)) r_int (nomark _)) (q_or (q_cmp (op_inLT (un65 hr)) d_inT r_non (r_v 4 (pv 4)) rfl) (q_or1 (q_cmp (op_neW hr.units) d_ne (r_b call_len_seq d_len (by rfl) b_len (by decide +kernel) (a_cons (r_v 4 (pv 4)) a_nil)) (r_v 0 (pv 0)) (nomark _)))))).pt (ss_one (s_ret r_non)) ss_nil) (ss_one (s_ret (r_tup (a_cons (r_v 3 (pv 3)) (a_cons (r_bt call_tuple_S d_tuple (by rfl) b_tuple (by decide +kernel) (a_cons (r_v 4 (pv 4)) a_nil)) a_nil)))))))))
/-! _law_due -/
abbrev St_law_due : Stmt := topS 42
abbrev N_law_due : List Str := ["_law_value", "_law_words", "_law_kinds_here", "_law_dims", "_law_rules", "_law_at", "_law_rule_here", "_law_many", "_law_k", "_law_read", "_law_flow_here"]
theorem sc_law_due : FnScope N_law_due ["_law_value"] (defScope St_law_due) := ⟨rfl, rfl, rfl, by decide +kernel, rfl, by decide +kernel, by decide +kernel⟩
def B0_law_due : Env' → T Fl := (sSeq (sSet 9 (eIf (eBin oLt (eV 8) (eCb oLen (aCons (eV 1) aNil))) (eCall 2 m_law_read_of (aCons (eV 3) (aCons (eBin oIx (eV 1) (eV 8)) aNil))) (eC .none))) (sSeq (sIf (eBin oIsN (eV 9) (eC .none)) (sRet (eLst (aCons (eC (.str "text")) (aCons (eV 8) aNil)))) sNil) (sApp 6 (eV 9))))
def F_law_due : Env' → T Fl := (sSeq (sIf (eUn oNot (eUn (oIsI "str") (eV 0))) (sRet (eLst (aCons (eC (.str "text")) (aCons (eC .none) aNil)))) sNil) (sSeq (sPar 1 2 (aCons (eSM oSplitS (eV 0) (eC (.str " "))) (aCons (eCall 0 m_law_kinds aNil) aNil))) (sSeq (sIf (eAnd (eBin oNe (eBin oIx (eV 1) (eC (.int 0))) (eC (.str "2"))) (eBin oNe (eBin oIx (eV 1) (eC (.int 0))) (eC (.str "3")))) (sRet (eLst (aCons (eC (.str "text")) (aCons (eC (.int 0)) aNil)))) sNil) (sSeq (sPar3M 3 4 5 (eCb (o1 oIntT) (aCons (eBin oIx (eV 1) (eC (.int 0))) aNil)) (lLst aNil) (eC (.int 1))) (sSeq (sWhile 1000000000 (eOr (eBin oLt (eV 5) (eCb oLen (aCons (eV 1) aNil))) (eOEq 4)) (sSeq (sIf (eOr (eBin oGe (eV 5) (eCb oLen (aCons (eV 1) aNil))) (eBin oNe (eBin oIx (eV 1) (eV 5)) (eC (.str "/")))) (sRet (eLst (aCons (eC (.str "text")) (aCons (eV 5) aNil)))) sNil) (sSeq (sIf (eOr (eBin oGe (eBin oAdd (eV 5) (eC (.int 1))) (eCb oLen (aCons (eV 1) aNil))) (eBin oDNotIn (eBin oIx (eV 1) (eBin oAdd (eV 5) (eC (.int 1)))) (eV 2))) (sRet (eLst (aCons (eC (.str "text")) (aCons (eBin oAdd (eV 5) (eC (.int 1))) aNil)))) sNil) (sSeq (sParOL 6 7 (lLst (aCons (eBin oIx (eV 1) (eBin oAdd (eV 5) (eC (.int 1)))) aNil)) (eBin oDGet (eV 2) (eBin oIx (eV 1) (eBin oAdd (eV 5) (eC (.int 1)))))) (sSeq (sFor (iArg oRng2 (aCons (eBin oAdd (eV 5) (eC (.int 2))) (aCons (eBin oAdd (eBin oAdd (eV 5) (eC (.int 2))) (eV 7)) aNil))) (bName 8) B0_law_due) (sFrz 6 (sSeq (sApp 4 (eCb (o1 oTupleOf) (aCons (eV 6) aNil))) (sSet 5 (eBin oAdd (eBin oAdd (eV 5) (eC (.int 2))) (eV 7)))))))))) (sFrz 4 (sSeq (sSet 10 (eTup (aCons (eV 3) (aCons (eCb (o1 oTupleOf) (aCons (eV 4) aNil)) aNil)))) (sRet (eIf (eBin oIsN (eCall 1 m_flow_error (aCons (eV 10) aNil)) (eC .none)) (eV 10) (eLst (aCons (eC (.str "flow")) (aCons (eCall 1 m_flow_error (aCons (eV 10) aNil)) aNil))))))))))))
@[irreducible] def m_law_due : List Ar → T D := mkDef 11 F_law_due
theorem mq_law_due : m_law_due = mkDef 11 F_law_due := by
  unfold m_law_due
  rfl
theorem ok_law_due {P : Program} {w : World} {K : PySem.W.Frag} {mg : Str → Option Value} {base : Heap} {cad : Cad} {fa : Addr} {fd : FuncData} (Fu : Fun K "_law_due" "_law_due" St_law_due fa fd) (C_law_kinds : Cal P w K mg base cad "_law_kinds" 2 0 m_law_kinds) (C_law_read_of : Cal P w K mg base cad "_law_read_of" 3 2 m_law_read_of) (C_flow_error : Cal P w K mg base cad "flow_error" 6 1 m_flow_error) (b_isinstance : mg "isinstance" = none) (b_str : mg "str" = none) (b_int : mg "int" = none) (b_len : mg "len" = none) (b_range : mg "range" = none) (b_tuple : mg "tuple" = none) : FnG P w K mg base 7 fa fd ["_law_value"] (spD cad 1 m_law_due) :=
  by
  rw [mq_law_due]
  exact FnG.ofD (F := F_law_due) (N := N_law_due) Fu sc_law_due fun cdv A outer s H E hr hgu => (ss_cons (s_if (q_not (q_val (r_isa (by rfl) b_isinstance (pe_bltn (by rfl) b_str (by decide +kernel) rfl) (r_v 0 (pv 0)) kit_str))) (ss_one (s_ret (r_lst (a_cons r_str (a_cons r_non a_nil))))) ss_nil) (ss_cons (s_par (ps_par (i := 1) (j := 2) rfl sc_law_due.nd rfl rfl (by decide) rfl rfl (a_cons (r_sm PySem.F.slot_str_split PySem.F.type_str_split mt_split m_split (r_v 0 (pv 0)) r_str) (a_cons (r_cal0 C_law_kinds hr (by first | decide | omega) hgu (by rfl) (takes_of rfl rfl rfl rfl)) a_nil)) (by rfl))) (ss_cons (s_if (q_and (q_cmp (op_neW hr.units) d_ne (r_ix ix_seq d_ix (r_v 1 (pv 1)) r_int (fun _ _ => rfl)) r_str (nomark _)) (q_and1 (q_cmp (op_neW hr.units) d_ne (r_ix ix_seq d_ix (r_v 1 (pv 1)) r_int (fun _ _ => rfl)) r_str (nomark _)))).pt (ss_one (s_ret (r_lst (a_cons r_str (a_cons r_int a_nil))))) ss_nil) (ss_cons (s_par3M (ps_par3 (i := 3) (j := 4) (l := 5) rfl sc_law_due.nd rfl rfl rfl (by decide) (by decide) (by decide) rfl rfl rfl (pa_cons (r_bt call_int_str d_intT (by rfl) b_int (by decide +kernel) (a_cons (r_ix ix_seq d_ix (r_v 1 (pv 1)) r_int (fun _ _ => rfl)) a_nil)) (pa_cons (pe_lst a_nil) (pa_cons r_int pa_nil))) (by rfl))) (ss_cons (s_while (n := 1000000000) (ps_while (passes_of rfl) (q_or (q_cmp op_lt d_cmp (r_v 5 (pv 5)) (r_b call_len_seq d_len (by rfl) b_len (by decide +kernel) (a_cons (r_v 1 (pv 1)) a_nil)) (nomark _)) (q_or1 (q_oeq hr.units (pv 4) (nomark _)))).pt (ss_cons (s_if (q_or (q_cmp op_ge d_cmp (r_v 5 (pv 5)) (r_b call_len_seq d_len (by rfl) b_len (by decide +kernel) (a_cons (r_v 1 (pv 1)) a_nil)) (nomark _)) (q_or1 (q_cmp (op_neW hr.units) d_ne (r_ix ix_seq d_ix (r_v 1 (pv 1)) (r_v 5 (pv 5)) (fun _ _ => rfl)) r_str (nomark _)))).pt (ss_one (s_ret (r_lst (a_cons r_str (a_cons (r_v 5 (pv 5)) a_nil))))) ss_nil) (ss_cons (s_if (q_or (q_cmp op_ge d_cmp (r_op op_addD d_add (r_v 5 (pv 5)) r_int) (r_b call_len_seq d_len (by rfl) b_len (by decide +kernel) (a_cons (r_v 1 (pv 1)) a_nil)) (nomark _)) (q_or1 (q_dnotIn (un1 hr) (r_ix ix_seq d_ix (r_v 1 (pv 1)) (r_op op_addD d_add (r_v 5 (pv 5)) r_int) (fun _ _ => rfl)) (r_v 2 (pv 2)) rfl))).pt (ss_one (s_ret (r_lst (a_cons r_str (a_cons (r_op op_addD d_add (r_v 5 (pv 5)) r_int) a_nil))))) ss_nil) (ss_cons (s_parOL (ps_par (i := 6) (j := 7) rfl sc_law_due.nd rfl rfl (by decide) rfl rfl (pa_cons (pe_lst (a_cons (r_ix ix_seq d_ix (r_v 1 (pv 1)) (r_op op_addD d_add (r_v 5 (pv 5)) r_int) (fun _ _ => rfl)) a_nil)) (pa_cons (r_dget (un1 hr) (r_v 2 (pv 2)) (r_ix ix_seq d_ix (r_v 1 (pv 1)) (r_op op_addD d_add (r_v 5 (pv 5)) r_int) (fun _ _ => rfl)) (fun _ _ => rfl)) pa_nil)) (by rfl))) (ss_cons (s_for (b_name (K := K)) (ps_for (passes_of rfl) rfl (i_rng2 (by rfl) b_range (a_cons (r_op op_addD d_add (r_v 5 (pv 5)) r_int) (a_cons (r_op op_addD d_add (r_op op_addD d_add (r_v 5 (pv 5)) r_int) (r_v 7 (pv 7))) a_nil))) (pg_name (i := 8) sc_law_due.nd rfl (by first | exact .inl rfl | exact .inr rfl)) (ss_cons (s_set (ps_set (i := 9) sc_law_due.nd rfl (by first | exact .inl rfl | exact .inr rfl) (r_if (q_cmp op_lt d_cmp (r_v 8 (pv 8)) (r_b call_len_seq d_len (by rfl) b_len (by decide +kernel) (a_cons (r_v 1 (pv 1)) a_nil)) (nomark _)) (r_cal C_law_read_of hr (by first | decide | omega) hgu (by rfl) (takes_of rfl rfl rfl rfl) (a_cons (r_v 3 (pv 3)) (a_cons (r_ix ix_seq d_ix (r_v 1 (pv 1)) (r_v 8 (pv 8)) (fun _ _ => rfl)) a_nil))) r_non))) (ss_cons (s_if (q_cmp op_isN d_isN (r_v 9 (pv 9)) r_non (nomark _)) (ss_one (s_ret (r_lst (a_cons r_str (a_cons (r_v 8 (pv 8)) a_nil))))) ss_nil) (ss_one (s_app (ps_expr (pe_bm PySem.F.plainAttrs_list PySem.F.slot_list_append PySem.F.type_list_append mt_append (pv 6) (pa_cons (r_v 9 (pv 9)) pa_nil))))))))) (ss_frz (i := 6) (ss_cons (s_app (ps_expr (pe_bm PySem.F.plainAttrs_list PySem.F.slot_list_append PySem.F.type_list_append mt_append (pv 4) (pa_cons (r_bt call_tuple_S d_tuple (by rfl) b_tuple (by decide +kernel) (a_cons (r_v 6 (pv 6)) a_nil)) pa_nil)))) (ss_one (s_set (ps_set (i := 5) sc_law_due.nd rfl (by first | exact .inl rfl | exact .inr rfl) (r_op op_addD d_add (r_op op_addD d_add (r_v 5 (pv 5)) r_int) (r_v 7 (pv 7)))))))))))))) (ss_frz (i := 4) (ss_cons (s_set (ps_set (i := 10) sc_law_due.nd rfl (by first | exact .inl rfl | exact .inr rfl) (r_tup (a_cons (r_v 3 (pv 3)) (a_cons (r_bt call_tuple_S d_tuple (by rfl) b_tuple (by decide +kernel) (a_cons (r_v 4 (pv 4)) a_nil)) a_nil))))) (ss_one (s_ret (r_if (q_cmp op_isN d_isN (r_cal C_flow_error hr (by first | decide | omega) hgu (by rfl) (takes_of rfl rfl rfl rfl) (a_cons (r_v 10 (pv 10)) a_nil)) r_non (nomark _)) (r_v 10 (pv 10)) (r_lst (a_cons r_str (a_cons (r_cal C_flow_error hr (by first | decide | omega) hgu (by rfl) (takes_of rfl rfl rfl rfl) (a_cons (r_v 10 (pv 10)) a_nil)) a_nil)))))))))))))
/-! _law_told -/
abbrev St_law_told : Stmt := topS 43
abbrev N_law_told : List Str := ["_law_value", "_law_found", "error"]
theorem sc_law_told : FnScope N_law_told ["_law_value"] (defScope St_law_told) := ⟨rfl, rfl, rfl, by decide +kernel, rfl, by decide +kernel, by decide +kernel⟩
def F_law_told : Env' → T Fl := (sSeq (sSet 1 (eC .none)) (sSeq (sTry 2 cm_WireError (sSet 1 (eCall 1 m_parse_flow (aCons (eV 0) aNil))) (sSeq (sSet 1 (eLst (aCons (eC (.str "other")) aNil))) (sIf (eAnd (eIsE 2 is_BadText) (eUn oNot (eIsE 2 is_BadFlow_BadBeats_TooLarge))) (sSet 1 (eLst (aCons (eC (.str "text")) (aCons (eFld 2 "BadText" "index") aNil)))) (sIf (eAnd (eIsE 2 is_BadFlow) (eUn oNot (eIsE 2 is_BadText_BadOutside))) (sSet 1 (eLst (aCons (eC (.str "flow")) (aCons (eFld 2 "BadFlow" "error") aNil)))) sNil)))) (sRet (eV 1))))
@[irreducible] def m_law_told : List Ar → T D := mkDef 3 F_law_told
theorem mq_law_told : m_law_told = mkDef 3 F_law_told := by
  unfold m_law_told
  rfl
theorem ok_law_told {P : Program} {w : World} {K : PySem.W.Frag} {mg : Str → Option Value} {base : Heap} {cad : Cad} {fa : Addr} {fd : FuncData} (Fu : Fun K "_law_told" "_law_told" St_law_told fa fd) (C_parse_flow : Cal P w K mg base cad "parse_flow" 7 1 m_parse_flow) (b_isinstance : mg "isinstance" = none) {A_WireError : Addr} (n_WireError : mg "WireError" = some (.ref A_WireError)) (hcm_WireError : ∀ x C b, cad x = some C → cm_WireError x = some b → PySem.W.exmOne K (.ref C) (.ref A_WireError) = some b) {A_BadText : Addr} (n_BadText : mg "BadText" = some (.ref A_BadText)) {A_BadFlow : Addr} (n_BadFlow : mg "BadFlow" = some (.ref A_BadFlow)) {A_BadBeats : Addr} (n_BadBeats : mg "BadBeats" = some (.ref A_BadBeats)) {A_TooLarge : Addr} (n_TooLarge : mg "TooLarge" = some (.ref A_TooLarge)) {A_BadOutside : Addr} (n_BadOutside : mg "BadOutside" = some (.ref A_BadOutside)) (hq : ∀ y C, cad y = some C → ExcQ K C) (hk_BadText : ∀ y C b, cad y = some C → is_BadText y = some b → PySem.W.kitOne K (.ref C) (.ref A_BadText) = some b) (hk_BadFlow_BadBeats_TooLarge : ∀ y C b, cad y = some C → is_BadFlow_BadBeats_TooLarge y = some b → PySem.W.kitAny K (.ref C) [.ref A_BadFlow, .ref A_BadBeats, .ref A_TooLarge] = some b) (hk_BadFlow : ∀ y C b, cad y = some C → is_BadFlow y = some b → PySem.W.kitOne K (.ref C) (.ref A_BadFlow) = some b) (hk_BadText_BadOutside : ∀ y C b, cad y = some C → is_BadText_BadOutside y = some b → PySem.W.kitAny K (.ref C) [.ref A_BadText, .ref A_BadOutside] = some b) (X_BadText : Caught K mg cad "BadText" "index" A_BadText) (X_BadFlow : Caught K mg cad "BadFlow" "error" A_BadFlow) : FnG P w K mg base 8 fa fd ["_law_value"] (spD cad 1 m_law_told) :=
  by
  rw [mq_law_told]
  exact FnG.ofD (F := F_law_told) (N := N_law_told) Fu sc_law_told fun cdv A outer s H E hr hgu => (ss_cons (s_set (ps_set (i := 1) sc_law_told.nd rfl (by first | exact .inl rfl | exact .inr rfl) r_non)) (ss_cons (s_try rfl hcm_WireError (ps_try_as (tb := fun W => tS ⟨cad, none, W, fun _ _ _ => True⟩ (sSet 1 (eCall 1 m_parse_flow (aCons (eV 0) aNil)))) rfl rfl sc_law_told.nd rfl rfl ⟨by rfl, by decide, .inl n_WireError⟩ (takes_of rfl rfl rfl rfl) (fun W pn xe tk hp => (ss_one (s_set (ps_set (i := 1) sc_law_told.nd rfl (by first | exact .inl rfl | exact .inr rfl) (r_cal C_parse_flow hr (by first | decide | omega) hgu (by rfl) tk (a_cons (r_v 0 (pv 0)) a_nil)))))) (fun a oe cls d pn hz hf => (ss_cons (s_set (ps_set (i := 1) sc_law_told.nd rfl (by first | exact .inl rfl | exact .inr rfl) (r_lst (a_cons r_str a_nil)))) (ss_one (s_if (q_and (q_val (r_is1 (v := .ref A_BadText) (cv := .ref A_BadText) hq hk_BadText rfl hz hf (by rfl) b_isinstance (pv 2) (pe_cls (by rfl) n_BadText) (fun _ z => z))) (q_and1 (q_not (q_val (r_isN (cs := [.ref A_BadFlow, .ref A_BadBeats, .ref A_TooLarge]) (us := [.ref A_BadFlow, .ref A_BadBeats, .ref A_TooLarge]) hq hk_BadFlow_BadBeats_TooLarge rfl hz hf (by rfl) b_isinstance (pv 2) (pe_tup (pa_cons (pe_cls (by rfl) n_BadFlow) (pa_cons (pe_cls (by rfl) n_BadBeats) (pa_cons (pe_cls (by rfl) n_TooLarge) pa_nil)))) (fun _ _ _ z => z) (by simp) (.cons (.own _) (.cons (.own _) (.cons (.own _) .nil)))))))).pt (ss_one (s_set (ps_set (i := 1) sc_law_told.nd rfl (by first | exact .inl rfl | exact .inr rfl) (r_lst (a_cons r_str (a_cons (r_fld X_BadText.xf X_BadText.no X_BadText.cad rfl hz hf (pv 2)) a_nil)))))) (ss_one (s_if (q_and (q_val (r_is1 (v := .ref A_BadFlow) (cv := .ref A_BadFlow) hq hk_BadFlow rfl hz hf (by rfl) b_isinstance (pv 2) (pe_cls (by rfl) n_BadFlow) (fun _ z => z))) (q_and1 (q_not (q_val (r_isN (cs := [.ref A_BadText, .ref A_BadOutside]) (us := [.ref A_BadText, .ref A_BadOutside]) hq hk_BadText_BadOutside rfl hz hf (by rfl) b_isinstance (pv 2) (pe_tup (pa_cons (pe_cls (by rfl) n_BadText) (pa_cons (pe_cls (by rfl) n_BadOutside) pa_nil))) (fun _ _ _ z => z) (by simp) (.cons (.own _) (.cons (.own _) .nil))))))).pt (ss_one (s_set (ps_set (i := 1) sc_law_told.nd rfl (by first | exact .inl rfl | exact .inr rfl) (r_lst (a_cons r_str (a_cons (r_fld X_BadFlow.xf X_BadFlow.no X_BadFlow.cad rfl hz hf (pv 2)) a_nil)))))) ss_nil)))))))) (ss_one (s_ret (r_v 1 (pv 1))))))
/-! _law_changed -/
abbrev St_law_changed : Stmt := topS 44
abbrev N_law_changed : List Str := ["_law_box", "_law_text", "_law_at", "_law_words", "_law_sign", "_law_some", "_law_spot"]
theorem sc_law_changed : FnScope N_law_changed ["_law_box", "_law_text"] (defScope St_law_changed) := ⟨rfl, rfl, rfl, by decide +kernel, rfl, by decide +kernel, by decide +kernel⟩
def F_law_changed : Env' → T Fl := (sSeq (sPar 2 3 (aCons (eCall 2 m_law_draw (aBox 0 (aCons (eBin oAdd (eCb (o1 oLenT) (aCons (eV 1) aNil)) (eC (.int 1))) aNil))) (aCons (eSM oSplitS (eV 1) (eC (.str " "))) aNil))) (sSeq (sSet 4 (eCall 2 m_law_one (aBox 0 (aCons (eLst (aCons (eC (.str "0")) (aCons (eC (.str "1")) (aCons (eC (.str "-")) (aCons (eC (.str "5")) (aCons (eC (.str " ")) (aCons (eC (.str "@")) (aCons (eC (.str ",")) (aCons (eC (.str "/")) (aCons (eC (.str "a")) (aCons (eC (.str "+")) (aCons (eC (.str "_")) (aCons (eC (.str "")) (aCons (eC (.str "00")) (aCons (eC (.str ".")) (aCons (eC (.str "\n")) (aCons (eC (.str "9999999999999")) aNil))))))))))))))))) aNil)))) (sSeq (sOwn 5 (lLst (aCons (eBin oAdd (eBin oAdd (eSlX (eV 1) pNone (pSome (eV 2))) (eV 4)) (eSlX (eV 1) (pSome (eV 2)) pNone)) (aCons (eBin oAdd (eSlX (eV 1) pNone (pSome (eV 2))) (eSlX (eV 1) (pSome (eBin oAdd (eV 2) (eC (.int 1)))) pNone)) (aCons (eBin oAdd (eBin oAdd (eSlX (eV 1) pNone (pSome (eV 2))) (eV 4)) (eSlX (eV 1) (pSome (eBin oAdd (eV 2) (eC (.int 1)))) pNone)) (aCons (eBin oAdd (eV 1) (eV 4)) aNil)))))) (sSeq (sSet 6 (eCall 2 m_law_draw (aBox 0 (aCons (eCb oLen (aCons (eV 3) aNil)) aNil)))) (sFrz 5 (sSeq (sOwn 5 (lAdd (eV 5) (eLst (aCons (eSM oJoinS (eC (.str " ")) (eBin oAdd (eSl (eV 3) pNone (pSome (eV 6))) (eSl (eV 3) (pSome (eBin oAdd (eV 6) (eC (.int 1)))) pNone))) (aCons (eSM oJoinS (eC (.str " ")) (eBin oAdd (eV 3) (eSl (eV 3) (pSome (eV 6)) pNone))) (aCons (eSM oJoinS (eC (.str " ")) (eSl (eV 3) pNone (pSome (eV 6)))) aNil)))))) (sSeq (sApp 5 (eSM oJoinS (eC (.str " ")) (eBin oAdd (eBin oAdd (eSl (eV 3) pNone (pSome (eV 6))) (eSl (eV 3) (pSome (eV 6)) (pSome (eBin oAdd (eV 6) (eC (.int 1)))))) (eSl (eV 3) (pSome (eV 6)) pNone)))) (sFrz 5 (sSeq (sOwn 5 (lAdd (eV 5) (eLst (aCons (eSM oJoinS (eC (.str " ")) (eRevS (eV 3))) (aCons (eSM0 oUpS (eV 1)) aNil))))) (sSeq (sApp 5 (eSM oJoinS (eC (.str " ")) (eBin oAdd (eSl (eV 3) pNone (pSome (eC (.int 1)))) (eBin oRepW (eSl (eV 3) (pSome (eC (.int 1))) pNone) (eBin oIx (eLst (aCons (eC (.int 7)) (aCons (eC (.int 1)) aNil))) (eCb (o1 oInt) (aCons (eBin oGt (eCb oLen (aCons (eV 3) aNil)) (eC (.int 40))) aNil))))))) (sFrz 5 (sRet (eCall 2 m_law_one (aBox 0 (aCons (eBin oAdd (eV 5) (eLst (aCons (eBin oAdd (eC (.str " ")) (eV 1)) (aCons (eBin oAdd (eV 1) (eC (.str " "))) (aCons (eBin oAdd (eV 1) (eC (.str " /"))) aNil))))) aNil)))))))))))))))
@[irreducible] def m_law_changed : List Ar → T D := mkDef 7 F_law_changed
theorem mq_law_changed : m_law_changed = mkDef 7 F_law_changed := by
  unfold m_law_changed
  rfl
theorem ok_law_changed {P : Program} {w : World} {K : PySem.W.Frag} {mg : Str → Option Value} {base : Heap} {cad : Cad} {fa : Addr} {fd : FuncData} (Fu : Fun K "_law_changed" "_law_changed" St_law_changed fa fd) (C_law_draw : Cal P w K mg base cad "_law_draw" 1 2 m_law_draw) (C_law_one : Cal P w K mg base cad "_law_one" 2 2 m_law_one) (b_len : mg "len" = none) (b_int : mg "int" = none) : FnG P w K mg base 3 fa fd ["_law_box", "_law_text"] (spD cad 2 m_law_changed) :=
  by
  rw [mq_law_changed]
  exact FnG.ofD (F := F_law_changed) (N := N_law_changed) Fu sc_law_changed fun cdv A outer s H E hr hgu => (ss_cons (s_par (ps_par (i := 2) (j := 3) rfl sc_law_changed.nd rfl rfl (by decide) rfl rfl (a_cons (r_cal C_law_draw hr (by first | decide | omega) hgu (by rfl) (takes_of rfl rfl rfl rfl) (a_box (i := 0) (pv 0) (a_cons (r_op op_addD d_add (r_b call_len_str d_lenT (by rfl) b_len (by decide +kernel) (a_cons (r_v 1 (pv 1)) a_nil)) r_int) a_nil))) (a_cons (r_sm PySem.F.slot_str_split PySem.F.type_str_split mt_split m_split (r_v 1 (pv 1)) r_str) a_nil)) (by rfl))) (ss_cons (s_set (ps_set (i := 4) sc_law_changed.nd rfl (by first | exact .inl rfl | exact .inr rfl) (r_cal C_law_one hr (by first | decide | omega) hgu (by rfl) (takes_of rfl rfl rfl rfl) (a_box (i := 0) (pv 0) (a_cons (r_lst (a_cons r_str (a_cons r_str (a_cons r_str (a_cons r_str (a_cons r_str (a_cons r_str (a_cons r_str (a_cons r_str (a_cons r_str (a_cons r_str (a_cons r_str (a_cons r_str (a_cons r_str (a_cons r_str (a_cons r_str (a_cons r_str a_nil))))))))))))))))) a_nil))))) (ss_cons (s_own (ps_set (i := 5) sc_law_changed.nd rfl (by first | exact .inl rfl | exact .inr rfl) (pe_lst (a_cons (r_op op_addD d_add (r_op op_addD d_add (r_slX (r_v 1 (pv 1)) p_none (p_some (r_v 2 (pv 2)))) (r_v 4 (pv 4))) (r_slX (r_v 1 (pv 1)) (p_some (r_v 2 (pv 2))) p_none)) (a_cons (r_op op_addD d_add (r_slX (r_v 1 (pv 1)) p_none (p_some (r_v 2 (pv 2)))) (r_slX (r_v 1 (pv 1)) (p_some (r_op op_addD d_add (r_v 2 (pv 2)) r_int)) p_none)) (a_cons (r_op op_addD d_add (r_op op_addD d_add (r_slX (r_v 1 (pv 1)) p_none (p_some (r_v 2 (pv 2)))) (r_v 4 (pv 4))) (r_slX (r_v 1 (pv 1)) (p_some (r_op op_addD d_add (r_v 2 (pv 2)) r_int)) p_none)) (a_cons (r_op op_addD d_add (r_v 1 (pv 1)) (r_v 4 (pv 4))) a_nil))))))) (ss_cons (s_set (ps_set (i := 6) sc_law_changed.nd rfl (by first | exact .inl rfl | exact .inr rfl) (r_cal C_law_draw hr (by first | decide | omega) hgu (by rfl) (takes_of rfl rfl rfl rfl) (a_box (i := 0) (pv 0) (a_cons (r_b call_len_seq d_len (by rfl) b_len (by decide +kernel) (a_cons (r_v 3 (pv 3)) a_nil)) a_nil))))) (ss_frz (i := 5) (ss_cons (s_ownCat (ps_set (i := 5) sc_law_changed.nd rfl (by first | exact .inl rfl | exact .inr rfl) (pe_op op_cat (r_v 5 (pv 5)) (r_lst (a_cons (r_sm PySem.F.slot_str_join PySem.F.type_str_join mt_join m_join r_str (r_op op_addD d_add (r_sl (r_v 3 (pv 3)) p_none (p_some (r_v 6 (pv 6)))) (r_sl (r_v 3 (pv 3)) (p_some (r_op op_addD d_add (r_v 6 (pv 6)) r_int)) p_none))) (a_cons (r_sm PySem.F.slot_str_join PySem.F.type_str_join mt_join m_join r_str (r_op op_addD d_add (r_v 3 (pv 3)) (r_sl (r_v 3 (pv 3)) (p_some (r_v 6 (pv 6))) p_none))) (a_cons (r_sm PySem.F.slot_str_join PySem.F.type_str_join mt_join m_join r_str (r_sl (r_v 3 (pv 3)) p_none (p_some (r_v 6 (pv 6))))) a_nil))))))) (ss_cons (s_app (ps_expr (pe_bm PySem.F.plainAttrs_list PySem.F.slot_list_append PySem.F.type_list_append mt_append (pv 5) (pa_cons (r_sm PySem.F.slot_str_join PySem.F.type_str_join mt_join m_join r_str (r_op op_addD d_add (r_op op_addD d_add (r_sl (r_v 3 (pv 3)) p_none (p_some (r_v 6 (pv 6)))) (r_sl (r_v 3 (pv 3)) (p_some (r_v 6 (pv 6))) (p_some (r_op op_addD d_add (r_v 6 (pv 6)) r_int)))) (r_sl (r_v 3 (pv 3)) (p_some (r_v 6 (pv 6))) p_none))) pa_nil)))) (ss_frz (i := 5) (ss_cons (s_ownCat (ps_set (i := 5) sc_law_changed.nd rfl (by first | exact .inl rfl | exact .inr rfl) (pe_op op_cat (r_v 5 (pv 5)) (r_lst (a_cons (r_sm PySem.F.slot_str_join PySem.F.type_str_join mt_join m_join r_str (r_revS (r_v 3 (pv 3)))) (a_cons (r_sm0 PySem.F.slot_str_upper PySem.F.type_str_upper mt_upper m_upper (r_v 1 (pv 1))) a_nil)))))) (ss_cons (s_app (ps_expr (pe_bm PySem.F.plainAttrs_list PySem.F.slot_list_append PySem.F.type_list_append mt_append (pv 5) (pa_cons (r_sm PySem.F.slot_str_join PySem.F.type_str_join mt_join m_join r_str (r_op op_addD d_add (r_sl (r_v 3 (pv 3)) p_none (p_some r_int)) (r_op op_rep d_repW (r_sl (r_v 3 (pv 3)) (p_some r_int) p_none) (r_ix ix_seq d_ix (r_lst (a_cons r_int (a_cons r_int a_nil))) (r_bt call_int1 d_int (by rfl) b_int (by decide +kernel) (a_cons (r_cmp op_gt d_cmp (r_b call_len_seq d_len (by rfl) b_len (by decide +kernel) (a_cons (r_v 3 (pv 3)) a_nil)) r_int (nomark _)) a_nil)) (fun _ _ => rfl))))) pa_nil)))) (ss_frz (i := 5) (ss_one (s_ret (r_cal C_law_one hr (by first | decide | omega) hgu (by rfl) (takes_of rfl rfl rfl rfl) (a_box (i := 0) (pv 0) (a_cons (r_op op_addD d_add (r_v 5 (pv 5)) (r_lst (a_cons (r_op op_addD d_add r_str (r_v 1 (pv 1))) (a_cons (r_op op_addD d_add (r_v 1 (pv 1)) r_str) (a_cons (r_op op_addD d_add (r_v 1 (pv 1)) r_str) a_nil))))) a_nil))))))))))))))))
/-! law -/
abbrev St_law : Stmt := topS 45
abbrev N_law : List Str := ["_law_script", "_law_box", "_law_turn", "_law_text", "_law_some", "_law_k", "_law_value", "_law_due_here", "_law_again"]
theorem sc_law : FnScope N_law ["_law_script"] (defScope St_law) := ⟨rfl, rfl, rfl, by decide +kernel, rfl, by decide +kernel, by decide +kernel⟩
def B0_law : Env' → T Fl := (sSeq (sSet 6 (eCall 2 m_law_changed (aBox 1 (aCons (eV 3) aNil)))) (sSet 4 (eBin oAdd (eV 4) (eLst (aCons (eV 6) (aCons (eCall 2 m_law_changed (aBox 1 (aCons (eV 6) aNil))) aNil))))))
def B1_law : Env' → T Fl := (sSeq (sSet 7 (eCb (o1 oRepr) (aCons (eCall 1 m_law_due (aCons (eV 6) aNil)) aNil))) (sIf (eBin oNe (eLc [8] (iArg oRng1 (aCons (eC (.int 2)) aNil)) (bName 8) tTrue (eCb (o1 oRepr) (aCons (eCall 1 m_law_told (aCons (eV 6) aNil)) aNil))) (eLst (aCons (eV 7) (aCons (eV 7) aNil)))) (sRet (eC (.bool false))) sNil))
def B2_law : Env' → T Fl := (sSeq (sSet 3 (eCall 1 m_law_flow_text (aCons (eCall 1 m_law_flow (aBox 1 aNil)) aNil))) (sSeq (sSet 4 (eLst (aCons (eV 3) (aCons (eC .none) (aCons (eLst (aCons (eV 3) aNil)) (aCons (eC (.str "")) (aCons (eC (.str "2")) (aCons (eC (.str "3 /")) (aCons (eC (.str "2 / neg")) (aCons (eC (.str "2 / neg 0@1,0 /")) (aCons (eC (.str "4 / neg 0@1,0")) (aCons (eCall 1 m_law_odd (aBox 1 aNil)) aNil)))))))))))) (sSeq (sFor (iArg oRng1 (aCons (eC (.int 12)) aNil)) (bName 5) B0_law) (sSeq (sSet 4 (eBin oAdd (eV 4) (eLst (aCons (eC (.str "2 / neg 0@1_0,0")) (aCons (eC (.str "2 / neg 1@0,0")) (aCons (eC (.str "2 / neg 0@5,0")) (aCons (eC (.str "2 / neg 0@01,0")) (aCons (eC (.str "2 / neg 0@1,0,0")) aNil)))))))) (sFor (iSeq (eV 4)) (bName 6) B1_law)))))
def R_law : Env' → T D := (eC (.bool true))
def F_law : Env' → T Fl := (sSeq (sFor (iArg oRng1 (aCons (eC (.int 8)) aNil)) (bName 2) B2_law) (sRet R_law))
abbrev spL (K : PySem.W.Frag) : Sp := fun vs H Q _ => ∃ (a : Addr) (ns : List Int), vs = [.ref a] ∧ SqL K H a (ns.map V.int) ∧ ns.length ≤ 63 ∧ ∀ H', Q (.bl true) H'
theorem ok_law {P : Program} {w : World} {K : PySem.W.Frag} {mg : Str → Option Value} {base : Heap} {cad : Cad} {fa fO : Addr} {fd fdO : FuncData} (Fu : Fun K "law" "law" St_law fa fd) (FO : FnG P w K mg base 1 fO fdO ["_law_script"] (spOpened K)) (gO : mg "_law_opened" = some (.ref fO)) (kO : PySem.W.keepIn K (.ref fO) = true) (BO : Binds K fdO ["_law_script"] []) (C_law_flow_text : Cal P w K mg base cad "_law_flow_text" 4 1 m_law_flow_text) (C_law_flow : Cal P w K mg base cad "_law_flow" 4 1 m_law_flow) (C_law_odd : Cal P w K mg base cad "_law_odd" 3 1 m_law_odd) (C_law_changed : Cal P w K mg base cad "_law_changed" 3 2 m_law_changed) (C_law_due : Cal P w K mg base cad "_law_due" 7 1 m_law_due) (C_law_told : Cal P w K mg base cad "_law_told" 8 1 m_law_told) (b_range : mg "range" = none) (b_repr : mg "repr" = none)
    (hbx : ∀ (β : Box) (v : V), boxIs true β v → β.tabs = [] → cad.bx β) (hF : (F_law ([Sl.no, .box true] ++ List.replicate 7 .no)).run.wp (fun d => d = .bool true) (fun _ => False)) : FnG P w K mg base 9 fa fd ["_law_script"] (spL K) :=
  FnG.law (cad := cad) (k0 := true) (F := F_law) (N := N_law) Fu sc_law rfl (by decide) hbx dict_opens
    (fun cdv A outer s H E hr hgu => ps_set (i := 1) sc_law.nd rfl (by first | exact .inl rfl | exact .inr rfl) (pe_callG FO (hr.mono (by decide)) hgu (by rfl) gO kO BO .nil takes0 (pa_cons (pv 0) pa_nil)))
    (fun cdv A outer s H E hr hgu => (ss_cons (s_for (b_name (K := K)) (ps_for (passes_of rfl) rfl (i_rng1 (by rfl) b_range (a_cons r_int a_nil)) (pg_name (i := 2) sc_law.nd rfl (by first | exact .inl rfl | exact .inr rfl)) (ss_cons (s_set (ps_set (i := 3) sc_law.nd rfl (by first | exact .inl rfl | exact .inr rfl) (r_cal C_law_flow_text hr (by first | decide | omega) hgu (by rfl) (takes_of rfl rfl rfl rfl) (a_cons (r_cal C_law_flow hr (by first | decide | omega) hgu (by rfl) (takes_of rfl rfl rfl rfl) (a_box (i := 1) (pv 1) a_nil)) a_nil)))) (ss_cons (s_set (ps_set (i := 4) sc_law.nd rfl (by first | exact .inl rfl | exact .inr rfl) (r_lst (a_cons (r_v 3 (pv 3)) (a_cons r_non (a_cons (r_lst (a_cons (r_v 3 (pv 3)) a_nil)) (a_cons r_str (a_cons r_str (a_cons r_str (a_cons r_str (a_cons r_str (a_cons r_str (a_cons (r_cal C_law_odd hr (by first | decide | omega) hgu (by rfl) (takes_of rfl rfl rfl rfl) (a_box (i := 1) (pv 1) a_nil)) a_nil))))))))))))) (ss_cons (s_for (b_name (K := K)) (ps_for (passes_of rfl) rfl (i_rng1 (by rfl) b_range (a_cons r_int a_nil)) (pg_name (i := 5) sc_law.nd rfl (by first | exact .inl rfl | exact .inr rfl)) (ss_cons (s_set (ps_set (i := 6) sc_law.nd rfl (by first | exact .inl rfl | exact .inr rfl) (r_cal C_law_changed hr (by first | decide | omega) hgu (by rfl) (takes_of rfl rfl rfl rfl) (a_box (i := 1) (pv 1) (a_cons (r_v 3 (pv 3)) a_nil))))) (ss_one (s_set (ps_set (i := 4) sc_law.nd rfl (by first | exact .inl rfl | exact .inr rfl) (r_op op_addD d_add (r_v 4 (pv 4)) (r_lst (a_cons (r_v 6 (pv 6)) (a_cons (r_cal C_law_changed hr (by first | decide | omega) hgu (by rfl) (takes_of rfl rfl rfl rfl) (a_box (i := 1) (pv 1) (a_cons (r_v 6 (pv 6)) a_nil))) a_nil)))))))))) (ss_cons (s_set (ps_set (i := 4) sc_law.nd rfl (by first | exact .inl rfl | exact .inr rfl) (r_op op_addD d_add (r_v 4 (pv 4)) (r_lst (a_cons r_str (a_cons r_str (a_cons r_str (a_cons r_str (a_cons r_str a_nil))))))))) (ss_one (s_for (b_name (K := K)) (ps_for (passes_of rfl) rfl (i_seq (r_v 4 (pv 4))) (pg_name (i := 6) sc_law.nd rfl (by first | exact .inl rfl | exact .inr rfl)) (ss_cons (s_set (ps_set (i := 7) sc_law.nd rfl (by first | exact .inl rfl | exact .inr rfl) (r_b (call_repr hgu (un200 hr)) d_repr (by rfl) b_repr (by decide +kernel) (a_cons (r_cal C_law_due hr (by first | decide | omega) hgu (by rfl) (takes_of rfl rfl rfl rfl) (a_cons (r_v 6 (pv 6)) a_nil)) a_nil)))) (ss_one (s_if (q_cmp (op_neW hr.units) d_ne (r_lc (own := [("_law_again", 8)]) rfl sc_law.nd (i_rng1 (by rfl) b_range (a_cons r_int a_nil)) (blkOk_by (N := N_law) (sc := defScope St_law) (by decide +kernel)) (fun _ _ _ _ _ => (g_name (pg_name (i := 8) sc_law.nd rfl (by first | exact .inl rfl | exact .inr rfl)))) (fun _ _ _ _ _ => pts_yes) (fun _ _ _ _ _ => (r_b (call_repr hgu (un200 hr)) d_repr (by rfl) b_repr (by decide +kernel) (a_cons (r_cal C_law_told hr (by first | decide | omega) hgu (by rfl) takes0 (a_cons (r_v 6 (pv 6)) a_nil)) a_nil))) (by decide)) (r_lst (a_cons (r_v 7 (pv 7)) (a_cons (r_v 7 (pv 7)) a_nil))) (nomark _)) (ss_one (s_ret r_bl)) ss_nil)))))))))))) (ss_one (s_ret r_bl)))) hF
abbrev In_BadFlow : Stmt := (inClass (topS 3) 0)
theorem si_BadFlow : FnScope [("self" : Str), "error"] [("self" : Str), "error"] (defScope In_BadFlow) := ⟨rfl, rfl, rfl, by decide +kernel, rfl, by decide +kernel, by decide +kernel⟩
abbrev In_BadText : Stmt := (inClass (topS 5) 0)
theorem si_BadText : FnScope [("self" : Str), "index"] [("self" : Str), "index"] (defScope In_BadText) := ⟨rfl, rfl, rfl, by decide +kernel, rfl, by decide +kernel, by decide +kernel⟩
theorem all_mk {l : PySem.W.OpenLaw} {w : World} {K : PySem.W.Frag} {h : Heap} {mg : Str → Option Value} {fa : Addr}
    {f_is_within : Addr} {od_is_within an_is_within : Option Addr} {sl_is_within : Array (Option Value)} {oc_is_within kV_is_within dc_is_within pm_is_within cd_is_within ct_is_within : Value}
    {f_is_tuple_of : Addr} {od_is_tuple_of an_is_tuple_of : Option Addr} {sl_is_tuple_of : Array (Option Value)} {oc_is_tuple_of kV_is_tuple_of dc_is_tuple_of pm_is_tuple_of cd_is_tuple_of ct_is_tuple_of : Value}
    {f_is_bounded : Addr} {od_is_bounded an_is_bounded : Option Addr} {sl_is_bounded : Array (Option Value)} {oc_is_bounded kV_is_bounded dc_is_bounded pm_is_bounded cd_is_bounded ct_is_bounded : Value}
    {f_has_form : Addr} {od_has_form an_has_form : Option Addr} {sl_has_form : Array (Option Value)} {oc_has_form kV_has_form dc_has_form pm_has_form cd_has_form ct_has_form : Value}
    {f_are_rules : Addr} {od_are_rules an_are_rules : Option Addr} {sl_are_rules : Array (Option Value)} {oc_are_rules kV_are_rules dc_are_rules pm_are_rules cd_are_rules ct_are_rules : Value}
    {f_read_error : Addr} {od_read_error an_read_error : Option Addr} {sl_read_error : Array (Option Value)} {oc_read_error kV_read_error dc_read_error pm_read_error cd_read_error ct_read_error : Value}
    {f_rule_error : Addr} {od_rule_error an_rule_error : Option Addr} {sl_rule_error : Array (Option Value)} {oc_rule_error kV_rule_error dc_rule_error pm_rule_error cd_rule_error ct_rule_error : Value}
    {f_flow_error : Addr} {od_flow_error an_flow_error : Option Addr} {sl_flow_error : Array (Option Value)} {oc_flow_error kV_flow_error dc_flow_error pm_flow_error cd_flow_error ct_flow_error : Value}
    {f_parse_integer : Addr} {od_parse_integer an_parse_integer : Option Addr} {sl_parse_integer : Array (Option Value)} {oc_parse_integer kV_parse_integer dc_parse_integer pm_parse_integer cd_parse_integer ct_parse_integer : Value}
    {f_parse_vector : Addr} {od_parse_vector an_parse_vector : Option Addr} {sl_parse_vector : Array (Option Value)} {oc_parse_vector kV_parse_vector dc_parse_vector pm_parse_vector cd_parse_vector ct_parse_vector : Value}
    {f_parse_read : Addr} {od_parse_read an_parse_read : Option Addr} {sl_parse_read : Array (Option Value)} {oc_parse_read kV_parse_read dc_parse_read pm_parse_read cd_parse_read ct_parse_read : Value}
    {f_parse_rule : Addr} {od_parse_rule an_parse_rule : Option Addr} {sl_parse_rule : Array (Option Value)} {oc_parse_rule kV_parse_rule dc_parse_rule pm_parse_rule cd_parse_rule ct_parse_rule : Value}
    {f_parse_flow : Addr} {od_parse_flow an_parse_flow : Option Addr} {sl_parse_flow : Array (Option Value)} {oc_parse_flow kV_parse_flow dc_parse_flow pm_parse_flow cd_parse_flow ct_parse_flow : Value}
    {f_law_opened : Addr} {od_law_opened an_law_opened : Option Addr} {sl_law_opened : Array (Option Value)} {oc_law_opened kV_law_opened dc_law_opened pm_law_opened cd_law_opened ct_law_opened : Value}
    {f_law_draw : Addr} {od_law_draw an_law_draw : Option Addr} {sl_law_draw : Array (Option Value)} {oc_law_draw kV_law_draw dc_law_draw pm_law_draw cd_law_draw ct_law_draw : Value}
    {f_law_one : Addr} {od_law_one an_law_one : Option Addr} {sl_law_one : Array (Option Value)} {oc_law_one kV_law_one dc_law_one pm_law_one cd_law_one ct_law_one : Value}
    {f_law_odd : Addr} {od_law_odd an_law_odd : Option Addr} {sl_law_odd : Array (Option Value)} {oc_law_odd kV_law_odd dc_law_odd pm_law_odd cd_law_odd ct_law_odd : Value}
    {f_law_kinds : Addr} {od_law_kinds an_law_kinds : Option Addr} {sl_law_kinds : Array (Option Value)} {oc_law_kinds kV_law_kinds dc_law_kinds pm_law_kinds cd_law_kinds ct_law_kinds : Value}
    {f_law_vector : Addr} {od_law_vector an_law_vector : Option Addr} {sl_law_vector : Array (Option Value)} {oc_law_vector kV_law_vector dc_law_vector pm_law_vector cd_law_vector ct_law_vector : Value}
    {f_law_rule : Addr} {od_law_rule an_law_rule : Option Addr} {sl_law_rule : Array (Option Value)} {oc_law_rule kV_law_rule dc_law_rule pm_law_rule cd_law_rule ct_law_rule : Value}
    {f_law_flow : Addr} {od_law_flow an_law_flow : Option Addr} {sl_law_flow : Array (Option Value)} {oc_law_flow kV_law_flow dc_law_flow pm_law_flow cd_law_flow ct_law_flow : Value}
    {f_law_vector_text : Addr} {od_law_vector_text an_law_vector_text : Option Addr} {sl_law_vector_text : Array (Option Value)} {oc_law_vector_text kV_law_vector_text dc_law_vector_text pm_law_vector_text cd_law_vector_text ct_law_vector_text : Value}
    {f_law_rule_text : Addr} {od_law_rule_text an_law_rule_text : Option Addr} {sl_law_rule_text : Array (Option Value)} {oc_law_rule_text kV_law_rule_text dc_law_rule_text pm_law_rule_text cd_law_rule_text ct_law_rule_text : Value}
    {f_law_flow_text : Addr} {od_law_flow_text an_law_flow_text : Option Addr} {sl_law_flow_text : Array (Option Value)} {oc_law_flow_text kV_law_flow_text dc_law_flow_text pm_law_flow_text cd_law_flow_text ct_law_flow_text : Value}
    {f_law_number : Addr} {od_law_number an_law_number : Option Addr} {sl_law_number : Array (Option Value)} {oc_law_number kV_law_number dc_law_number pm_law_number cd_law_number ct_law_number : Value}
    {f_law_read_of : Addr} {od_law_read_of an_law_read_of : Option Addr} {sl_law_read_of : Array (Option Value)} {oc_law_read_of kV_law_read_of dc_law_read_of pm_law_read_of cd_law_read_of ct_law_read_of : Value}
    {f_law_due : Addr} {od_law_due an_law_due : Option Addr} {sl_law_due : Array (Option Value)} {oc_law_due kV_law_due dc_law_due pm_law_due cd_law_due ct_law_due : Value}
    {f_law_told : Addr} {od_law_told an_law_told : Option Addr} {sl_law_told : Array (Option Value)} {oc_law_told kV_law_told dc_law_told pm_law_told cd_law_told ct_law_told : Value}
    {f_law_changed : Addr} {od_law_changed an_law_changed : Option Addr} {sl_law_changed : Array (Option Value)} {oc_law_changed kV_law_changed dc_law_changed pm_law_changed cd_law_changed ct_law_changed : Value}
    {f_law : Addr} {od_law an_law : Option Addr} {sl_law : Array (Option Value)} {oc_law kV_law dc_law pm_law cd_law ct_law : Value}
    {tok_DIGITS : Tok}
    {tok_MAX_DIGITS : Tok}
    {tok_MAX_DIST : Tok}
    {tok_MAX_PLANES : Tok}
    {dA_KINDS : Addr} {es_KINDS : Array DictEntry} {n_KINDS : Nat}
    {A_BadBeats : Addr}
    {A_BadFlow : Addr}
    {A_BadOutside : Addr}
    {A_BadText : Addr}
    {A_TooLarge : Addr}
    {A_WireError : Addr}
    {I_BadFlow N_BadFlow : Addr} {nm_BadFlow qq_BadFlow : Str} {bs_BadFlow bm_BadFlow sub_BadFlow : List Value} {sn_BadFlow : List Str} {ab_BadFlow : Bool} {col_BadFlow : Option Bool} {dd_BadFlow od_BadFlow an_BadFlow : Option Addr} {m0_BadFlow m1_BadFlow m2_BadFlow m3_BadFlow m5_BadFlow : Option Value} {sl_BadFlow : Array (Option Value)} {oc_BadFlow kV_BadFlow dc_BadFlow pm_BadFlow cd_BadFlow ct_BadFlow : Value}
    {I_BadText N_BadText : Addr} {nm_BadText qq_BadText : Str} {bs_BadText bm_BadText sub_BadText : List Value} {sn_BadText : List Str} {ab_BadText : Bool} {col_BadText : Option Bool} {dd_BadText od_BadText an_BadText : Option Addr} {m0_BadText m1_BadText m2_BadText m3_BadText m5_BadText : Option Value} {sl_BadText : Array (Option Value)} {oc_BadText kV_BadText dc_BadText pm_BadText cd_BadText ct_BadText : Value}
    (X : K.In h) (G : h.Ns mainGlobals mg) (hfa : mg "law" = some (.ref fa))
    (a_is_within : PySem.W.nsIn K mainGlobals "is_within" = some (some (.ref f_is_within)))
    (l_is_within : K.lookup f_is_within = some ⟨oc_is_within, od_is_within, .func (PySem.W.fnOf "is_within" "is_within" (defArgs St_is_within) (defBody St_is_within) (defScope St_is_within) .none kV_is_within dc_is_within pm_is_within an_is_within cd_is_within ct_is_within), sl_is_within⟩)
    (c_is_within : PySem.W.codeIn K cd_is_within "is_within" = true)
    (k_is_within : PySem.W.keepIn K (.ref f_is_within) = true)
    (a_is_tuple_of : PySem.W.nsIn K mainGlobals "is_tuple_of" = some (some (.ref f_is_tuple_of)))
    (l_is_tuple_of : K.lookup f_is_tuple_of = some ⟨oc_is_tuple_of, od_is_tuple_of, .func (PySem.W.fnOf "is_tuple_of" "is_tuple_of" (defArgs St_is_tuple_of) (defBody St_is_tuple_of) (defScope St_is_tuple_of) .none kV_is_tuple_of dc_is_tuple_of pm_is_tuple_of an_is_tuple_of cd_is_tuple_of ct_is_tuple_of), sl_is_tuple_of⟩)
    (c_is_tuple_of : PySem.W.codeIn K cd_is_tuple_of "is_tuple_of" = true)
    (k_is_tuple_of : PySem.W.keepIn K (.ref f_is_tuple_of) = true)
    (a_is_bounded : PySem.W.nsIn K mainGlobals "is_bounded" = some (some (.ref f_is_bounded)))
    (l_is_bounded : K.lookup f_is_bounded = some ⟨oc_is_bounded, od_is_bounded, .func (PySem.W.fnOf "is_bounded" "is_bounded" (defArgs St_is_bounded) (defBody St_is_bounded) (defScope St_is_bounded) .none kV_is_bounded dc_is_bounded pm_is_bounded an_is_bounded cd_is_bounded ct_is_bounded), sl_is_bounded⟩)
    (c_is_bounded : PySem.W.codeIn K cd_is_bounded "is_bounded" = true)
    (k_is_bounded : PySem.W.keepIn K (.ref f_is_bounded) = true)
    (a_has_form : PySem.W.nsIn K mainGlobals "has_form" = some (some (.ref f_has_form)))
    (l_has_form : K.lookup f_has_form = some ⟨oc_has_form, od_has_form, .func (PySem.W.fnOf "has_form" "has_form" (defArgs St_has_form) (defBody St_has_form) (defScope St_has_form) .none kV_has_form dc_has_form pm_has_form an_has_form cd_has_form ct_has_form), sl_has_form⟩)
    (c_has_form : PySem.W.codeIn K cd_has_form "has_form" = true)
    (k_has_form : PySem.W.keepIn K (.ref f_has_form) = true)
    (a_are_rules : PySem.W.nsIn K mainGlobals "are_rules" = some (some (.ref f_are_rules)))
    (l_are_rules : K.lookup f_are_rules = some ⟨oc_are_rules, od_are_rules, .func (PySem.W.fnOf "are_rules" "are_rules" (defArgs St_are_rules) (defBody St_are_rules) (defScope St_are_rules) .none kV_are_rules dc_are_rules pm_are_rules an_are_rules cd_are_rules ct_are_rules), sl_are_rules⟩)
    (c_are_rules : PySem.W.codeIn K cd_are_rules "are_rules" = true)
    (k_are_rules : PySem.W.keepIn K (.ref f_are_rules) = true)
    (a_read_error : PySem.W.nsIn K mainGlobals "read_error" = some (some (.ref f_read_error)))
    (l_read_error : K.lookup f_read_error = some ⟨oc_read_error, od_read_error, .func (PySem.W.fnOf "read_error" "read_error" (defArgs St_read_error) (defBody St_read_error) (defScope St_read_error) .none kV_read_error dc_read_error pm_read_error an_read_error cd_read_error ct_read_error), sl_read_error⟩)
    (c_read_error : PySem.W.codeIn K cd_read_error "read_error" = true)
    (k_read_error : PySem.W.keepIn K (.ref f_read_error) = true)
    (a_rule_error : PySem.W.nsIn K mainGlobals "rule_error" = some (some (.ref f_rule_error)))
    (l_rule_error : K.lookup f_rule_error = some ⟨oc_rule_error, od_rule_error, .func (PySem.W.fnOf "rule_error" "rule_error" (defArgs St_rule_error) (defBody St_rule_error) (defScope St_rule_error) .none kV_rule_error dc_rule_error pm_rule_error an_rule_error cd_rule_error ct_rule_error), sl_rule_error⟩)
    (c_rule_error : PySem.W.codeIn K cd_rule_error "rule_error" = true)
    (k_rule_error : PySem.W.keepIn K (.ref f_rule_error) = true)
    (a_flow_error : PySem.W.nsIn K mainGlobals "flow_error" = some (some (.ref f_flow_error)))
    (l_flow_error : K.lookup f_flow_error = some ⟨oc_flow_error, od_flow_error, .func (PySem.W.fnOf "flow_error" "flow_error" (defArgs St_flow_error) (defBody St_flow_error) (defScope St_flow_error) .none kV_flow_error dc_flow_error pm_flow_error an_flow_error cd_flow_error ct_flow_error), sl_flow_error⟩)
    (c_flow_error : PySem.W.codeIn K cd_flow_error "flow_error" = true)
    (k_flow_error : PySem.W.keepIn K (.ref f_flow_error) = true)
    (a_parse_integer : PySem.W.nsIn K mainGlobals "parse_integer" = some (some (.ref f_parse_integer)))
    (l_parse_integer : K.lookup f_parse_integer = some ⟨oc_parse_integer, od_parse_integer, .func (PySem.W.fnOf "parse_integer" "parse_integer" (defArgs St_parse_integer) (defBody St_parse_integer) (defScope St_parse_integer) .none kV_parse_integer dc_parse_integer pm_parse_integer an_parse_integer cd_parse_integer ct_parse_integer), sl_parse_integer⟩)
    (c_parse_integer : PySem.W.codeIn K cd_parse_integer "parse_integer" = true)
    (k_parse_integer : PySem.W.keepIn K (.ref f_parse_integer) = true)
    (a_parse_vector : PySem.W.nsIn K mainGlobals "parse_vector" = some (some (.ref f_parse_vector)))
    (l_parse_vector : K.lookup f_parse_vector = some ⟨oc_parse_vector, od_parse_vector, .func (PySem.W.fnOf "parse_vector" "parse_vector" (defArgs St_parse_vector) (defBody St_parse_vector) (defScope St_parse_vector) .none kV_parse_vector dc_parse_vector pm_parse_vector an_parse_vector cd_parse_vector ct_parse_vector), sl_parse_vector⟩)
    (c_parse_vector : PySem.W.codeIn K cd_parse_vector "parse_vector" = true)
    (k_parse_vector : PySem.W.keepIn K (.ref f_parse_vector) = true)
    (a_parse_read : PySem.W.nsIn K mainGlobals "parse_read" = some (some (.ref f_parse_read)))
    (l_parse_read : K.lookup f_parse_read = some ⟨oc_parse_read, od_parse_read, .func (PySem.W.fnOf "parse_read" "parse_read" (defArgs St_parse_read) (defBody St_parse_read) (defScope St_parse_read) .none kV_parse_read dc_parse_read pm_parse_read an_parse_read cd_parse_read ct_parse_read), sl_parse_read⟩)
    (c_parse_read : PySem.W.codeIn K cd_parse_read "parse_read" = true)
    (k_parse_read : PySem.W.keepIn K (.ref f_parse_read) = true)
    (a_parse_rule : PySem.W.nsIn K mainGlobals "parse_rule" = some (some (.ref f_parse_rule)))
    (l_parse_rule : K.lookup f_parse_rule = some ⟨oc_parse_rule, od_parse_rule, .func (PySem.W.fnOf "parse_rule" "parse_rule" (defArgs St_parse_rule) (defBody St_parse_rule) (defScope St_parse_rule) .none kV_parse_rule dc_parse_rule pm_parse_rule an_parse_rule cd_parse_rule ct_parse_rule), sl_parse_rule⟩)
    (c_parse_rule : PySem.W.codeIn K cd_parse_rule "parse_rule" = true)
    (k_parse_rule : PySem.W.keepIn K (.ref f_parse_rule) = true)
    (a_parse_flow : PySem.W.nsIn K mainGlobals "parse_flow" = some (some (.ref f_parse_flow)))
    (l_parse_flow : K.lookup f_parse_flow = some ⟨oc_parse_flow, od_parse_flow, .func (PySem.W.fnOf "parse_flow" "parse_flow" (defArgs St_parse_flow) (defBody St_parse_flow) (defScope St_parse_flow) .none kV_parse_flow dc_parse_flow pm_parse_flow an_parse_flow cd_parse_flow ct_parse_flow), sl_parse_flow⟩)
    (c_parse_flow : PySem.W.codeIn K cd_parse_flow "parse_flow" = true)
    (k_parse_flow : PySem.W.keepIn K (.ref f_parse_flow) = true)
    (a_law_opened : PySem.W.nsIn K mainGlobals "_law_opened" = some (some (.ref f_law_opened)))
    (l_law_opened : K.lookup f_law_opened = some ⟨oc_law_opened, od_law_opened, .func (PySem.W.fnOf "_law_opened" "_law_opened" (defArgs St_law_opened) (defBody St_law_opened) (defScope St_law_opened) .none kV_law_opened dc_law_opened pm_law_opened an_law_opened cd_law_opened ct_law_opened), sl_law_opened⟩)
    (c_law_opened : PySem.W.codeIn K cd_law_opened "_law_opened" = true)
    (k_law_opened : PySem.W.keepIn K (.ref f_law_opened) = true)
    (a_law_draw : PySem.W.nsIn K mainGlobals "_law_draw" = some (some (.ref f_law_draw)))
    (l_law_draw : K.lookup f_law_draw = some ⟨oc_law_draw, od_law_draw, .func (PySem.W.fnOf "_law_draw" "_law_draw" (defArgs St_law_draw) (defBody St_law_draw) (defScope St_law_draw) .none kV_law_draw dc_law_draw pm_law_draw an_law_draw cd_law_draw ct_law_draw), sl_law_draw⟩)
    (c_law_draw : PySem.W.codeIn K cd_law_draw "_law_draw" = true)
    (k_law_draw : PySem.W.keepIn K (.ref f_law_draw) = true)
    (a_law_one : PySem.W.nsIn K mainGlobals "_law_one" = some (some (.ref f_law_one)))
    (l_law_one : K.lookup f_law_one = some ⟨oc_law_one, od_law_one, .func (PySem.W.fnOf "_law_one" "_law_one" (defArgs St_law_one) (defBody St_law_one) (defScope St_law_one) .none kV_law_one dc_law_one pm_law_one an_law_one cd_law_one ct_law_one), sl_law_one⟩)
    (c_law_one : PySem.W.codeIn K cd_law_one "_law_one" = true)
    (k_law_one : PySem.W.keepIn K (.ref f_law_one) = true)
    (a_law_odd : PySem.W.nsIn K mainGlobals "_law_odd" = some (some (.ref f_law_odd)))
    (l_law_odd : K.lookup f_law_odd = some ⟨oc_law_odd, od_law_odd, .func (PySem.W.fnOf "_law_odd" "_law_odd" (defArgs St_law_odd) (defBody St_law_odd) (defScope St_law_odd) .none kV_law_odd dc_law_odd pm_law_odd an_law_odd cd_law_odd ct_law_odd), sl_law_odd⟩)
    (c_law_odd : PySem.W.codeIn K cd_law_odd "_law_odd" = true)
    (k_law_odd : PySem.W.keepIn K (.ref f_law_odd) = true)
    (a_law_kinds : PySem.W.nsIn K mainGlobals "_law_kinds" = some (some (.ref f_law_kinds)))
    (l_law_kinds : K.lookup f_law_kinds = some ⟨oc_law_kinds, od_law_kinds, .func (PySem.W.fnOf "_law_kinds" "_law_kinds" (defArgs St_law_kinds) (defBody St_law_kinds) (defScope St_law_kinds) .none kV_law_kinds dc_law_kinds pm_law_kinds an_law_kinds cd_law_kinds ct_law_kinds), sl_law_kinds⟩)
    (c_law_kinds : PySem.W.codeIn K cd_law_kinds "_law_kinds" = true)
    (k_law_kinds : PySem.W.keepIn K (.ref f_law_kinds) = true)
    (a_law_vector : PySem.W.nsIn K mainGlobals "_law_vector" = some (some (.ref f_law_vector)))
    (l_law_vector : K.lookup f_law_vector = some ⟨oc_law_vector, od_law_vector, .func (PySem.W.fnOf "_law_vector" "_law_vector" (defArgs St_law_vector) (defBody St_law_vector) (defScope St_law_vector) .none kV_law_vector dc_law_vector pm_law_vector an_law_vector cd_law_vector ct_law_vector), sl_law_vector⟩)
    (c_law_vector : PySem.W.codeIn K cd_law_vector "_law_vector" = true)
    (k_law_vector : PySem.W.keepIn K (.ref f_law_vector) = true)
    (a_law_rule : PySem.W.nsIn K mainGlobals "_law_rule" = some (some (.ref f_law_rule)))
    (l_law_rule : K.lookup f_law_rule = some ⟨oc_law_rule, od_law_rule, .func (PySem.W.fnOf "_law_rule" "_law_rule" (defArgs St_law_rule) (defBody St_law_rule) (defScope St_law_rule) .none kV_law_rule dc_law_rule pm_law_rule an_law_rule cd_law_rule ct_law_rule), sl_law_rule⟩)
    (c_law_rule : PySem.W.codeIn K cd_law_rule "_law_rule" = true)
    (k_law_rule : PySem.W.keepIn K (.ref f_law_rule) = true)
    (a_law_flow : PySem.W.nsIn K mainGlobals "_law_flow" = some (some (.ref f_law_flow)))
    (l_law_flow : K.lookup f_law_flow = some ⟨oc_law_flow, od_law_flow, .func (PySem.W.fnOf "_law_flow" "_law_flow" (defArgs St_law_flow) (defBody St_law_flow) (defScope St_law_flow) .none kV_law_flow dc_law_flow pm_law_flow an_law_flow cd_law_flow ct_law_flow), sl_law_flow⟩)
    (c_law_flow : PySem.W.codeIn K cd_law_flow "_law_flow" = true)
    (k_law_flow : PySem.W.keepIn K (.ref f_law_flow) = true)
    (a_law_vector_text : PySem.W.nsIn K mainGlobals "_law_vector_text" = some (some (.ref f_law_vector_text)))
    (l_law_vector_text : K.lookup f_law_vector_text = some ⟨oc_law_vector_text, od_law_vector_text, .func (PySem.W.fnOf "_law_vector_text" "_law_vector_text" (defArgs St_law_vector_text) (defBody St_law_vector_text) (defScope St_law_vector_text) .none kV_law_vector_text dc_law_vector_text pm_law_vector_text an_law_vector_text cd_law_vector_text ct_law_vector_text), sl_law_vector_text⟩)
    (c_law_vector_text : PySem.W.codeIn K cd_law_vector_text "_law_vector_text" = true)
    (k_law_vector_text : PySem.W.keepIn K (.ref f_law_vector_text) = true)
    (a_law_rule_text : PySem.W.nsIn K mainGlobals "_law_rule_text" = some (some (.ref f_law_rule_text)))
    (l_law_rule_text : K.lookup f_law_rule_text = some ⟨oc_law_rule_text, od_law_rule_text, .func (PySem.W.fnOf "_law_rule_text" "_law_rule_text" (defArgs St_law_rule_text) (defBody St_law_rule_text) (defScope St_law_rule_text) .none kV_law_rule_text dc_law_rule_text pm_law_rule_text an_law_rule_text cd_law_rule_text ct_law_rule_text), sl_law_rule_text⟩)
    (c_law_rule_text : PySem.W.codeIn K cd_law_rule_text "_law_rule_text" = true)
    (k_law_rule_text : PySem.W.keepIn K (.ref f_law_rule_text) = true)
    (a_law_flow_text : PySem.W.nsIn K mainGlobals "_law_flow_text" = some (some (.ref f_law_flow_text)))
    (l_law_flow_text : K.lookup f_law_flow_text = some ⟨oc_law_flow_text, od_law_flow_text, .func (PySem.W.fnOf "_law_flow_text" "_law_flow_text" (defArgs St_law_flow_text) (defBody St_law_flow_text) (defScope St_law_flow_text) .none kV_law_flow_text dc_law_flow_text pm_law_flow_text an_law_flow_text cd_law_flow_text ct_law_flow_text), sl_law_flow_text⟩)
    (c_law_flow_text : PySem.W.codeIn K cd_law_flow_text "_law_flow_text" = true)
    (k_law_flow_text : PySem.W.keepIn K (.ref f_law_flow_text) = true)
    (a_law_number : PySem.W.nsIn K mainGlobals "_law_number" = some (some (.ref f_law_number)))
    (l_law_number : K.lookup f_law_number = some ⟨oc_law_number, od_law_number, .func (PySem.W.fnOf "_law_number" "_law_number" (defArgs St_law_number) (defBody St_law_number) (defScope St_law_number) .none kV_law_number dc_law_number pm_law_number an_law_number cd_law_number ct_law_number), sl_law_number⟩)
    (c_law_number : PySem.W.codeIn K cd_law_number "_law_number" = true)
    (k_law_number : PySem.W.keepIn K (.ref f_law_number) = true)
    (a_law_read_of : PySem.W.nsIn K mainGlobals "_law_read_of" = some (some (.ref f_law_read_of)))
    (l_law_read_of : K.lookup f_law_read_of = some ⟨oc_law_read_of, od_law_read_of, .func (PySem.W.fnOf "_law_read_of" "_law_read_of" (defArgs St_law_read_of) (defBody St_law_read_of) (defScope St_law_read_of) .none kV_law_read_of dc_law_read_of pm_law_read_of an_law_read_of cd_law_read_of ct_law_read_of), sl_law_read_of⟩)
    (c_law_read_of : PySem.W.codeIn K cd_law_read_of "_law_read_of" = true)
    (k_law_read_of : PySem.W.keepIn K (.ref f_law_read_of) = true)
    (a_law_due : PySem.W.nsIn K mainGlobals "_law_due" = some (some (.ref f_law_due)))
    (l_law_due : K.lookup f_law_due = some ⟨oc_law_due, od_law_due, .func (PySem.W.fnOf "_law_due" "_law_due" (defArgs St_law_due) (defBody St_law_due) (defScope St_law_due) .none kV_law_due dc_law_due pm_law_due an_law_due cd_law_due ct_law_due), sl_law_due⟩)
    (c_law_due : PySem.W.codeIn K cd_law_due "_law_due" = true)
    (k_law_due : PySem.W.keepIn K (.ref f_law_due) = true)
    (a_law_told : PySem.W.nsIn K mainGlobals "_law_told" = some (some (.ref f_law_told)))
    (l_law_told : K.lookup f_law_told = some ⟨oc_law_told, od_law_told, .func (PySem.W.fnOf "_law_told" "_law_told" (defArgs St_law_told) (defBody St_law_told) (defScope St_law_told) .none kV_law_told dc_law_told pm_law_told an_law_told cd_law_told ct_law_told), sl_law_told⟩)
    (c_law_told : PySem.W.codeIn K cd_law_told "_law_told" = true)
    (k_law_told : PySem.W.keepIn K (.ref f_law_told) = true)
    (a_law_changed : PySem.W.nsIn K mainGlobals "_law_changed" = some (some (.ref f_law_changed)))
    (l_law_changed : K.lookup f_law_changed = some ⟨oc_law_changed, od_law_changed, .func (PySem.W.fnOf "_law_changed" "_law_changed" (defArgs St_law_changed) (defBody St_law_changed) (defScope St_law_changed) .none kV_law_changed dc_law_changed pm_law_changed an_law_changed cd_law_changed ct_law_changed), sl_law_changed⟩)
    (c_law_changed : PySem.W.codeIn K cd_law_changed "_law_changed" = true)
    (k_law_changed : PySem.W.keepIn K (.ref f_law_changed) = true)
    (a_law : PySem.W.nsIn K mainGlobals "law" = some (some (.ref f_law)))
    (l_law : K.lookup f_law = some ⟨oc_law, od_law, .func (PySem.W.fnOf "law" "law" (defArgs St_law) (defBody St_law) (defScope St_law) .none kV_law dc_law pm_law an_law cd_law ct_law), sl_law⟩)
    (c_law : PySem.W.codeIn K cd_law "law" = true)
    (k_law : PySem.W.keepIn K (.ref f_law) = true)
    (z_abs : PySem.W.nsIn K mainGlobals "abs" = some none)
    (z_all : PySem.W.nsIn K mainGlobals "all" = some none)
    (z_bool : PySem.W.nsIn K mainGlobals "bool" = some none)
    (z_enumerate : PySem.W.nsIn K mainGlobals "enumerate" = some none)
    (z_int : PySem.W.nsIn K mainGlobals "int" = some none)
    (z_isinstance : PySem.W.nsIn K mainGlobals "isinstance" = some none)
    (z_len : PySem.W.nsIn K mainGlobals "len" = some none)
    (z_range : PySem.W.nsIn K mainGlobals "range" = some none)
    (z_repr : PySem.W.nsIn K mainGlobals "repr" = some none)
    (z_str : PySem.W.nsIn K mainGlobals "str" = some none)
    (z_tuple : PySem.W.nsIn K mainGlobals "tuple" = some none)
    (v_DIGITS : PySem.W.nsIn K mainGlobals "DIGITS" = some (some (.str "0123456789" tok_DIGITS)))
    (v_MAX_DIGITS : PySem.W.nsIn K mainGlobals "MAX_DIGITS" = some (some (.int 12 tok_MAX_DIGITS)))
    (v_MAX_DIST : PySem.W.nsIn K mainGlobals "MAX_DIST" = some (some (.int 4 tok_MAX_DIST)))
    (v_MAX_PLANES : PySem.W.nsIn K mainGlobals "MAX_PLANES" = some (some (.int 6 tok_MAX_PLANES)))
    (v_KINDS : PySem.W.nsIn K mainGlobals "KINDS" = some (some (.ref dA_KINDS)))
    (lk_KINDS : K.lookup dA_KINDS = some ⟨.type "dict", none, .dict es_KINDS n_KINDS, #[]⟩)
    (kl_KINDS : PySem.W.KeysLit w.params es_KINDS.toList)
    (en_KINDS : EntI es_KINDS.toList kv_KINDS)
    (lo_KINDS : (dA_KINDS == sysModules) = false)
    (a_BadBeats : PySem.W.nsIn K mainGlobals "BadBeats" = some (some (.ref A_BadBeats)))
    (ex_BadBeats : PySem.W.subIn K (.ref A_BadBeats) (.type "BaseException") = some true)
    (ty_BadBeats : PySem.W.typeIn K (.ref A_BadBeats) = some (.type "type"))
    (ic_BadBeats : PySem.W.isClsIn K A_BadBeats = true)
    (a_BadFlow : PySem.W.nsIn K mainGlobals "BadFlow" = some (some (.ref A_BadFlow)))
    (ex_BadFlow : PySem.W.subIn K (.ref A_BadFlow) (.type "BaseException") = some true)
    (ty_BadFlow : PySem.W.typeIn K (.ref A_BadFlow) = some (.type "type"))
    (ic_BadFlow : PySem.W.isClsIn K A_BadFlow = true)
    (a_BadOutside : PySem.W.nsIn K mainGlobals "BadOutside" = some (some (.ref A_BadOutside)))
    (ex_BadOutside : PySem.W.subIn K (.ref A_BadOutside) (.type "BaseException") = some true)
    (ty_BadOutside : PySem.W.typeIn K (.ref A_BadOutside) = some (.type "type"))
    (ic_BadOutside : PySem.W.isClsIn K A_BadOutside = true)
    (a_BadText : PySem.W.nsIn K mainGlobals "BadText" = some (some (.ref A_BadText)))
    (ex_BadText : PySem.W.subIn K (.ref A_BadText) (.type "BaseException") = some true)
    (ty_BadText : PySem.W.typeIn K (.ref A_BadText) = some (.type "type"))
    (ic_BadText : PySem.W.isClsIn K A_BadText = true)
    (a_TooLarge : PySem.W.nsIn K mainGlobals "TooLarge" = some (some (.ref A_TooLarge)))
    (ex_TooLarge : PySem.W.subIn K (.ref A_TooLarge) (.type "BaseException") = some true)
    (ty_TooLarge : PySem.W.typeIn K (.ref A_TooLarge) = some (.type "type"))
    (ic_TooLarge : PySem.W.isClsIn K A_TooLarge = true)
    (a_WireError : PySem.W.nsIn K mainGlobals "WireError" = some (some (.ref A_WireError)))
    (ex_WireError : PySem.W.subIn K (.ref A_WireError) (.type "BaseException") = some true)
    (ty_WireError : PySem.W.typeIn K (.ref A_WireError) = some (.type "type"))
    (ic_WireError : PySem.W.isClsIn K A_WireError = true)
    (x_BadFlow : K.lookup A_BadFlow = some (excClassObj nm_BadFlow qq_BadFlow A_BadFlow N_BadFlow bs_BadFlow bm_BadFlow true sn_BadFlow sub_BadFlow ab_BadFlow col_BadFlow dd_BadFlow m0_BadFlow m1_BadFlow m2_BadFlow m3_BadFlow m5_BadFlow "ValueError.__new__"))
    (r_BadFlow : PySem.HandSPX.refsVE bm_BadFlow = true)
    (sa_BadFlow : PySem.W.findIn K (.ref A_BadFlow) "__setattr__" = some (some (.builtin "object.__setattr__")))
    (ga_BadFlow : PySem.W.findIn K (.ref A_BadFlow) "__getattribute__" = some (some (.builtin "BaseException.__getattribute__")))
    (gg_BadFlow : PySem.W.findIn K (.ref A_BadFlow) "__getattr__" = some none)
    (no_BadFlow : PySem.W.findIn K (.ref A_BadFlow) "error" = some none)
    (kc_BadFlow : PySem.W.keepIn K (.ref A_BadFlow) = true)
    (hd_BadFlow : PySem.W.hasDictIn K A_BadFlow = true)
    (ii_BadFlow : PySem.W.findIn K (.ref A_BadFlow) "__init__" = some (some (.ref I_BadFlow)))
    (ti_BadFlow : PySem.W.typeIn K (.ref I_BadFlow) = some (.type "function"))
    (li_BadFlow : K.lookup I_BadFlow = some ⟨oc_BadFlow, od_BadFlow, .func (PySem.W.fnOf "__init__" "BadFlow.__init__" (defArgs In_BadFlow) (defBody In_BadFlow) (defScope In_BadFlow) .none kV_BadFlow dc_BadFlow pm_BadFlow an_BadFlow cd_BadFlow ct_BadFlow), sl_BadFlow⟩)
    (ci_BadFlow : PySem.W.codeIn K cd_BadFlow "BadFlow.__init__" = true)
    (ki_BadFlow : PySem.W.keepIn K (.ref I_BadFlow) = true)
    (x_BadText : K.lookup A_BadText = some (excClassObj nm_BadText qq_BadText A_BadText N_BadText bs_BadText bm_BadText true sn_BadText sub_BadText ab_BadText col_BadText dd_BadText m0_BadText m1_BadText m2_BadText m3_BadText m5_BadText "ValueError.__new__"))
    (r_BadText : PySem.HandSPX.refsVE bm_BadText = true)
    (sa_BadText : PySem.W.findIn K (.ref A_BadText) "__setattr__" = some (some (.builtin "object.__setattr__")))
    (ga_BadText : PySem.W.findIn K (.ref A_BadText) "__getattribute__" = some (some (.builtin "BaseException.__getattribute__")))
    (gg_BadText : PySem.W.findIn K (.ref A_BadText) "__getattr__" = some none)
    (no_BadText : PySem.W.findIn K (.ref A_BadText) "index" = some none)
    (kc_BadText : PySem.W.keepIn K (.ref A_BadText) = true)
    (hd_BadText : PySem.W.hasDictIn K A_BadText = true)
    (ii_BadText : PySem.W.findIn K (.ref A_BadText) "__init__" = some (some (.ref I_BadText)))
    (ti_BadText : PySem.W.typeIn K (.ref I_BadText) = some (.type "function"))
    (li_BadText : K.lookup I_BadText = some ⟨oc_BadText, od_BadText, .func (PySem.W.fnOf "__init__" "BadText.__init__" (defArgs In_BadText) (defBody In_BadText) (defScope In_BadText) .none kV_BadText dc_BadText pm_BadText an_BadText cd_BadText ct_BadText), sl_BadText⟩)
    (ci_BadText : PySem.W.codeIn K cd_BadText "BadText.__init__" = true)
    (ki_BadText : PySem.W.keepIn K (.ref I_BadText) = true)
    (s_BadFlow_WireError : PySem.W.subIn K (.ref A_BadFlow) (.ref A_WireError) = some true)
    (s_BadText_WireError : PySem.W.subIn K (.ref A_BadText) (.ref A_WireError) = some true)
    (on_class : PySem.W.specialIn K (.builtin "object.__class__") "__get__" = some (some (.builtin "getset_descriptor.__get__")))
    (ot_class : PySem.W.takesIn K (.builtin "object.__class__") = some true)
    (oa_BadFlow : PySem.W.findIn K (.ref A_BadFlow) "__class__" = some (some (.builtin "object.__class__")))
    (om_BadFlow : PySem.W.mroIn K A_BadFlow (.type "object") = some true)
    (q_BadFlow_BadBeats : PySem.W.kitOne K (.ref A_BadFlow) (.ref A_BadBeats) = some false)
    (q_BadFlow_BadFlow : PySem.W.kitOne K (.ref A_BadFlow) (.ref A_BadFlow) = some true)
    (q_BadFlow_BadOutside : PySem.W.kitOne K (.ref A_BadFlow) (.ref A_BadOutside) = some false)
    (q_BadFlow_BadText : PySem.W.kitOne K (.ref A_BadFlow) (.ref A_BadText) = some false)
    (q_BadFlow_TooLarge : PySem.W.kitOne K (.ref A_BadFlow) (.ref A_TooLarge) = some false)
    (oa_BadText : PySem.W.findIn K (.ref A_BadText) "__class__" = some (some (.builtin "object.__class__")))
    (om_BadText : PySem.W.mroIn K A_BadText (.type "object") = some true)
    (q_BadText_BadBeats : PySem.W.kitOne K (.ref A_BadText) (.ref A_BadBeats) = some false)
    (q_BadText_BadFlow : PySem.W.kitOne K (.ref A_BadText) (.ref A_BadFlow) = some false)
    (q_BadText_BadOutside : PySem.W.kitOne K (.ref A_BadText) (.ref A_BadOutside) = some false)
    (q_BadText_BadText : PySem.W.kitOne K (.ref A_BadText) (.ref A_BadText) = some true)
    (q_BadText_TooLarge : PySem.W.kitOne K (.ref A_BadText) (.ref A_TooLarge) = some false)
    (hF : (F_law ([Sl.no, .box true] ++ List.replicate 7 .no)).run.wp (fun d => d = .bool true) (fun _ => False)) :
    ∃ fd : FuncData, (∀ (s : Shared) (v : Value), BindsTo s fd ⟨[v], []⟩ [("_law_script", v)]) ∧ ∀ base : Heap, K.In base → base.Ns mainGlobals mg → FnG l.prog w K mg base 9 fa fd ["_law_script"] (spL K) := by
  have e := hfa.symm.trans (PySem.W.mg_of X G a_law)
  cases e
  let cad : Cad := ⟨fun x => [(("BadFlow" : Str), A_BadFlow), (("BadText" : Str), A_BadText)].lookup x, fun _ => True⟩
  have b_abs := PySem.W.mg_none_of X G z_abs
  have b_all := PySem.W.mg_none_of X G z_all
  have b_bool := PySem.W.mg_none_of X G z_bool
  have b_enumerate := PySem.W.mg_none_of X G z_enumerate
  have b_int := PySem.W.mg_none_of X G z_int
  have b_isinstance := PySem.W.mg_none_of X G z_isinstance
  have b_len := PySem.W.mg_none_of X G z_len
  have b_range := PySem.W.mg_none_of X G z_range
  have b_repr := PySem.W.mg_none_of X G z_repr
  have b_str := PySem.W.mg_none_of X G z_str
  have b_tuple := PySem.W.mg_none_of X G z_tuple
  have c_DIGITS := PySem.W.mg_of X G v_DIGITS
  have c_MAX_DIGITS := PySem.W.mg_of X G v_MAX_DIGITS
  have c_MAX_DIST := PySem.W.mg_of X G v_MAX_DIST
  have c_MAX_PLANES := PySem.W.mg_of X G v_MAX_PLANES
  have k_KINDS := PySem.W.mg_of X G v_KINDS
  have K_KINDS : KdI K w dA_KINDS kv_KINDS := ⟨⟨_, _, lk_KINDS, kl_KINDS, en_KINDS⟩, lo_KINDS⟩
  refine ⟨PySem.W.fnOf "law" "law" (defArgs St_law) (defBody St_law) (defScope St_law) .none kV_law dc_law pm_law an_law cd_law ct_law, fun s v => .of_eq rfl, fun base _ _ => ?_⟩
  have n_BadBeats := PySem.W.mg_of X G a_BadBeats
  have n_BadFlow := PySem.W.mg_of X G a_BadFlow
  have n_BadOutside := PySem.W.mg_of X G a_BadOutside
  have n_BadText := PySem.W.mg_of X G a_BadText
  have n_TooLarge := PySem.W.mg_of X G a_TooLarge
  have n_WireError := PySem.W.mg_of X G a_WireError
  have hq : ∀ y C, cad y = some C → ExcQ K C := look_all (l := [(("BadFlow" : Str), A_BadFlow), (("BadText" : Str), A_BadText)]) (by
    intro p hp
    simp only [List.mem_cons, List.mem_nil_iff, or_false, List.not_mem_nil] at hp
    rcases hp with rfl | rfl
    · exact ⟨ic_BadFlow, ga_BadFlow, gg_BadFlow, ex_BadFlow, oa_BadFlow, on_class, ot_class, om_BadFlow⟩
    · exact ⟨ic_BadText, ga_BadText, gg_BadText, ex_BadText, oa_BadText, on_class, ot_class, om_BadText⟩)
  have hk_BadFlow : ∀ y C b, cad y = some C → is_BadFlow y = some b → PySem.W.kitOne K (.ref C) (.ref A_BadFlow) = some b := cm_gen (l := [(("BadFlow" : Str), A_BadFlow, true), (("BadText" : Str), A_BadText, false)]) (P := fun C b => PySem.W.kitOne K (.ref C) (.ref A_BadFlow) = some b) (by
    intro p hp
    simp only [List.mem_cons, List.mem_nil_iff, or_false, List.not_mem_nil] at hp
    rcases hp with rfl | rfl
    · exact q_BadFlow_BadFlow
    · exact q_BadText_BadFlow)
  have hk_BadFlow_BadBeats_TooLarge : ∀ y C b, cad y = some C → is_BadFlow_BadBeats_TooLarge y = some b → PySem.W.kitAny K (.ref C) [.ref A_BadFlow, .ref A_BadBeats, .ref A_TooLarge] = some b := cm_gen (l := [(("BadFlow" : Str), A_BadFlow, true), (("BadText" : Str), A_BadText, false)]) (P := fun C b => PySem.W.kitAny K (.ref C) [.ref A_BadFlow, .ref A_BadBeats, .ref A_TooLarge] = some b) (by
    intro p hp
    simp only [List.mem_cons, List.mem_nil_iff, or_false, List.not_mem_nil] at hp
    rcases hp with rfl | rfl
    · simp [PySem.W.kitAny, q_BadFlow_BadFlow, q_BadFlow_BadBeats, q_BadFlow_TooLarge]
    · simp [PySem.W.kitAny, q_BadText_BadFlow, q_BadText_BadBeats, q_BadText_TooLarge])
  have hk_BadText : ∀ y C b, cad y = some C → is_BadText y = some b → PySem.W.kitOne K (.ref C) (.ref A_BadText) = some b := cm_gen (l := [(("BadFlow" : Str), A_BadFlow, false), (("BadText" : Str), A_BadText, true)]) (P := fun C b => PySem.W.kitOne K (.ref C) (.ref A_BadText) = some b) (by
    intro p hp
    simp only [List.mem_cons, List.mem_nil_iff, or_false, List.not_mem_nil] at hp
    rcases hp with rfl | rfl
    · exact q_BadFlow_BadText
    · exact q_BadText_BadText)
  have hk_BadText_BadOutside : ∀ y C b, cad y = some C → is_BadText_BadOutside y = some b → PySem.W.kitAny K (.ref C) [.ref A_BadText, .ref A_BadOutside] = some b := cm_gen (l := [(("BadFlow" : Str), A_BadFlow, false), (("BadText" : Str), A_BadText, true)]) (P := fun C b => PySem.W.kitAny K (.ref C) [.ref A_BadText, .ref A_BadOutside] = some b) (by
    intro p hp
    simp only [List.mem_cons, List.mem_nil_iff, or_false, List.not_mem_nil] at hp
    rcases hp with rfl | rfl
    · simp [PySem.W.kitAny, q_BadFlow_BadText, q_BadFlow_BadOutside]
    · simp [PySem.W.kitAny, q_BadText_BadText, q_BadText_BadOutside])
  have oe_BadFlow : OexC K A_BadFlow := ⟨⟨_, _, _, _, _, _, _, _, _, _, _, _, _, _, _, x_BadFlow, r_BadFlow⟩, sa_BadFlow, ex_BadFlow, ty_BadFlow, kc_BadFlow⟩
  have xf_BadFlow : XfC K A_BadFlow := ⟨ga_BadFlow, gg_BadFlow, ex_BadFlow, hd_BadFlow⟩
  have Fi_BadFlow := fun_mk (st := In_BadFlow) li_BadFlow ci_BadFlow ki_BadFlow
  have E_BadFlow : Err1 l.prog w K mg base cad "BadFlow" "error" := ⟨_, _, _, _, ⟨oe_BadFlow, xf_BadFlow, PySem.W.mg_of X G a_BadFlow, ii_BadFlow, ti_BadFlow⟩, (show List.lookup ("BadFlow" : Str) [(("BadFlow" : Str), A_BadFlow), (("BadText" : Str), A_BadText)] = some A_BadFlow from look1), init1_ok Fi_BadFlow si_BadFlow rfl oe_BadFlow no_BadFlow (fun X h1 h2 => pv 0 (by rw [h1]; rfl) (by rw [h2]; exact .inl rfl)) (fun X h1 h2 => pv 1 (by rw [h1]; rfl) (by rw [h2]; exact .inl rfl)), Fi_BadFlow.binds fun _ _ _ _ _ _ us hl => match us, hl with | [_, _], _ => rfl, no_BadFlow⟩
  have oe_BadText : OexC K A_BadText := ⟨⟨_, _, _, _, _, _, _, _, _, _, _, _, _, _, _, x_BadText, r_BadText⟩, sa_BadText, ex_BadText, ty_BadText, kc_BadText⟩
  have xf_BadText : XfC K A_BadText := ⟨ga_BadText, gg_BadText, ex_BadText, hd_BadText⟩
  have Fi_BadText := fun_mk (st := In_BadText) li_BadText ci_BadText ki_BadText
  have E_BadText : Err1 l.prog w K mg base cad "BadText" "index" := ⟨_, _, _, _, ⟨oe_BadText, xf_BadText, PySem.W.mg_of X G a_BadText, ii_BadText, ti_BadText⟩, (show List.lookup ("BadText" : Str) [(("BadFlow" : Str), A_BadFlow), (("BadText" : Str), A_BadText)] = some A_BadText from (look2 (by decide +kernel) look1)), init1_ok Fi_BadText si_BadText rfl oe_BadText no_BadText (fun X h1 h2 => pv 0 (by rw [h1]; rfl) (by rw [h2]; exact .inl rfl)) (fun X h1 h2 => pv 1 (by rw [h1]; rfl) (by rw [h2]; exact .inl rfl)), Fi_BadText.binds fun _ _ _ _ _ _ us hl => match us, hl with | [_, _], _ => rfl, no_BadText⟩
  have X_BadFlow : Caught K mg cad "BadFlow" "error" A_BadFlow := ⟨PySem.W.mg_of X G a_BadFlow, xf_BadFlow, no_BadFlow, (show List.lookup ("BadFlow" : Str) [(("BadFlow" : Str), A_BadFlow), (("BadText" : Str), A_BadText)] = some A_BadFlow from look1)⟩
  have X_BadText : Caught K mg cad "BadText" "index" A_BadText := ⟨PySem.W.mg_of X G a_BadText, xf_BadText, no_BadText, (show List.lookup ("BadText" : Str) [(("BadFlow" : Str), A_BadFlow), (("BadText" : Str), A_BadText)] = some A_BadText from (look2 (by decide +kernel) look1))⟩
  have hcm_WireError : ∀ x C b, cad x = some C → cm_WireError x = some b → PySem.W.exmOne K (.ref C) (.ref A_WireError) = some b := cm_of (l := [(("BadFlow" : Str), A_BadFlow, true), (("BadText" : Str), A_BadText, true)]) (by
    intro p hp
    simp only [List.mem_cons, List.mem_nil_iff, or_false, List.not_mem_nil] at hp
    rcases hp with rfl | rfl
    · exact exm_by ex_WireError ic_WireError ty_WireError s_BadFlow_WireError
    · exact exm_by ex_WireError ic_WireError ty_WireError s_BadText_WireError)
  have Fu_is_within := fun_mk (st := St_is_within) l_is_within c_is_within k_is_within
  have B_is_within : Binds K _ ["value", "low", "high"] [] := Fu_is_within.binds fun _ _ _ _ _ _ us hl => match us, hl with | [_, _, _], _ => rfl
  have C_is_within : Cal l.prog w K mg base cad "is_within" 2 3 m_is_within := ⟨_, _, _, ok_is_within Fu_is_within b_isinstance b_int b_bool, PySem.W.mg_of X G a_is_within, Fu_is_within.kp, B_is_within⟩
  have Fu_is_tuple_of := fun_mk (st := St_is_tuple_of) l_is_tuple_of c_is_tuple_of k_is_tuple_of
  have B_is_tuple_of : Binds K _ ["many", "value"] [] := Fu_is_tuple_of.binds fun _ _ _ _ _ _ us hl => match us, hl with | [_, _], _ => rfl
  have C_is_tuple_of : Cal l.prog w K mg base cad "is_tuple_of" 2 2 m_is_tuple_of := ⟨_, _, _, ok_is_tuple_of Fu_is_tuple_of b_isinstance b_tuple b_len, PySem.W.mg_of X G a_is_tuple_of, Fu_is_tuple_of.kp, B_is_tuple_of⟩
  have Fu_is_bounded := fun_mk (st := St_is_bounded) l_is_bounded c_is_bounded k_is_bounded
  have B_is_bounded : Binds K _ ["dims", "value", "most"] [] := Fu_is_bounded.binds fun _ _ _ _ _ _ us hl => match us, hl with | [_, _, _], _ => rfl
  have C_is_bounded : Cal l.prog w K mg base cad "is_bounded" 3 3 m_is_bounded := ⟨_, _, _, ok_is_bounded Fu_is_bounded C_is_within b_isinstance b_tuple b_len, PySem.W.mg_of X G a_is_bounded, Fu_is_bounded.kp, B_is_bounded⟩
  have Fu_has_form := fun_mk (st := St_has_form) l_has_form c_has_form k_has_form
  have B_has_form : Binds K _ ["rule"] [] := Fu_has_form.binds fun _ _ _ _ _ _ us hl => match us, hl with | [_], _ => rfl
  have C_has_form : Cal l.prog w K mg base cad "has_form" 2 1 m_has_form := ⟨_, _, _, ok_has_form Fu_has_form b_isinstance b_tuple b_str b_len K_KINDS k_KINDS, PySem.W.mg_of X G a_has_form, Fu_has_form.kp, B_has_form⟩
  have Fu_are_rules := fun_mk (st := St_are_rules) l_are_rules c_are_rules k_are_rules
  have B_are_rules : Binds K _ ["value"] [] := Fu_are_rules.binds fun _ _ _ _ _ _ us hl => match us, hl with | [_], _ => rfl
  have C_are_rules : Cal l.prog w K mg base cad "are_rules" 2 1 m_are_rules := ⟨_, _, _, ok_are_rules Fu_are_rules b_isinstance b_tuple b_len c_MAX_PLANES, PySem.W.mg_of X G a_are_rules, Fu_are_rules.kp, B_are_rules⟩
  have Fu_read_error := fun_mk (st := St_read_error) l_read_error c_read_error k_read_error
  have B_read_error : Binds K _ ["dims", "planes", "value"] [] := Fu_read_error.binds fun _ _ _ _ _ _ us hl => match us, hl with | [_, _, _], _ => rfl
  have C_read_error : Cal l.prog w K mg base cad "read_error" 4 3 m_read_error := ⟨_, _, _, ok_read_error Fu_read_error C_is_tuple_of C_is_within C_is_bounded c_MAX_DIST, PySem.W.mg_of X G a_read_error, Fu_read_error.kp, B_read_error⟩
  have Fu_rule_error := fun_mk (st := St_rule_error) l_rule_error c_rule_error k_rule_error
  have B_rule_error : Binds K _ ["dims", "planes", "value"] [] := Fu_rule_error.binds fun _ _ _ _ _ _ us hl => match us, hl with | [_, _, _], _ => rfl
  have C_rule_error : Cal l.prog w K mg base cad "rule_error" 5 3 m_rule_error := ⟨_, _, _, ok_rule_error Fu_rule_error C_has_form C_read_error b_enumerate, PySem.W.mg_of X G a_rule_error, Fu_rule_error.kp, B_rule_error⟩
  have Fu_flow_error := fun_mk (st := St_flow_error) l_flow_error c_flow_error k_flow_error
  have B_flow_error : Binds K _ ["value"] [] := Fu_flow_error.binds fun _ _ _ _ _ _ us hl => match us, hl with | [_], _ => rfl
  have C_flow_error : Cal l.prog w K mg base cad "flow_error" 6 1 m_flow_error := ⟨_, _, _, ok_flow_error Fu_flow_error C_is_tuple_of C_is_within C_are_rules C_rule_error b_enumerate b_len, PySem.W.mg_of X G a_flow_error, Fu_flow_error.kp, B_flow_error⟩
  have Fu_parse_integer := fun_mk (st := St_parse_integer) l_parse_integer c_parse_integer k_parse_integer
  have B_parse_integer : Binds K _ ["text"] [] := Fu_parse_integer.binds fun _ _ _ _ _ _ us hl => match us, hl with | [_], _ => rfl
  have C_parse_integer : Cal l.prog w K mg base cad "parse_integer" 2 1 m_parse_integer := ⟨_, _, _, ok_parse_integer Fu_parse_integer b_len b_all b_int b_str c_MAX_DIGITS c_DIGITS, PySem.W.mg_of X G a_parse_integer, Fu_parse_integer.kp, B_parse_integer⟩
  have Fu_parse_vector := fun_mk (st := St_parse_vector) l_parse_vector c_parse_vector k_parse_vector
  have B_parse_vector : Binds K _ ["dims", "text"] [] := Fu_parse_vector.binds fun _ _ _ _ _ _ us hl => match us, hl with | [_, _], _ => rfl
  have C_parse_vector : Cal l.prog w K mg base cad "parse_vector" 3 2 m_parse_vector := ⟨_, _, _, ok_parse_vector Fu_parse_vector C_parse_integer b_len b_tuple, PySem.W.mg_of X G a_parse_vector, Fu_parse_vector.kp, B_parse_vector⟩
  have Fu_parse_read := fun_mk (st := St_parse_read) l_parse_read c_parse_read k_parse_read
  have B_parse_read : Binds K _ ["dims", "text"] [] := Fu_parse_read.binds fun _ _ _ _ _ _ us hl => match us, hl with | [_, _], _ => rfl
  have C_parse_read : Cal l.prog w K mg base cad "parse_read" 4 2 m_parse_read := ⟨_, _, _, ok_parse_read Fu_parse_read C_parse_integer C_parse_vector b_len, PySem.W.mg_of X G a_parse_read, Fu_parse_read.kp, B_parse_read⟩
  have Fu_parse_rule := fun_mk (st := St_parse_rule) l_parse_rule c_parse_rule k_parse_rule
  have B_parse_rule : Binds K _ ["dims", "words", "at"] [] := Fu_parse_rule.binds fun _ _ _ _ _ _ us hl => match us, hl with | [_, _, _], _ => rfl
  have C_parse_rule : Cal l.prog w K mg base cad "parse_rule" 5 3 m_parse_rule := ⟨_, _, _, ok_parse_rule Fu_parse_rule C_parse_read b_len b_range b_tuple K_KINDS k_KINDS E_BadText, PySem.W.mg_of X G a_parse_rule, Fu_parse_rule.kp, B_parse_rule⟩
  have Fu_parse_flow := fun_mk (st := St_parse_flow) l_parse_flow c_parse_flow k_parse_flow
  have B_parse_flow : Binds K _ ["value"] [] := Fu_parse_flow.binds fun _ _ _ _ _ _ us hl => match us, hl with | [_], _ => rfl
  have C_parse_flow : Cal l.prog w K mg base cad "parse_flow" 7 1 m_parse_flow := ⟨_, _, _, ok_parse_flow Fu_parse_flow C_parse_rule C_flow_error b_isinstance b_str b_int b_len b_tuple E_BadText E_BadFlow, PySem.W.mg_of X G a_parse_flow, Fu_parse_flow.kp, B_parse_flow⟩
  have Fu_law_opened := fun_mk (st := St_law_opened) l_law_opened c_law_opened k_law_opened
  have B_law_opened : Binds K _ ["_law_script"] [] := Fu_law_opened.binds fun _ _ _ _ _ _ us hl => match us, hl with | [_], _ => rfl
  have Fu_law_draw := fun_mk (st := St_law_draw) l_law_draw c_law_draw k_law_draw
  have B_law_draw : Binds K _ ["_law_box", "_law_many"] [] := Fu_law_draw.binds fun _ _ _ _ _ _ us hl => match us, hl with | [_, _], _ => rfl
  have C_law_draw : Cal l.prog w K mg base cad "_law_draw" 1 2 mDraw := ⟨_, _, _, ok_law_draw Fu_law_draw b_int b_len, PySem.W.mg_of X G a_law_draw, Fu_law_draw.kp, B_law_draw⟩
  have Fu_law_one := fun_mk (st := St_law_one) l_law_one c_law_one k_law_one
  have B_law_one : Binds K _ ["_law_box", "_law_items"] [] := Fu_law_one.binds fun _ _ _ _ _ _ us hl => match us, hl with | [_, _], _ => rfl
  have C_law_one : Cal l.prog w K mg base cad "_law_one" 2 2 m_law_one := ⟨_, _, _, ok_law_one Fu_law_one C_law_draw b_len, PySem.W.mg_of X G a_law_one, Fu_law_one.kp, B_law_one⟩
  have Fu_law_odd := fun_mk (st := St_law_odd) l_law_odd c_law_odd k_law_odd
  have B_law_odd : Binds K _ ["_law_box"] [] := Fu_law_odd.binds fun _ _ _ _ _ _ us hl => match us, hl with | [_], _ => rfl
  have C_law_odd : Cal l.prog w K mg base cad "_law_odd" 3 1 m_law_odd := ⟨_, _, _, ok_law_odd Fu_law_odd C_law_one, PySem.W.mg_of X G a_law_odd, Fu_law_odd.kp, B_law_odd⟩
  have Fu_law_kinds := fun_mk (st := St_law_kinds) l_law_kinds c_law_kinds k_law_kinds
  have B_law_kinds : Binds K _ [] [] := Fu_law_kinds.binds fun _ _ _ _ _ _ us hl => match us, hl with | [], _ => rfl
  have C_law_kinds : Cal l.prog w K mg base cad "_law_kinds" 2 0 m_law_kinds := ⟨_, _, _, ok_law_kinds Fu_law_kinds , PySem.W.mg_of X G a_law_kinds, Fu_law_kinds.kp, B_law_kinds⟩
  have Fu_law_vector := fun_mk (st := St_law_vector) l_law_vector c_law_vector k_law_vector
  have B_law_vector : Binds K _ ["_law_box", "_law_dims", "_law_most"] [] := Fu_law_vector.binds fun _ _ _ _ _ _ us hl => match us, hl with | [_, _, _], _ => rfl
  have C_law_vector : Cal l.prog w K mg base cad "_law_vector" 2 3 m_law_vector := ⟨_, _, _, ok_law_vector Fu_law_vector C_law_draw b_tuple b_range, PySem.W.mg_of X G a_law_vector, Fu_law_vector.kp, B_law_vector⟩
  have Fu_law_rule := fun_mk (st := St_law_rule) l_law_rule c_law_rule k_law_rule
  have B_law_rule : Binds K _ ["_law_box", "_law_dims", "_law_many"] [] := Fu_law_rule.binds fun _ _ _ _ _ _ us hl => match us, hl with | [_, _, _], _ => rfl
  have C_law_rule : Cal l.prog w K mg base cad "_law_rule" 3 3 m_law_rule := ⟨_, _, _, ok_law_rule Fu_law_rule C_law_one C_law_kinds C_law_vector C_law_draw b_tuple b_range, PySem.W.mg_of X G a_law_rule, Fu_law_rule.kp, B_law_rule⟩
  have Fu_law_flow := fun_mk (st := St_law_flow) l_law_flow c_law_flow k_law_flow
  have B_law_flow : Binds K _ ["_law_box"] [] := Fu_law_flow.binds fun _ _ _ _ _ _ us hl => match us, hl with | [_], _ => rfl
  have C_law_flow : Cal l.prog w K mg base cad "_law_flow" 4 1 m_law_flow := ⟨_, _, _, ok_law_flow Fu_law_flow C_law_draw C_law_rule b_tuple b_range, PySem.W.mg_of X G a_law_flow, Fu_law_flow.kp, B_law_flow⟩
  have Fu_law_vector_text := fun_mk (st := St_law_vector_text) l_law_vector_text c_law_vector_text k_law_vector_text
  have B_law_vector_text : Binds K _ ["_law_vector_here"] [] := Fu_law_vector_text.binds fun _ _ _ _ _ _ us hl => match us, hl with | [_], _ => rfl
  have C_law_vector_text : Cal l.prog w K mg base cad "_law_vector_text" 2 1 m_law_vector_text := ⟨_, _, _, ok_law_vector_text Fu_law_vector_text b_str, PySem.W.mg_of X G a_law_vector_text, Fu_law_vector_text.kp, B_law_vector_text⟩
  have Fu_law_rule_text := fun_mk (st := St_law_rule_text) l_law_rule_text c_law_rule_text k_law_rule_text
  have B_law_rule_text : Binds K _ ["_law_rule_here"] [] := Fu_law_rule_text.binds fun _ _ _ _ _ _ us hl => match us, hl with | [_], _ => rfl
  have C_law_rule_text : Cal l.prog w K mg base cad "_law_rule_text" 3 1 m_law_rule_text := ⟨_, _, _, ok_law_rule_text Fu_law_rule_text C_law_vector_text b_str, PySem.W.mg_of X G a_law_rule_text, Fu_law_rule_text.kp, B_law_rule_text⟩
  have Fu_law_flow_text := fun_mk (st := St_law_flow_text) l_law_flow_text c_law_flow_text k_law_flow_text
  have B_law_flow_text : Binds K _ ["_law_flow_here"] [] := Fu_law_flow_text.binds fun _ _ _ _ _ _ us hl => match us, hl with | [_], _ => rfl
  have C_law_flow_text : Cal l.prog w K mg base cad "_law_flow_text" 4 1 m_law_flow_text := ⟨_, _, _, ok_law_flow_text Fu_law_flow_text C_law_rule_text b_str, PySem.W.mg_of X G a_law_flow_text, Fu_law_flow_text.kp, B_law_flow_text⟩
  have Fu_law_number := fun_mk (st := St_law_number) l_law_number c_law_number k_law_number
  have B_law_number : Binds K _ ["_law_text"] [] := Fu_law_number.binds fun _ _ _ _ _ _ us hl => match us, hl with | [_], _ => rfl
  have C_law_number : Cal l.prog w K mg base cad "_law_number" 2 1 m_law_number := ⟨_, _, _, ok_law_number Fu_law_number b_len b_int, PySem.W.mg_of X G a_law_number, Fu_law_number.kp, B_law_number⟩
  have Fu_law_read_of := fun_mk (st := St_law_read_of) l_law_read_of c_law_read_of k_law_read_of
  have B_law_read_of : Binds K _ ["_law_dims", "_law_word"] [] := Fu_law_read_of.binds fun _ _ _ _ _ _ us hl => match us, hl with | [_, _], _ => rfl
  have C_law_read_of : Cal l.prog w K mg base cad "_law_read_of" 3 2 m_law_read_of := ⟨_, _, _, ok_law_read_of Fu_law_read_of C_law_number b_len b_tuple, PySem.W.mg_of X G a_law_read_of, Fu_law_read_of.kp, B_law_read_of⟩
  have Fu_law_due := fun_mk (st := St_law_due) l_law_due c_law_due k_law_due
  have B_law_due : Binds K _ ["_law_value"] [] := Fu_law_due.binds fun _ _ _ _ _ _ us hl => match us, hl with | [_], _ => rfl
  have C_law_due : Cal l.prog w K mg base cad "_law_due" 7 1 m_law_due := ⟨_, _, _, ok_law_due Fu_law_due C_law_kinds C_law_read_of C_flow_error b_isinstance b_str b_int b_len b_range b_tuple, PySem.W.mg_of X G a_law_due, Fu_law_due.kp, B_law_due⟩
  have Fu_law_told := fun_mk (st := St_law_told) l_law_told c_law_told k_law_told
  have B_law_told : Binds K _ ["_law_value"] [] := Fu_law_told.binds fun _ _ _ _ _ _ us hl => match us, hl with | [_], _ => rfl
  have C_law_told : Cal l.prog w K mg base cad "_law_told" 8 1 m_law_told := ⟨_, _, _, ok_law_told Fu_law_told C_parse_flow b_isinstance n_WireError hcm_WireError n_BadText n_BadFlow n_BadBeats n_TooLarge n_BadOutside hq hk_BadText hk_BadFlow_BadBeats_TooLarge hk_BadFlow hk_BadText_BadOutside X_BadText X_BadFlow, PySem.W.mg_of X G a_law_told, Fu_law_told.kp, B_law_told⟩
  have Fu_law_changed := fun_mk (st := St_law_changed) l_law_changed c_law_changed k_law_changed
  have B_law_changed : Binds K _ ["_law_box", "_law_text"] [] := Fu_law_changed.binds fun _ _ _ _ _ _ us hl => match us, hl with | [_, _], _ => rfl
  have C_law_changed : Cal l.prog w K mg base cad "_law_changed" 3 2 m_law_changed := ⟨_, _, _, ok_law_changed Fu_law_changed C_law_draw C_law_one b_len b_int, PySem.W.mg_of X G a_law_changed, Fu_law_changed.kp, B_law_changed⟩
  have Fu_law := fun_mk (st := St_law) l_law c_law k_law
  exact ok_law Fu_law (ok_law_opened (cad := cad) Fu_law_opened b_int b_abs) (PySem.W.mg_of X G a_law_opened) Fu_law_opened.kp B_law_opened C_law_flow_text C_law_flow C_law_odd C_law_changed C_law_due C_law_told b_range b_repr (fun _ _ _ _ => trivial) hF
end Wk12
set_option Elab.async false
set_option linter.all false
set_option maxRecDepth 100000
set_option maxHeartbeats 4000000
namespace Wk12
open PySem PySem.Spec PyProof.Rows L2 Wb
theorem is_within_eq (v : D) (lo hi : Int) : m_is_within [.d v, .d (.int lo), .d (.int hi)] = .ret (.bool (Wb.inR lo hi v)) := by
  cases v with
  | int i => simp [m_is_within, F_is_within, Wb.inR]
  | _ => with_unfolding_all rfl
def tupB (n : Int) : D → Bool
  | .tuple xs => decide ((xs.length : Int) = n)
  | _ => false
theorem tuple_of_eq (v : D) (n : Int) : m_is_tuple_of [.d (.int n), .d v] = .ret (.bool (tupB n v)) := by
  cases v with
  | tuple xs => simp [m_is_tuple_of, F_is_tuple_of, eq_ints, tupB]
  | _ => with_unfolding_all rfl
/-! ### vectors with bounds -/
theorem is_bounded_eq (v : D) (n m : Int) (hn : n ≤ 1000) : m_is_bounded [.d (.int n), .d v, .d (.int m)] = .ret (.bool (Wb.okv n m v)) := by
  cases v with
  | tuple xs =>
    have k := bnd_go is_within_eq (n := .int n) (v := .tuple xs) (m := m) xs .no
    have eb : B0_is_bounded = (sIf (eUn oNot (eCall 3 m_is_within (aCons (eV 3) (aCons (eUn oNeg (eV 2)) (aCons (eV 2) aNil))))) (sRet (eC (.bool false))) sNil) := rfl
    rw [← eb] at k
    by_cases e : (xs.length : Int) = n
    · cases hb : xs.all (Wb.inR (-m) m) with
      | true =>
        obtain ⟨s', h⟩ := k.1 hb
        simp [m_is_bounded, F_is_bounded, ne_ints, e, h, hb, Wb.okv]
      | false => simp [m_is_bounded, F_is_bounded, ne_ints, e, k.2 hb, hb, Wb.okv]
    · simp [m_is_bounded, F_is_bounded, ne_ints, e, Wb.okv]
  | _ => with_unfolding_all rfl
/-! ### the form of a rule -/
def kindN : D → Option Int
  | .str z => kv_KINDS.lookup z
  | _ => none
def formB : D → Bool
  | .tuple (x :: xs) => match kindN x with
    | some n => decide ((xs.length : Int) = n)
    | none => false
  | _ => false
theorem has_form_eq (v : D) : m_has_form [.d v] = .ret (.bool (formB v)) := by
  cases v with
  | tuple xs =>
    cases xs with
    | nil => with_unfolding_all rfl
    | cons x xs =>
      have ix : oIx (.tuple (x :: xs)) (.int 0) = .ret x := ixT_at (j := 0) (by simp)
      cases x with
      | str z =>
        cases e : kv_KINDS.lookup z with
        | none => simp [m_has_form, F_has_form, ix, e, formB, kindN]
        | some n =>
          have e2 : decide ((xs.length : Int) + 1 = 1 + n) = decide ((xs.length : Int) = n) := by
            by_cases h : (xs.length : Int) = n
            · rw [decide_eq_true h, decide_eq_true (by omega)]
            · rw [decide_eq_false h, decide_eq_false (by omega)]
          simp [m_has_form, F_has_form, ix, e, formB, kindN, eq_ints, e2]
      | _ => simp [m_has_form, F_has_form, ix, formB, kindN]
  | _ => with_unfolding_all rfl
/-! ### reads -/
def readW (dims planes : Int) (v : D) : Option Str := if tupB 2 v = true then (match v with
  | .tuple [s, d] => if Wb.inR 0 (planes - 1) s = true then (if Wb.okv dims 4 d = true then none else some "distance") else some "source"
  | _ => none) else some "read"
def strD : Option Str → D
  | none => .none
  | some w => .str w
theorem read_error_eq (dims planes : Int) (v : D) (hd : dims ≤ 1000) : m_read_error [.d (.int dims), .d (.int planes), .d v] = .ret (strD (readW dims planes v)) := by
  have h := tuple_of_eq v 2
  cases hb : tupB 2 v with
  | false =>
    rw [hb] at h
    simp [m_read_error, F_read_error, h, readW, hb, strD]
  | true =>
    rw [hb] at h
    cases v with
    | tuple xs =>
      simp only [tupB] at hb
      match xs, hb, h with
      | [s, d], hb, h =>
        have h1 := is_within_eq s 0 (planes - 1)
        have h2 := is_bounded_eq d dims 4 hd
        have hb' : tupB 2 (.tuple [s, d]) = true := hb
        cases c1 : Wb.inR 0 (planes - 1) s with
        | false =>
          rw [c1] at h1
          simp [m_read_error, F_read_error, h, h1, readW, hb', c1, strD]
        | true =>
          rw [c1] at h1
          cases c2 : Wb.okv dims 4 d with
          | false =>
            rw [c2] at h2
            simp [m_read_error, F_read_error, h, h1, h2, readW, hb', c1, c2, strD]
          | true =>
            rw [c2] at h2
            simp [m_read_error, F_read_error, h, h1, h2, readW, hb', c1, c2, strD]
      | [], hb, _ => simp at hb
      | [_], hb, _ => simp at hb
      | _ :: _ :: _ :: r, hb, _ =>
        have := of_decide_eq_true hb
        simp only [List.length_cons] at this
        omega
    | _ => cases hb
/-! ### rules -/
def ruleGo (dims planes : Int) : Nat → List D → Option (Nat × Str)
  | _, [] => none
  | i, r :: rs => match readW dims planes r with
    | none => ruleGo dims planes (i + 1) rs
    | some w => some (i, w)
def goD : Option (Nat × Str) → Option D
  | none => none
  | some (i, w) => some (.tuple [.int (i : Nat), .str w])
theorem rule_step (dims planes : Int) (v : D) (hd : dims ≤ 1000) (i d : D) (s5 : Sl) : B0_rule_error [.d (.int dims), .d (.int planes), .d v, .d i, .d d, s5] = .ret (match readW dims planes d with
    | none => .nx [.d (.int dims), .d (.int planes), .d v, .d i, .d d, .d .none]
    | some w => .ret (.tuple [i, .str w])) := by
  have e := read_error_eq dims planes d hd
  cases hr : readW dims planes d with
  | none =>
    rw [hr] at e
    simp [B0_rule_error, e, strD]
  | some w =>
    rw [hr] at e
    simp [B0_rule_error, e, strD]
theorem rule_go (dims planes : Int) (v : D) (hd : dims ≤ 1000) : ∀ (rs : List D) (i : Nat) (s3 s4 s5 : Sl), ∃ t3 t4 t5,
    forGo (bTup [3, 4]) B0_rule_error (numD i rs) [.d (.int dims), .d (.int planes), .d v, s3, s4, s5] = .ret (match goD (ruleGo dims planes i rs) with
      | none => .nx [.d (.int dims), .d (.int planes), .d v, t3, t4, t5]
      | some e => .ret e)
  | [], i, s3, s4, s5 => ⟨s3, s4, s5, rfl⟩
  | d :: r, i, s3, s4, s5 => by
    have e := rule_step dims planes v hd (.int (i : Nat)) d s5
    unfold numD
    unfold forGo
    cases hr : readW dims planes d with
    | none =>
      obtain ⟨t3, t4, t5, ih⟩ := rule_go dims planes v hd r (i + 1) (.d (.int (i : Nat))) (.d d) (.d .none)
      refine ⟨t3, t4, t5, ?_⟩
      rw [hr] at e
      simp [e, ruleGo, hr, ih]
    | some w =>
      refine ⟨s3, s4, s5, ?_⟩
      rw [hr] at e
      simp [e, ruleGo, hr, goD]
def ruleE (dims planes : Int) (v : D) : Option (Option Nat × Str) := if formB v = true then (match v with
  | .tuple (_ :: rs) => (ruleGo dims planes 0 rs).map fun p => (some p.1, p.2)
  | _ => none) else some (none, "rule")
def natD : Option Nat → D
  | none => .none
  | some i => .int (i : Nat)
def rd : Option (Option Nat × Str) → D
  | none => .none
  | some p => .tuple [natD p.1, .str p.2]
theorem rule_error_eq (dims planes : Int) (v : D) (hd : dims ≤ 1000) : m_rule_error [.d (.int dims), .d (.int planes), .d v] = .ret (rd (ruleE dims planes v)) := by
  have h := has_form_eq v
  cases hb : formB v with
  | false =>
    rw [hb] at h
    simp [m_rule_error, F_rule_error, h, ruleE, hb, rd, natD]
  | true =>
    rw [hb] at h
    cases v with
    | tuple xs =>
      cases xs with
      | nil => cases hb
      | cons x rs =>
        obtain ⟨t3, t4, t5, e⟩ := rule_go dims planes (.tuple (x :: rs)) hd rs 0 .no .no .no
        have en : oEnum [.d (.tuple rs)] = .ret (numD 0 rs) := rfl
        have ec : cutD (x :: rs) (some 1) none = rs := by
          have := cutD_suf (xs := x :: rs) (j := 1) (by simp)
          simpa using this
        simp [m_rule_error, F_rule_error, h, ruleE, hb, en, e, ec]
        cases ruleGo dims planes 0 rs with
        | none => simp [goD, rd]
        | some p => simp [goD, rd, natD]
    | _ => cases hb
end Wk12
set_option Elab.async false
set_option linter.all false
set_option maxRecDepth 100000
set_option maxHeartbeats 4000000
namespace Wk12
open PySem PySem.Spec PyProof.Rows L2 Wb
/-! ### flows -/
def fd (i : Nat) (p : Option Nat × Str) : D := .tuple [match p.1 with
  | none => .int (i : Nat)
  | some o => .tuple [.int (i : Nat), .int (o : Nat)], .str p.2]
def flowGo (dims planes : Int) : Nat → List D → D
  | _, [] => .none
  | i, r :: rs => match ruleE dims planes r with
    | none => flowGo dims planes (i + 1) rs
    | some p => fd i p
theorem flow_step (v : D) (dims : Int) (rs : List D) (hd : dims ≤ 1000) (i d : D) (s5 s6 s7 : Sl) : B0_flow_error [.d v, .d (.int dims), .d (.tuple rs), .d i, .d d, s5, s6, s7] = .ret (match ruleE dims (rs.length : Nat) d with
    | none => .nx [.d v, .d (.int dims), .d (.tuple rs), .d i, .d d, .d .none, s6, s7]
    | some p => .ret (.tuple [match p.1 with
      | none => i
      | some o => .tuple [i, .int (o : Nat)], .str p.2])) := by
  have e := rule_error_eq dims (rs.length : Nat) d hd
  cases hr : ruleE dims (rs.length : Nat) d with
  | none =>
    rw [hr] at e
    simp [B0_flow_error, e, rd]
  | some p =>
    obtain ⟨o, w⟩ := p
    rw [hr] at e
    cases o <;> simp [B0_flow_error, e, rd, natD]
theorem flow_go (v : D) (dims : Int) (rs : List D) (hd : dims ≤ 1000) : ∀ (r : List D) (i : Nat) (s3 s4 s5 s6 s7 : Sl), ∃ t3 t4 t5 t6 t7,
    forGo (bTup [3, 4]) B0_flow_error (numD i r) [.d v, .d (.int dims), .d (.tuple rs), s3, s4, s5, s6, s7] = .ret (match flowGo dims (rs.length : Nat) i r with
      | .none => .nx [.d v, .d (.int dims), .d (.tuple rs), t3, t4, t5, t6, t7]
      | e => .ret e)
  | [], i, s3, s4, s5, s6, s7 => ⟨s3, s4, s5, s6, s7, rfl⟩
  | d :: r, i, s3, s4, s5, s6, s7 => by
    have e := flow_step v dims rs hd (.int (i : Nat)) d s5 s6 s7
    unfold numD
    unfold forGo
    cases hr : ruleE dims (rs.length : Nat) d with
    | none =>
      obtain ⟨t3, t4, t5, t6, t7, ih⟩ := flow_go v dims rs hd r (i + 1) (.d (.int (i : Nat))) (.d d) (.d .none) s6 s7
      refine ⟨t3, t4, t5, t6, t7, ?_⟩
      rw [hr] at e
      simp [e, flowGo, hr, ih]
    | some p =>
      refine ⟨s3, s4, s5, s6, s7, ?_⟩
      rw [hr] at e
      obtain ⟨o, w⟩ := p
      cases o <;> simp [e, flowGo, hr, fd]
def rulesB : D → Bool
  | .tuple rs => decide (1 ≤ (rs.length : Int)) && decide ((rs.length : Int) ≤ 6)
  | _ => false
theorem are_rules_eq (v : D) : m_are_rules [.d v] = .ret (.bool (rulesB v)) := by
  cases v with
  | tuple xs => simp [m_are_rules, F_are_rules, rulesB]
  | _ => with_unfolding_all rfl
def flowE (v : D) : D := if tupB 2 v = true then (match v with
  | .tuple [dm, rl] => if Wb.inR 2 3 dm = true then (match dm with
    | .int n => if rulesB rl = true then (match rl with
      | .tuple rs => flowGo n (rs.length : Nat) 0 rs
      | _ => .none) else .tuple [.none, .str "rules"]
    | _ => .none) else .tuple [.none, .str "dims"]
  | _ => .none) else .tuple [.none, .str "flow"]
theorem tup2 {v : D} (h : tupB 2 v = true) : ∃ a b, v = .tuple [a, b] := by
  cases v with
  | tuple xs =>
    simp only [tupB] at h
    match xs, h with
    | [a, b], _ => exact ⟨a, b, rfl⟩
    | [], h => simp at h
    | [_], h => simp at h
    | _ :: _ :: _ :: r, h =>
      have := of_decide_eq_true h
      simp only [List.length_cons] at this
      omega
  | _ => cases h
theorem inR_int {lo hi : Int} {v : D} (h : Wb.inR lo hi v = true) : ∃ n, v = .int n ∧ lo ≤ n ∧ n ≤ hi := by
  cases v with
  | int n =>
    simp only [Wb.inR, Bool.and_eq_true, decide_eq_true_eq] at h
    exact ⟨n, rfl, h.1, h.2⟩
  | _ => cases h
theorem rulesB_tup {v : D} (h : rulesB v = true) : ∃ rs, v = .tuple rs ∧ 1 ≤ rs.length ∧ rs.length ≤ 6 := by
  cases v with
  | tuple rs =>
    simp only [rulesB, Bool.and_eq_true, decide_eq_true_eq] at h
    exact ⟨rs, rfl, by omega, by omega⟩
  | _ => cases h
theorem flow_error_eq (v : D) : m_flow_error [.d v] = .ret (flowE v) := by
  have h := tuple_of_eq v 2
  cases hb : tupB 2 v with
  | false =>
    rw [hb] at h
    simp [m_flow_error, F_flow_error, h, flowE, hb]
  | true =>
    rw [hb] at h
    obtain ⟨dm, rl, rfl⟩ := tup2 hb
    have h1 := is_within_eq dm 2 3
    cases c1 : Wb.inR 2 3 dm with
    | false =>
      rw [c1] at h1
      simp [m_flow_error, F_flow_error, h, h1, flowE, hb, c1]
    | true =>
      rw [c1] at h1
      obtain ⟨n, rfl, n0, n1⟩ := inR_int c1
      have h2 := are_rules_eq rl
      cases c2 : rulesB rl with
      | false =>
        rw [c2] at h2
        simp [m_flow_error, F_flow_error, h, h1, h2, flowE, hb, c1, c2]
      | true =>
        rw [c2] at h2
        obtain ⟨rs, rfl, r0, r1⟩ := rulesB_tup c2
        obtain ⟨t3, t4, t5, t6, t7, e⟩ := flow_go (.tuple [.int n, .tuple rs]) n rs (by omega) rs 0 .no .no .no .no .no
        have en : oEnum [.d (.tuple rs)] = .ret (numD 0 rs) := rfl
        simp [m_flow_error, F_flow_error, h, h1, h2, flowE, hb, c1, c2, en, e]
        cases flowGo n (rs.length : Nat) 0 rs <;> simp
end Wk12
set_option Elab.async false
set_option linter.all false
set_option maxRecDepth 100000
set_option maxHeartbeats 4000000
namespace Wk12
open PySem PySem.Spec PyProof.Rows L2 Wb
theorem one_wp {xs : List D} {P : D → Prop} {E : Exn → Prop} (h0 : 0 < xs.length) (h1 : xs.length < 1073741824) (h : ∀ x ∈ xs, P x) : (m_law_one [.box true, .d (.list xs)]).wp P E := by
  simp [m_law_one, F_law_one]
  refine ⟨h0, by omega, fun i i0 i1 => drawn_item h i0 i1⟩
def KL : List (Str × Nat) := [("copy", 1), ("neg", 1), ("add", 2), ("sub", 2), ("mul", 2), ("least", 2), ("most", 2), ("madd", 3)]
def kindsD : D := .dict (KL.map fun p => (.str p.1, .int (p.2 : Nat)))
theorem law_kinds_eq : m_law_kinds [] = .ret kindsD := by with_unfolding_all rfl
theorem kinds_ok : ∀ p ∈ KL, 1 ≤ p.2 ∧ p.2 ≤ 3 ∧ tiB 0 5 (.str p.1) = true := by decide +kernel
theorem kinds_get : ∀ p ∈ KL, oDGet kindsD (.str p.1) = .ret (.int (p.2 : Nat)) := fun p hp => by
  simp only [KL, List.mem_cons, List.not_mem_nil, or_false] at hp
  rcases hp with rfl | rfl | rfl | rfl | rfl | rfl | rfl | rfl <;> with_unfolding_all rfl
theorem vector_wp {n M : Nat} (hn : n ≤ 3) (hM : M ≤ 60) : (m_law_vector [.box true, .d (.int (n : Nat)), .d (.int (M : Nat))]).wp (fun v => ∃ ns : List Int, v = vecD ns ∧ ns.length = n ∧ ∀ x ∈ ns, x.natAbs ≤ M) noE := by
  have A : (eLc [3] (iArg oRng1 (aCons (eV 1) aNil)) (bName 3) tTrue (eBin oSub (eCall 2 m_law_draw (aBox 0 (aCons (eBin oAdd (eBin oMul (eC (.int 2)) (eV 2)) (eC (.int 1))) aNil))) (eV 2)) [.box true, .d (.int (n : Nat)), .d (.int (M : Nat)), .no]).wp (fun d => ∃ ns : List Int, d = .list (ns.map PyData.int) ∧ ns.length = n ∧ ∀ x ∈ ns, -(M : Int) ≤ x ∧ x ≤ (M : Int)) noE := by
    refine eLc_wp (ds := rangeD 0 n) (by simp [oRng1_nat (n := n) (by omega)]) (by rw [rangeD_len]; omega) (lc_wp (R := fun _ y => ∃ z, y = PyData.int z ∧ -(M : Int) ≤ z ∧ z ≤ (M : Int)) _ (fun d _ => ⟨_, rfl, rfl, ?_⟩) fun ys hy => ?_)
    · have m : oMul (.int 2) (.int (M : Nat)) = .ret (.int (2 * (M : Nat))) := mul_ints' (by omega)
      simp [m]
      refine ⟨by omega, by omega, fun i i0 i1 => ?_⟩
      omega
    · obtain ⟨ns, rfl, hl, hb⟩ := each_ints hy
      exact ⟨ns, rfl, by rw [hl, rangeD_len], hb⟩
  rw [mq_law_vector]
  simp [F_law_vector]
  refine T.le A ?_
  rintro d ⟨ns, rfl, hl, hb⟩
  simp
  exact ⟨ns, rfl, hl, fun x hx => by have := hb x hx; omega⟩
theorem kind_list : (eLst (aCons (eC (.str "copy")) (aCons (eC (.str "neg")) (aCons (eC (.str "add")) (aCons (eC (.str "sub")) (aCons (eC (.str "mul")) (aCons (eC (.str "least")) (aCons (eC (.str "most")) (aCons (eC (.str "madd")) aNil))))))))) = fun _ => T.ret (.list (KL.map fun p => .str p.1)) := by
  funext ρ
  rfl
theorem each_reads {n m : Nat} {ds : List D} : ∀ {ys : List D}, Each (fun _ y => ∃ x : Rd, y = readD x ∧ x.1 < m ∧ x.2.length = n ∧ ∀ z ∈ x.2, z.natAbs ≤ 4) ds ys → ∃ xs : List Rd, ys = xs.map readD ∧ xs.length = ds.length ∧ ∀ x ∈ xs, x.1 < m ∧ x.2.length = n ∧ ∀ z ∈ x.2, z.natAbs ≤ 4 := by
  induction ds with
  | nil =>
    intro ys h
    cases h
    exact ⟨[], rfl, rfl, fun x hx => by cases hx⟩
  | cons d r ih =>
    intro ys h
    cases h with
    | cons h1 h2 =>
      obtain ⟨x, rfl, hx⟩ := h1
      obtain ⟨xs, rfl, hl, h3⟩ := ih h2
      refine ⟨x :: xs, rfl, by simp [hl], fun y hy => ?_⟩
      rcases List.mem_cons.mp hy with rfl | h
      · exact hx
      · exact h3 y h
/-- a rule of a flow of dims n and m planes -/
structure OkR (n m : Nat) (r : Ru) : Prop where
  kind : ∃ p ∈ KL, r.1 = p.1 ∧ r.2.length = p.2
  src : ∀ x ∈ r.2, x.1 < m
  dl : ∀ x ∈ r.2, x.2.length = n
  db : ∀ x ∈ r.2, ∀ z ∈ x.2, z.natAbs ≤ 4
abbrev rdE : Env' → T D := (eLc [4] (iArg oRng1 (aCons (eBin oDGet (eCall 0 m_law_kinds aNil) (eV 3)) aNil)) (bName 4) tTrue (eTup (aCons (eCall 2 m_law_draw (aBox 0 (aCons (eV 2) aNil))) (aCons (eCall 3 m_law_vector (aBox 0 (aCons (eV 1) (aCons (eC (.int 4)) aNil)))) aNil))))
theorem rd_wp {n m : Nat} (hn : n ≤ 3) (hm : 1 ≤ m) (hm6 : m ≤ 6) {p : Str × Nat} (hp : p ∈ KL) :
    (rdE [.box true, .d (.int (n : Nat)), .d (.int (m : Nat)), .d (.str p.1), .no]).wp (fun d => ∃ xs : List Rd, d = .list (xs.map readD) ∧ xs.length = p.2 ∧ ∀ x ∈ xs, x.1 < m ∧ x.2.length = n ∧ ∀ z ∈ x.2, z.natAbs ≤ 4) noE := by
  have hk := law_kinds_eq
  have kg := kinds_get p hp
  obtain ⟨k1, k3, _⟩ := kinds_ok p hp
  have vw := vector_wp (n := n) (M := 4) hn (by omega)
  have r := oRng1_nat (n := p.2) (by omega)
  have rl := rangeD_len (a := 0) (n := p.2)
  generalize kindsD = KD at *
  generalize (PyData.str p.1) = PS at *
  generalize p.2 = j at *
  unfold rdE
  generalize m_law_vector = MV at *
  refine eLc_wp (ds := rangeD 0 j) (by simp [hk, kg, r]) (by omega) (lc_wp (R := fun _ y => ∃ x : Rd, y = readD x ∧ x.1 < m ∧ x.2.length = n ∧ ∀ z ∈ x.2, z.natAbs ≤ 4) _ (fun d _ => ⟨_, rfl, rfl, ?_⟩) fun ys hy => ?_)
  · simp
    refine ⟨by omega, by omega, fun i i0 i1 => ?_⟩
    refine T.le vw ?_
    rintro v ⟨ns, rfl, h1, h2⟩
    try simp
    obtain ⟨w, rfl⟩ : ∃ w : Nat, i = w := ⟨i.toNat, by omega⟩
    exact ⟨w, ns, rfl, by omega, h1, h2⟩
  · obtain ⟨xs, rfl, hl, h⟩ := each_reads hy
    exact ⟨xs, rfl, by omega, h⟩
theorem rule_wp {n m : Nat} (hn : n ≤ 3) (hm : 1 ≤ m) (hm6 : m ≤ 6) : (m_law_rule [.box true, .d (.int (n : Nat)), .d (.int (m : Nat))]).wp (fun v => ∃ r : Ru, v = ruleD r ∧ OkR n m r) noE := by
  have one : (m_law_one [.box true, .d (.list (KL.map fun p => .str p.1))]).wp (fun v => ∃ p ∈ KL, v = .str p.1) noE :=
    one_wp (by decide) (by decide) fun x hx => by
      obtain ⟨p, hp, rfl⟩ := List.mem_map.mp hx
      exact ⟨p, hp, rfl⟩
  have RD := @rd_wp n m hn hm hm6
  rw [mq_law_rule]
  unfold F_law_rule
  rw [kind_list]
  change (mkDef 5 (sSeq _ (sRet (eBin oAdd _ (eCb (o1 oTupleOf) (aCons rdE aNil))))) _).wp _ _
  generalize (KL.map fun p => PyData.str p.1) = KS at *
  generalize rdE = E at *
  simp
  refine T.le one ?_
  rintro _ ⟨p, hp, rfl⟩
  obtain ⟨k1, k3, kt⟩ := kinds_ok p hp
  try simp
  refine T.le (RD hp) ?_
  rintro _ ⟨xs, rfl, hx, h⟩
  have l1 : 1 + xs.length ≤ 1000000 := by omega
  simp [l1]
  exact ⟨p.1, xs, rfl, ⟨⟨p, hp, rfl, hx⟩, fun x hx => (h x hx).1, fun x hx => (h x hx).2.1, fun x hx => (h x hx).2.2⟩⟩
/-- a flow -/
structure FOk (n : Nat) (rs : List Ru) : Prop where
  n2 : 2 ≤ n
  n3 : n ≤ 3
  l1 : 1 ≤ rs.length
  l6 : rs.length ≤ 6
  ok : ∀ r ∈ rs, OkR n rs.length r
theorem each_rules {n m : Nat} {ds : List D} : ∀ {ys : List D}, Each (fun _ y => ∃ r : Ru, y = ruleD r ∧ OkR n m r) ds ys → ∃ rs : List Ru, ys = rs.map ruleD ∧ rs.length = ds.length ∧ ∀ r ∈ rs, OkR n m r := by
  induction ds with
  | nil =>
    intro ys h
    cases h
    exact ⟨[], rfl, rfl, fun x hx => by cases hx⟩
  | cons d r ih =>
    intro ys h
    cases h with
    | cons h1 h2 =>
      obtain ⟨x, rfl, hx⟩ := h1
      obtain ⟨xs, rfl, hl, h3⟩ := ih h2
      refine ⟨x :: xs, rfl, by simp [hl], fun y hy => ?_⟩
      rcases List.mem_cons.mp hy with rfl | h
      · exact hx
      · exact h3 y h
theorem flow_wp : (m_law_flow [.box true]).wp (fun v => ∃ (n : Nat) (rs : List Ru), v = flowD n rs ∧ FOk n rs) noE := by
  rw [mq_law_flow]
  unfold F_law_flow
  have rw' := fun n => @rule_wp n
  generalize m_law_rule = MR at *
  simp
  intro i i0 i1 j j0 j1
  obtain ⟨n, hn⟩ : ∃ n : Nat, (2 + i : Int) = n := ⟨(2 + i).toNat, by omega⟩
  obtain ⟨m, hm⟩ : ∃ m : Nat, (1 + j : Int) = m := ⟨(1 + j).toNat, by omega⟩
  rw [hn, hm]
  have n2 : 2 ≤ n := by omega
  have n3 : n ≤ 3 := by omega
  have m1 : 1 ≤ m := by omega
  have m6 : m ≤ 6 := by omega
  refine T.le (P := fun d => ∃ rs : List Ru, d = .list (rs.map ruleD) ∧ rs.length = m ∧ ∀ r ∈ rs, OkR n m r) (eLc_wp (ds := rangeD 0 m) (by simp [oRng1_nat (n := m) (by omega)]) (by rw [rangeD_len]; omega) (lc_wp (R := fun _ y => ∃ r : Ru, y = ruleD r ∧ OkR n m r) _ (fun d _ => ⟨_, rfl, rfl, ?_⟩) fun ys hy => ?_)) ?_
  · simp
    refine T.le (@rw' n m n3 m1 m6) ?_
    rintro _ ⟨r, rfl, h⟩
    exact ⟨r.1, r.2, rfl, h⟩
  · obtain ⟨rs, rfl, hl, h⟩ := each_rules hy
    exact ⟨rs, rfl, by rw [hl, rangeD_len], h⟩
  · rintro _ ⟨rs, rfl, hl, h⟩
    simp
    exact ⟨n, rs, rfl, ⟨n2, n3, by omega, by omega, by rw [hl]; exact h⟩⟩
end Wk12
set_option Elab.async false
set_option linter.all false
set_option maxRecDepth 100000
set_option maxHeartbeats 4000000
namespace Wk12
open PySem PySem.Spec PyProof.Rows L2 Wb TL
/-! ### signs of joined texts -/
theorem mem_joinL {S : List Nat} {c : Nat} : ∀ {ps : List (List Nat)}, c ∈ joinL S ps → c ∈ S ∨ ∃ p ∈ ps, c ∈ p
  | [], h => nomatch h
  | [p], h => .inr ⟨p, List.mem_singleton.mpr rfl, h⟩
  | p :: q :: r, h => by
    have h : c ∈ p ++ (S ++ joinL S (q :: r)) := h
    rw [List.mem_append, List.mem_append] at h
    rcases h with h | h | h
    · exact .inr ⟨p, List.mem_cons_self .., h⟩
    · exact .inl h
    · rcases mem_joinL h with h | ⟨x, hx, h⟩
      · exact .inl h
      · exact .inr ⟨x, List.mem_cons_of_mem _ hx, h⟩
theorem len_joinL {S : List Nat} {b : Nat} : ∀ {ps : List (List Nat)}, (∀ p ∈ ps, p.length ≤ b) → (joinL S ps).length ≤ ps.length * (b + S.length)
  | [], _ => Nat.zero_le _
  | [p], h => by
    have := h p (List.mem_singleton.mpr rfl)
    simp only [joinL, List.length_singleton]
    omega
  | p :: q :: r, h => by
    have h1 := h p (List.mem_cons_self ..)
    have h2 := len_joinL (S := S) (b := b) (ps := q :: r) fun x hx => h x (List.mem_cons_of_mem _ hx)
    show (p ++ (S ++ joinL S (q :: r))).length ≤ _
    rw [List.length_append, List.length_append]
    simp only [List.length_cons] at h2 ⊢
    have e : (r.length + 1 + 1) * (b + S.length) = (r.length + 1) * (b + S.length) + (b + S.length) := by rw [Nat.add_mul (r.length + 1) 1, Nat.one_mul]
    omega
theorem len_join {z : Str} {b : Nat} {ys : List Str} (h : ∀ y ∈ ys, y.length ≤ b) : (Txt.join z ys).length ≤ ys.length * (b + z.length) := by
  rw [join_eq, len_tl, tl_join, len_tl z]
  refine Nat.le_trans (len_joinL (b := b) fun p hp => ?_) (by rw [List.length_map]; exact Nat.le_refl _)
  obtain ⟨y, hy, rfl⟩ := List.mem_map.mp hp
  have := h y hy
  rw [len_tl] at this
  exact this
theorem mem_join {z : Str} {ys : List Str} {c : Nat} (h : c ∈ tl (Txt.join z ys)) : c ∈ tl z ∨ ∃ y ∈ ys, c ∈ tl y := by
  rw [join_eq, tl_join] at h
  rcases mem_joinL h with h | ⟨p, hp, h⟩
  · exact .inl h
  · obtain ⟨y, hy, rfl⟩ := List.mem_map.mp hp
    exact .inr ⟨y, hy, h⟩
theorem sum_le {b : Nat} : ∀ {ys : List Str}, (∀ y ∈ ys, y.length ≤ b) → (ys.map (·.length)).sum ≤ ys.length * b
  | [], _ => Nat.zero_le _
  | y :: ys, h => by
    have h1 := h y (List.mem_cons_self ..)
    have h2 := sum_le fun x hx => h x (List.mem_cons_of_mem _ hx)
    rw [List.map_cons, List.sum_cons, List.length_cons, Nat.add_mul, Nat.one_mul]
    omega
theorem join_at {z : Str} {b : Nat} {ys : List Str} (h : ∀ y ∈ ys, y.length ≤ b) (hn : ys.length * (b + z.length) ≤ 16777216) : joinI z (ys.map PyData.str) = .ret (.str (Txt.join z ys)) := joinI_at (by
  have := sum_le h
  rw [Nat.mul_add] at hn
  omega)
/-! ### the text of an integer -/
def iT (i : Int) : Str := Str.ofString (toString i)
theorem str_at {i : Int} (h : i.natAbs < 10 ^ 50) : oStrI (.int i) = .ret (.str (iT i)) := oStrI_at h
theorem iT_len {i : Int} (h : i.natAbs < 10 ^ 50) : (iT i).length ≤ 51 := by
  cases i with
  | ofNat n =>
    have := numL_len (n := n) (k := 50) (by decide) h
    have e : (iT (Int.ofNat n)).length = (numL n).length := by
      rw [len_tl]
      exact congrArg List.length (tl_num n)
    omega
  | negSucc n =>
    have h' : n + 1 < 10 ^ 50 := h
    have := numL_len (n := n + 1) (k := 50) (by decide) h'
    have e2 : (iT (Int.negSucc n)) = Str.ofString ("-" ++ toString (n + 1)) := rfl
    have e3 : tl (iT (Int.ofNat (n + 1))) = numL (n + 1) := tl_num (n + 1)
    have e4 : iT (Int.ofNat (n + 1)) = Str.ofString (toString (n + 1)) := rfl
    rw [e4, tl_ofString] at e3
    rw [e2, len_tl, tl_ofString, String.toList_append, List.map_append, List.length_append, e3]
    have : (List.map Char.toNat "-".toList).length = 1 := rfl
    omega
/-- a small number -/
theorem small_all {P : Int → Prop} (h : P (-4) ∧ P (-3) ∧ P (-2) ∧ P (-1) ∧ P 0 ∧ P 1 ∧ P 2 ∧ P 3 ∧ P 4 ∧ P 5) {i : Int} (h0 : -4 ≤ i) (h1 : i ≤ 5) : P i := by
  have : i = -4 ∨ i = -3 ∨ i = -2 ∨ i = -1 ∨ i = 0 ∨ i = 1 ∨ i = 2 ∨ i = 3 ∨ i = 4 ∨ i = 5 := by omega
  rcases this with rfl | rfl | rfl | rfl | rfl | rfl | rfl | rfl | rfl | rfl
  · exact h.1
  · exact h.2.1
  · exact h.2.2.1
  · exact h.2.2.2.1
  · exact h.2.2.2.2.1
  · exact h.2.2.2.2.2.1
  · exact h.2.2.2.2.2.2.1
  · exact h.2.2.2.2.2.2.2.1
  · exact h.2.2.2.2.2.2.2.2.1
  · exact h.2.2.2.2.2.2.2.2.2
end Wk12
set_option Elab.async false
set_option linter.all false
set_option maxRecDepth 100000
set_option maxHeartbeats 4000000
namespace Wk12
open PySem PySem.Spec PyProof.Rows L2 Wb TL
/-! ### the texts -/
def vecT (ns : List Int) : Str := Txt.join "," (ns.map iT)
/-- integers that are not too great, not too many -/
structure Few (ns : List Int) : Prop where
  len : ns.length ≤ 1000
  big : ∀ x ∈ ns, x.natAbs < 10 ^ 50
theorem Few.at {ns : List Int} (h : Few ns) : ∀ y ∈ ns.map iT, y.length ≤ 51 := fun y hy => by
  obtain ⟨x, hx, rfl⟩ := List.mem_map.mp hy
  exact iT_len (h.big x hx)
theorem strs_eq {ns : List Int} (h : Few ns) (s1 : Sl) : eLc [1] (iSeq (eV 0)) (bName 1) tTrue (eCb (o1 oStrI) (aCons (eV 1) aNil)) [.d (vecD ns), s1] = .ret (.list ((ns.map iT).map PyData.str)) := by
  have hl := h.len
  have e := lc_rows (ρ := wipeE [.d (vecD ns), s1] [1]) (bd := bName 1) (t := tTrue) (e := eCb (o1 oStrI) (aCons (eV 1) aNil)) (mk := PyData.int) (f := fun i => .str (iT i)) ns (fun r hr => ⟨_, rfl, rfl, by
    have q := str_at (h.big r hr)
    simp [q, wipeE]⟩)
  rw [List.map_map]
  exact eLc_ret (ds := ns.map PyData.int) (by simp [vecD]) (by rw [List.length_map]; omega) e
theorem vec_at {ns : List Int} (h : Few ns) : oJoinS "," (.list ((ns.map iT).map PyData.str)) = .ret (.str (vecT ns)) := join_at h.at (by
  have := h.len
  have e : ((",") : Str).length = 1 := by decide
  rw [List.length_map, e]
  omega)
theorem law_vector_text_eq {ns : List Int} (h : Few ns) : m_law_vector_text [.d (vecD ns)] = .ret (.str (vecT ns)) := by
  have e := strs_eq h .no
  have v := vec_at h
  rw [mq_law_vector_text]
  unfold F_law_vector_text
  generalize eLc [1] (iSeq (eV 0)) (bName 1) tTrue (eCb (o1 oStrI) (aCons (eV 1) aNil)) = E at *
  simp [e, v, -List.map_map, -oJoinS_list]
theorem vecT_len {ns : List Int} (h : Few ns) : (vecT ns).length ≤ 52 * 1000 := by
  have z := len_join (z := ",") h.at
  have := h.len
  have e : ((",") : Str).length = 1 := by decide
  rw [List.length_map, e] at z
  unfold vecT
  omega
theorem len_app (a b : Str) : (a ++ b).length = a.length + b.length := by rw [len_tl, len_tl, len_tl, tl_append, List.length_append]
/-! ### beats -/
/-! ### reads -/
def readT (r : Rd) : Str := iT (r.1 : Nat) ++ "@" ++ vecT r.2
structure RdOk (r : Rd) : Prop where
  src : r.1 ≤ 5
  few : Few r.2
theorem src_at {r : Rd} (h : RdOk r) : (((r.1 : Nat) : Int)).natAbs < 10 ^ 50 := Nat.lt_of_le_of_lt (m := 5) h.src (by decide)
theorem readT_len {r : Rd} (h : RdOk r) : (readT r).length ≤ 53000 := by
  have l1 := vecT_len h.few
  have l2 := iT_len (src_at h)
  have e : (("@") : Str).length = 1 := by decide
  unfold readT
  rw [len_app, len_app]
  omega
theorem add_strs {a b : Str} (h : a.length + b.length ≤ 1000000) : oAdd (.str a) (.str b) = .ret (.str (a ++ b)) := if_pos h
theorem law_read_eq {r : Rd} (h : RdOk r) (s0 : Sl) : (eBin oAdd (eBin oAdd (eCb (o1 oStrI) (aCons (eBin oIx (eV 1) (eC (.int 0))) aNil)) (eC (.str "@"))) (eCall 1 m_law_vector_text (aCons (eBin oIx (eV 1) (eC (.int 1))) aNil))) [s0, .d (readD r)] = .ret (.str (readT r)) := by
  have i0 : oIx (readD r) (.int 0) = .ret (.int (r.1 : Nat)) := ixT_at (j := 0) rfl
  have i1 : oIx (readD r) (.int 1) = .ret (vecD r.2) := ixT_at (j := 1) rfl
  have l1 := vecT_len h.few
  have l2 := iT_len (src_at h)
  have e : (("@") : Str).length = 1 := by decide
  have a1 := add_strs (a := iT (r.1 : Nat)) (b := "@") (by omega)
  have a2 := add_strs (a := iT (r.1 : Nat) ++ "@") (b := vecT r.2) (by rw [len_app]; omega)
  simp [i0, i1, str_at (src_at h), law_vector_text_eq h.few, a1, a2, readT]
end Wk12
set_option Elab.async false
set_option linter.all false
set_option maxRecDepth 100000
set_option maxHeartbeats 4000000
namespace Wk12
open PySem PySem.Spec PyProof.Rows L2 Wb TL
/-! ### rules -/
def ruleT (r : Ru) : Str := Txt.join " " (r.1 :: r.2.map readT)
structure RuOk (r : Ru) : Prop where
  word : r.1.length ≤ 10
  few : r.2.length ≤ 3
  rd : ∀ x ∈ r.2, RdOk x
theorem sp_len : ((" ") : Str).length = 1 := by decide
theorem words_le {r : Ru} (h : RuOk r) : ∀ y ∈ r.1 :: r.2.map readT, y.length ≤ 53000 := fun y hy => by
  rcases List.mem_cons.mp hy with rfl | hy
  · exact Nat.le_trans h.word (by decide)
  · obtain ⟨x, hx, rfl⟩ := List.mem_map.mp hy
    exact readT_len (h.rd x hx)
theorem ruleT_len {r : Ru} (h : RuOk r) : (ruleT r).length ≤ 212004 := by
  have z := len_join (z := " ") (words_le h)
  have := h.few
  rw [sp_len, List.length_cons, List.length_map] at z
  have e : (r.2.length + 1) * (53000 + 1) ≤ 4 * (53000 + 1) := Nat.mul_le_mul_right _ (by omega)
  exact Nat.le_trans z e
theorem rule_at {r : Ru} (h : RuOk r) : oJoinS " " (.list (.str r.1 :: (r.2.map readT).map PyData.str)) = .ret (.str (ruleT r)) :=
  join_at (ys := r.1 :: r.2.map readT) (words_le h) (by
    have := h.few
    rw [sp_len, List.length_cons, List.length_map]
    have e : (r.2.length + 1) * (53000 + 1) ≤ 4 * (53000 + 1) := Nat.mul_le_mul_right _ (by omega)
    exact Nat.le_trans e (by decide))
theorem cut_rule (r : Ru) : cutD (.str r.1 :: r.2.map readD) (some 1) none = r.2.map readD := by
  have := cutD_suf (xs := .str r.1 :: r.2.map readD) (j := 1) (by simp)
  simpa using this
theorem reads_lc {r : Ru} (h : RuOk r) {E : Env' → T D} (he : ∀ x, RdOk x → E [.d (ruleD r), .d (readD x)] = .ret (.str (readT x))) (s1 : Sl) :
    eLc [1] (iSeq (eSl (eV 0) (pSome (eC (.int 1))) pNone)) (bName 1) tTrue E [.d (ruleD r), s1] = .ret (.list ((r.2.map readT).map PyData.str)) := by
  have hl := h.few
  have e := lc_rows (ρ := wipeE [.d (ruleD r), s1] [1]) (bd := bName 1) (t := tTrue) (e := E) (mk := readD) (f := fun x => .str (readT x)) r.2 (fun x hx => ⟨_, rfl, rfl, he x (h.rd x hx)⟩)
  rw [List.map_map]
  have c := cut_rule r
  exact eLc_ret (ds := r.2.map readD) (by simp [ruleD, c]) (by rw [List.length_map]; omega) e
theorem add_lists {a : D} {bs : List D} (h : bs.length ≤ 1000) : oAdd (.list [a]) (.list bs) = .ret (.list (a :: bs)) := if_pos (by rw [List.length_singleton]; omega)
theorem law_rule_text_eq {r : Ru} (h : RuOk r) : m_law_rule_text [.d (ruleD r)] = .ret (.str (ruleT r)) := by
  have i0 : oIx (ruleD r) (.int 0) = .ret (.str r.1) := ixT_at (j := 0) rfl
  have e := reads_lc h (E := (eBin oAdd (eBin oAdd (eCb (o1 oStrI) (aCons (eBin oIx (eV 1) (eC (.int 0))) aNil)) (eC (.str "@"))) (eCall 1 m_law_vector_text (aCons (eBin oIx (eV 1) (eC (.int 1))) aNil)))) (fun x hx => law_read_eq hx _) .no
  have v := rule_at h
  have a := add_lists (a := .str r.1) (bs := (r.2.map readT).map PyData.str) (by have := h.few; rw [List.length_map, List.length_map]; omega)
  rw [mq_law_rule_text]
  unfold F_law_rule_text
  generalize eLc _ _ _ _ _ = E at *
  generalize (r.2.map readT).map PyData.str = L at *
  simp [e, v, i0, a, -oJoinS_list]
/-! ### flows -/
def flowT (n : Nat) (rs : List Ru) : Str := Txt.join " " (iT (n : Nat) :: rs.map fun r => "/ " ++ ruleT r)
structure FlOk (n : Nat) (rs : List Ru) : Prop where
  n3 : n ≤ 3
  few : rs.length ≤ 6
  ru : ∀ r ∈ rs, RuOk r
theorem n_at {n : Nat} {rs : List Ru} (h : FlOk n rs) : ((n : Nat) : Int).natAbs < 10 ^ 50 := Nat.lt_of_le_of_lt (m := 3) h.n3 (by decide)
theorem sl_len : (("/ ") : Str).length = 2 := by decide
theorem flow_le {n : Nat} {rs : List Ru} (h : FlOk n rs) : ∀ y ∈ iT (n : Nat) :: rs.map fun r => "/ " ++ ruleT r, y.length ≤ 212006 := fun y hy => by
  rcases List.mem_cons.mp hy with rfl | hy
  · exact Nat.le_trans (iT_len (n_at h)) (by decide)
  · obtain ⟨r, hr, rfl⟩ := List.mem_map.mp hy
    have := ruleT_len (h.ru r hr)
    rw [len_app, sl_len]
    omega
theorem flow_at {n : Nat} {rs : List Ru} (h : FlOk n rs) : oJoinS " " (.list (.str (iT (n : Nat)) :: (rs.map fun r => "/ " ++ ruleT r).map PyData.str)) = .ret (.str (flowT n rs)) :=
  join_at (ys := iT (n : Nat) :: rs.map fun r => "/ " ++ ruleT r) (flow_le h) (by
    have := h.few
    rw [sp_len, List.length_cons, List.length_map]
    have e : (rs.length + 1) * (212006 + 1) ≤ 7 * (212006 + 1) := Nat.mul_le_mul_right _ (by omega)
    exact Nat.le_trans e (by decide))
theorem rules_lc {n : Nat} {rs : List Ru} (h : FlOk n rs) {E : Env' → T D} (he : ∀ r, RuOk r → E [.d (flowD n rs), .d (ruleD r)] = .ret (.str ("/ " ++ ruleT r))) (s1 : Sl) :
    eLc [1] (iSeq (eBin oIx (eV 0) (eC (.int 1)))) (bName 1) tTrue E [.d (flowD n rs), s1] = .ret (.list ((rs.map fun r => "/ " ++ ruleT r).map PyData.str)) := by
  have hl := h.few
  have e := lc_rows (ρ := wipeE [.d (flowD n rs), s1] [1]) (bd := bName 1) (t := tTrue) (e := E) (mk := ruleD) (f := fun r => .str ("/ " ++ ruleT r)) rs (fun r hr => ⟨_, rfl, rfl, he r (h.ru r hr)⟩)
  rw [List.map_map]
  have c := flow_1 n rs
  exact eLc_ret (ds := rs.map ruleD) (by simp [c, rulesD]) (by rw [List.length_map]; omega) e
theorem law_flow_text_eq {n : Nat} {rs : List Ru} (h : FlOk n rs) : m_law_flow_text [.d (flowD n rs)] = .ret (.str (flowT n rs)) := by
  have i0 := flow_0 n rs
  have e := rules_lc h (E := (eBin oAdd (eC (.str "/ ")) (eCall 1 m_law_rule_text (aCons (eV 1) aNil)))) (fun r hr => by
    have ad := add_strs (a := "/ ") (b := ruleT r) (by have := ruleT_len hr; rw [sl_len]; omega)
    simp [law_rule_text_eq hr, ad]) .no
  have v := flow_at h
  have a := add_lists (a := .str (iT (n : Nat))) (bs := (rs.map fun r => "/ " ++ ruleT r).map PyData.str) (by have := h.few; rw [List.length_map, List.length_map]; omega)
  have st := str_at (n_at h)
  rw [mq_law_flow_text]
  unfold F_law_flow_text
  generalize eLc _ _ _ _ _ = E at *
  generalize (rs.map fun r => "/ " ++ ruleT r).map PyData.str = L at *
  simp [e, v, i0, a, st, -oJoinS_list]
end Wk12
set_option Elab.async false
set_option linter.all false
set_option maxRecDepth 100000
set_option maxHeartbeats 4000000
namespace Wk12
open PySem PySem.Spec PyProof.Rows L2 Wb TL
/-! ### the texts of integers -/
theorem head0 : ∀ n : Nat, (numL n).head? = some 48 → n = 0 := fun n => by
  induction n using Nat.strongRecOn with
  | _ n ih =>
    intro h
    by_cases c : n < 10
    · rw [numL_lt c] at h
      simp only [List.head?_cons, Option.some.injEq] at h
      omega
    · rw [numL_step (by omega)] at h
      have ne := numL_ne (n / 10)
      have h2 : (numL (n / 10)).head? = some 48 := by
        cases e : numL (n / 10) with
        | nil => exact absurd e ne
        | cons a r =>
          rw [e] at h
          exact h
      have := ih (n / 10) (by omega) h2
      omega
theorem val_app (l : List Nat) (d : Nat) : NumText.digitsVal (l ++ [d]) = NumText.digitsVal l * 10 + (d - 48) := by
  unfold NumText.digitsVal
  rw [List.foldl_append]
  rfl
theorem canon_of : ∀ (n : Nat) (l : List Nat), l.length = n → NumText.AllDigits l → l ≠ [] → l.head? ≠ some 48 → numL (NumText.digitsVal l) = l := fun n => by
  induction n with
  | zero =>
    intro l hl _ hne
    exact absurd (List.length_eq_zero_iff.mp hl) hne
  | succ n ih =>
    intro l hl hd hne h0
    have sp := List.dropLast_concat_getLast hne
    generalize l.dropLast = p at sp
    generalize l.getLast hne = d at sp
    subst sp
    have dd : 48 ≤ d ∧ d ≤ 57 := hd d (by simp)
    have hp : NumText.AllDigits p := fun c hc => hd c (by simp [hc])
    rw [val_app]
    by_cases c : p = []
    · subst c
      have e : NumText.digitsVal [] * 10 + (d - 48) = d - 48 := by
        show 0 * 10 + (d - 48) = _
        omega
      rw [e, numL_lt (by omega), show 48 + (d - 48) = d by omega]
      rfl
    · have hh : p.head? ≠ some 48 := fun z => h0 (by
        cases p with
        | nil => exact absurd rfl c
        | cons a r => exact z)
      have e := ih p (by rw [List.length_append, List.length_singleton] at hl; omega) hp c hh
      have v0 : NumText.digitsVal p ≠ 0 := fun z => by
        rw [z] at e
        rw [← e] at hh
        exact hh (by rw [numL_lt (by decide)]; rfl)
      rw [numL_step (by omega), show (NumText.digitsVal p * 10 + (d - 48)) / 10 = NumText.digitsVal p by omega, e, show (NumText.digitsVal p * 10 + (d - 48)) % 10 = d - 48 by omega, show 48 + (d - 48) = d by omega]
theorem canon {l : List Nat} (h : NumText.AllDigits l) (hne : l ≠ []) : numL (NumText.digitsVal l) = l ↔ ¬ (l.head? = some 48 ∧ l ≠ [48]) := by
  constructor
  · rintro e ⟨h1, h2⟩
    rw [← e] at h1
    have := head0 _ h1
    rw [this] at e
    rw [numL_lt (by decide)] at e
    exact h2 e.symm
  · intro c
    by_cases h1 : l.head? = some 48
    · have : l = [48] := Classical.byContradiction fun z => c ⟨h1, z⟩
      subst this
      rfl
    · exact canon_of _ l rfl h hne h1
theorem val_lt {l : List Nat} (h : NumText.AllDigits l) : NumText.digitsVal l < 10 ^ l.length := by
  have key : ∀ (n : Nat) (l : List Nat), l.length = n → NumText.AllDigits l → NumText.digitsVal l < 10 ^ n := fun n => by
    induction n with
    | zero =>
      intro l hl _
      rw [List.length_eq_zero_iff.mp hl]
      decide
    | succ n ih =>
      intro l hl hd
      have hne : l ≠ [] := fun z => by rw [z] at hl; cases hl
      have sp := List.dropLast_concat_getLast hne
      generalize l.dropLast = p at sp
      generalize l.getLast hne = d at sp
      subst sp
      have dd : 48 ≤ d ∧ d ≤ 57 := hd d (by simp)
      have := ih p (by rw [List.length_append, List.length_singleton] at hl; omega) (fun c hc => hd c (by simp [hc]))
      rw [val_app, Nat.pow_succ]
      omega
  exact key _ l rfl h
/-- the signs behind the minus -/
def digs (cs : List Nat) : List Nat := if cs.head? = some 45 then cs.tail else cs
def isD (c : Nat) : Bool := decide (48 ≤ c) && decide (c ≤ 57)
def okD (cs : List Nat) : Bool := decide (1 ≤ (digs cs).length) && decide ((digs cs).length ≤ 12) && (digs cs).all isD
def num (cs : List Nat) : Option Int := if okD cs = true then (if (digs cs).head? = some 48 ∧ cs ≠ [48] then none else some (if cs.head? = some 45 then -((NumText.digitsVal (digs cs) : Nat) : Int) else ((NumText.digitsVal (digs cs) : Nat) : Int))) else none
def optD : Option Int → D
  | none => .none
  | some i => .int i
theorem okD_of {cs : List Nat} (h : okD cs = true) : NumText.AllDigits (digs cs) ∧ digs cs ≠ [] ∧ (digs cs).length ≤ 12 := by
  unfold okD at h
  rw [Bool.and_eq_true, Bool.and_eq_true, decide_eq_true_eq, decide_eq_true_eq, List.all_eq_true] at h
  refine ⟨fun c hc => ?_, fun z => ?_, h.1.2⟩
  · have := h.2 c hc
    unfold isD at this
    rw [Bool.and_eq_true, decide_eq_true_eq, decide_eq_true_eq] at this
    exact this
  · have := h.1.1
    rw [z] at this
    simp at this
theorem val_big {cs : List Nat} (c : okD cs = true) : (if cs.head? = some 45 then -((NumText.digitsVal (digs cs) : Nat) : Int) else ((NumText.digitsVal (digs cs) : Nat) : Int)).natAbs < 10 ^ 50 := by
  obtain ⟨a, b, l⟩ := okD_of c
  have v := val_lt a
  have p : (10 : Nat) ^ (digs cs).length ≤ 10 ^ 12 := Nat.pow_le_pow_right (by decide) l
  have v2 : NumText.digitsVal (digs cs) < 10 ^ 12 := Nat.lt_of_lt_of_le v p
  refine Nat.lt_of_lt_of_le (m := 10 ^ 12) ?_ (by decide +kernel)
  split <;> omega
theorem num_big {cs : List Nat} {i : Int} (h : num cs = some i) : i.natAbs < 10 ^ 50 := by
  unfold num at h
  split at h
  · next c =>
    obtain ⟨a, b, l⟩ := okD_of c
    have v := val_lt a
    have p : (10 : Nat) ^ (digs cs).length ≤ 10 ^ 12 := Nat.pow_le_pow_right (by decide) l
    have v2 : NumText.digitsVal (digs cs) < 10 ^ 12 := Nat.lt_of_lt_of_le v p
    split at h
    · cases h
    · cases h
      refine Nat.lt_of_lt_of_le (m := 10 ^ 12) ?_ (by decide +kernel)
      split <;> omega
  · cases h
theorem neg_txt (n : Nat) : (iT (-((n + 1 : Nat) : Int))) = SX.S (45 :: numL (n + 1)) := by
  apply ext_tl
  have e3 : tl (iT (Int.ofNat (n + 1))) = numL (n + 1) := tl_num (n + 1)
  have e4 : iT (Int.ofNat (n + 1)) = Str.ofString (toString (n + 1)) := rfl
  have e2 : iT (-((n + 1 : Nat) : Int)) = Str.ofString ("-" ++ toString (n + 1)) := rfl
  rw [e4, tl_ofString] at e3
  rw [e2, tl_ofString, String.toList_append, List.map_append, e3]
  rfl
theorem pos_txt (n : Nat) : iT (n : Nat) = SX.S (numL n) := SX.num_S n
theorem int_at {cs : List Nat} (h : okD cs = true) (hl : cs.length ≤ 13) : intText? (SX.S cs) = some (if cs.head? = some 45 then -((NumText.digitsVal (digs cs) : Nat) : Int) else ((NumText.digitsVal (digs cs) : Nat) : Int)) := by
  obtain ⟨a, b, l⟩ := okD_of h
  by_cases c : cs.head? = some 45
  · rw [if_pos c]
    unfold digs at a b ⊢
    rw [if_pos c] at a b ⊢
    cases cs with
    | nil => cases c
    | cons x r =>
      have : x = 45 := by simpa using c
      subst this
      exact intText_neg (x := SX.S (45 :: r)) rfl a b (by rw [SX.S_len]; omega)
  · rw [if_neg c]
    unfold digs at a b ⊢
    rw [if_neg c] at a b ⊢
    exact intText_digits (x := SX.S cs) a b (by rw [SX.S_len]; omega)
/-- the text of the number is the text, or it isn't -/
theorem same_txt {cs : List Nat} (h : okD cs = true) : (iT (if cs.head? = some 45 then -((NumText.digitsVal (digs cs) : Nat) : Int) else ((NumText.digitsVal (digs cs) : Nat) : Int)) = SX.S cs) ↔ ¬ ((digs cs).head? = some 48 ∧ cs ≠ [48]) := by
  obtain ⟨a, b, l⟩ := okD_of h
  have k := canon a b
  by_cases c : cs.head? = some 45
  · rw [if_pos c]
    cases cs with
    | nil => cases c
    | cons x r =>
      have : x = 45 := by simpa using c
      subst this
      have dr : digs (45 :: r) = r := rfl
      rw [dr] at a b l k ⊢
      cases hv : NumText.digitsVal r with
      | zero =>
        rw [hv] at k
        have z : numL 0 = [48] := numL_lt (by decide)
        constructor
        · intro e
          have e2 : tl (iT (-((0 : Nat) : Int))) = 45 :: r := by rw [e]
          have e3 : tl (iT (-((0 : Nat) : Int))) = [48] := by decide +kernel
          rw [e3] at e2
          cases e2
        · intro e
          exfalso
          apply e
          refine ⟨?_, by simp⟩
          by_cases h1 : r.head? = some 48
          · exact h1
          · have := canon_of _ r rfl a b h1
            rw [hv, z] at this
            rw [← this] at h1
            exact absurd rfl h1
      | succ n =>
        rw [hv] at k
        rw [neg_txt]
        constructor
        · intro e
          have e2 := SX.S_inj e
          have e3 : numL (n + 1) = r := by injection e2
          have := k.mp e3
          rintro ⟨h1, _⟩
          apply this
          refine ⟨h1, fun z => ?_⟩
          rw [z] at hv
          have e0 : NumText.digitsVal [48] = 0 := rfl
          rw [e0] at hv
          cases hv
        · intro e
          have : numL (n + 1) = r := k.mpr fun z => e ⟨z.1, by simp⟩
          rw [this]
  · rw [if_neg c]
    have dr : digs cs = cs := by
      unfold digs
      rw [if_neg c]
    rw [dr] at a b l k ⊢
    rw [pos_txt]
    constructor
    · intro e
      exact k.mp (SX.S_inj e)
    · intro e
      rw [k.mpr e]
end Wk12
set_option Elab.async false
set_option linter.all false
set_option maxRecDepth 100000
set_option maxHeartbeats 4000000
namespace Wk12
open PySem PySem.Spec PyProof.Rows L2 Wb TL
theorem minus_S : ("-" : Str) = SX.S [45] := by decide +kernel
theorem zero_S : ("0" : Str) = SX.S [48] := by decide +kernel
theorem none_S : ("" : Str) = SX.S [] := by decide +kernel
theorem starts_eq (cs : List Nat) : Txt.startswith (SX.S cs) "-" = decide (cs.head? = some 45) := by
  rw [minus_S]
  cases cs with
  | nil => decide +kernel
  | cons c r =>
    have e : Txt.startswith (SX.S (c :: r)) (SX.S [45]) = (decide (0 + 1 ≤ (SX.S (c :: r)).length) && ((SX.S (c :: r)).cps.extract 0 (0 + 1) == #[45])) := rfl
    have e2 : (SX.S (c :: r)).cps.extract 0 (0 + 1) = #[c] := by
      apply Array.toList_inj.mp
      simp
    have e3 : (SX.S (c :: r)).length = r.length + 1 := SX.S_len (c :: r)
    rw [e, e2, e3, decide_eq_true (by omega)]
    simp
    by_cases h : c = 45
    · subst h
      rfl
    · rw [decide_eq_false h]
      exact beq_false_of_ne h
theorem from1 (cs : List Nat) : Txt.slice (SX.S cs) (some 1) none = SX.S (cs.drop 1) := SX.slice_from (i := 1) (by decide)
theorem to1 (cs : List Nat) : Txt.slice (SX.S cs) none (some 1) = SX.S (cs.take 1) := SX.slice_to (i := 1) (by decide)
theorem digits_of (cs : List Nat) : (if decide (cs.head? = some 45) = true then SX.S (cs.drop 1) else SX.S cs) = SX.S (digs cs) := by
  unfold digs
  by_cases c : cs.head? = some 45
  · rw [decide_eq_true c, if_pos rfl, if_pos c, List.drop_one]
  · rw [decide_eq_false c, if_neg (by decide), if_neg c]
theorem len_at' {cs : List Nat} (h : cs.length ≤ 10000000) : oLenT (.str (SX.S cs)) = .ret (.int (cs.length : Nat)) := by
  have e : (SX.S cs).length = cs.length := SX.S_len cs
  show (if (SX.S cs).length ≤ 10000000 then T.ret (PyData.int ((SX.S cs).length : Nat)) else .bad) = _
  rw [e, if_pos h]
theorem in_dig (c : Nat) : oInSign (.str ⟨#[c]⟩) (.str "0123456789") = .ret (.bool (isD c)) := by
  show T.ret (PyData.bool (decide (c ∈ ("0123456789" : Str).cps.toList))) = _
  have e : ("0123456789" : Str).cps.toList = [48, 49, 50, 51, 52, 53, 54, 55, 56, 57] := by decide +kernel
  rw [e]
  have e2 : decide (c ∈ [48, 49, 50, 51, 52, 53, 54, 55, 56, 57]) = isD c := by
    unfold isD
    by_cases h : 48 ≤ c ∧ c ≤ 57
    · rw [decide_eq_true h.1, decide_eq_true h.2]
      refine decide_eq_true ?_
      have : c = 48 ∨ c = 49 ∨ c = 50 ∨ c = 51 ∨ c = 52 ∨ c = 53 ∨ c = 54 ∨ c = 55 ∨ c = 56 ∨ c = 57 := by omega
      simp only [List.mem_cons, List.not_mem_nil, or_false]
      exact this
    · have : ¬ c ∈ [48, 49, 50, 51, 52, 53, 54, 55, 56, 57] := fun m => by
        simp only [List.mem_cons, List.not_mem_nil, or_false] at m
        omega
      rw [decide_eq_false this]
      by_cases h1 : 48 ≤ c
      · rw [decide_eq_true h1, decide_eq_false (by omega)]
        rfl
      · rw [decide_eq_false h1]
        rfl
  rw [e2]
theorem notin_dig (c : Nat) : oNotInSign (.str ⟨#[c]⟩) (.str "0123456789") = .ret (.bool (!isD c)) := by
  have h := in_dig c
  have e : oInSign (.str ⟨#[c]⟩) (.str "0123456789") = T.ret (PyData.bool (decide (c ∈ ("0123456789" : Str).cps.toList))) := rfl
  rw [e] at h
  injection h with h
  injection h with h
  show T.ret (PyData.bool (!decide (c ∈ ("0123456789" : Str).cps.toList))) = _
  rw [h]
def sgn (c : Nat) : D := .str ⟨#[c]⟩
theorem signs_S (cs : List Nat) : signsD (SX.S cs) = cs.map sgn := rfl
theorem all_lc {cs : List Nat} (hl : cs.length ≤ 1000000) (s0 s2 s3 : Sl) : eLc [3] (iStrE (eV 1)) (bName 3) tTrue (eBin oInSign (eV 3) (eC (.str "0123456789"))) [s0, .d (.str (SX.S cs)), s2, s3] = .ret (.list (cs.map fun c => .bool (isD c))) := by
  have e := lc_rows (ρ := wipeE [s0, .d (.str (SX.S cs)), s2, s3] [3]) (bd := bName 3) (t := tTrue) (e := eBin oInSign (eV 3) (eC (.str "0123456789"))) (mk := sgn) (f := fun c => .bool (isD c)) cs (fun c hc => ⟨_, rfl, rfl, by
    have q := in_dig c
    have q : oInSign (sgn c) (.str "0123456789") = .ret (.bool (isD c)) := q
    simp [q, wipeE]⟩)
  have s := signs_S cs
  exact eLc_ret (ds := cs.map sgn) (by simp [s]) (by rw [List.length_map]; exact hl) e
theorem filt_lc {cs : List Nat} (hl : cs.length ≤ 1000000) (s0 s2 : Sl) : eLc [2] (iStrE (eV 1)) (bName 2) (eBin oNotInSign (eV 2) (eC (.str "0123456789"))) (eV 2) [s0, .d (.str (SX.S cs)), s2] = .ret (.list ((cs.filter fun c => !isD c).map sgn)) := by
  have e := lc_rowsF (ρ := wipeE [s0, .d (.str (SX.S cs)), s2] [2]) (bd := bName 2) (t := eBin oNotInSign (eV 2) (eC (.str "0123456789"))) (e := eV 2) (mk := sgn) (f := sgn) (p := fun c => !isD c) cs (fun c hc => ⟨_, rfl, by
    have q := notin_dig c
    have q : oNotInSign (sgn c) (.str "0123456789") = .ret (.bool (!isD c)) := q
    simp [q, wipeE], fun _ => by simp [wipeE]⟩)
  have s := signs_S cs
  exact eLc_ret (ds := cs.map sgn) (by simp [s]) (by rw [List.length_map]; exact hl) e
theorem all_bools (cs : List Nat) : oAll (.list (cs.map fun c => .bool (isD c))) = .ret (.bool (cs.all isD)) := by
  have e : (cs.map fun c => PyData.bool (isD c)) = (cs.map isD).map PyData.bool := by rw [List.map_map]; rfl
  have b : boolsOf ((cs.map isD).map PyData.bool) = some (cs.map isD) := boolsOf_map _
  rw [e]
  show (match boolsOf ((cs.map isD).map PyData.bool) with
    | some bs => T.ret (PyData.bool (bs.all id))
    | none => .bad) = _
  rw [b]
  simp
/-! ### both readers of integers -/
theorem parse_integer_eq {cs : List Nat} (hl : cs.length ≤ 1000000) : m_parse_integer [.d (.str (SX.S cs))] = .ret (optD (num cs)) := by
  have st : oStartS (SX.S cs) (.str "-") = .ret (.bool (decide (cs.head? = some 45))) := by rw [oStartS_str, starts_eq]
  have sl : oSlX (.str (SX.S cs)) (some 1) none = .ret (.str (SX.S (cs.drop 1))) := by
    have e : (SX.S cs).length = cs.length := SX.S_len cs
    show (if (SX.S cs).length ≤ 10000000 then T.ret (PyData.str (Txt.slice (SX.S cs) (some 1) none)) else .bad) = _
    rw [e, if_pos (by omega), from1]
  have dg := digits_of cs
  have dl : (digs cs).length ≤ cs.length := by
    unfold digs
    split
    · rw [List.length_tail]
      omega
    · exact Nat.le_refl _
  have ln := len_at' (cs := digs cs) (by omega)
  have al := fun s0 s2 s3 => all_lc (cs := digs cs) (by omega) s0 s2 s3
  have ab := all_bools (digs cs)
  have iff1 : eIf (eSM oStartS (eV 0) (eC (.str "-"))) (eSlX (eV 0) (pSome (eC (.int 1))) pNone) (eV 0) [.d (.str (SX.S cs)), .no, .no, .no] = .ret (.str (SX.S (digs cs))) := by
    rw [← dg]
    generalize hz : decide (cs.head? = some 45) = b at *
    generalize SX.S (cs.drop 1) = R at *
    cases b with
    | true => simp [st, sl, -oStartS_str]
    | false => simp [st, -oStartS_str]
  have chE : ∀ s0 s2 s3 : Sl, (eCh oLe oLe (eC (.int 1)) (eCb (o1 oLenT) (aCons (eV 1) aNil)) (eC (.int 12))) [s0, .d (.str (SX.S (digs cs))), s2, s3] = .ret (.bool (decide (1 ≤ (digs cs).length) && decide ((digs cs).length ≤ 12))) := by
    intro s0 s2 s3
    have l1 : oLe (.int 1) (.int ((digs cs).length : Nat)) = .ret (.bool (decide (1 ≤ (digs cs).length))) := by
      show T.ret (PyData.bool (decide ((1 : Int) ≤ ((digs cs).length : Nat)))) = _
      rw [show decide ((1 : Int) ≤ ((digs cs).length : Nat)) = decide (1 ≤ (digs cs).length) from decide_eq_decide.mpr (by omega)]
    have l2 : oLe (.int ((digs cs).length : Nat)) (.int 12) = .ret (.bool (decide ((digs cs).length ≤ 12))) := by
      show T.ret (PyData.bool (decide (((digs cs).length : Int) ≤ 12))) = _
      rw [show decide (((digs cs).length : Int) ≤ 12) = decide ((digs cs).length ≤ 12) from decide_eq_decide.mpr (by omega)]
    generalize decide (1 ≤ (digs cs).length) = b1 at *
    generalize decide ((digs cs).length ≤ 12) = b2 at *
    generalize ((digs cs).length : Int) = LL at *
    generalize SX.S (digs cs) = DS at *
    cases b1 with
    | true => simp [ln, l1, l2]
    | false => simp [ln, l1]
  have hok : okD cs = (decide (1 ≤ (digs cs).length) && decide ((digs cs).length ≤ 12) && (digs cs).all isD) := rfl
  generalize hb : (decide (1 ≤ (digs cs).length) && decide ((digs cs).length ≤ 12)) = b at *
  generalize ha : (digs cs).all isD = a at *
  rw [mq_parse_integer]
  unfold F_parse_integer
  generalize eIf (eSM oStartS (eV 0) (eC (.str "-"))) (eSlX (eV 0) (pSome (eC (.int 1))) pNone) (eV 0) = E0 at *
  generalize (eLc [3] (iStrE (eV 1)) (bName 3) tTrue (eBin oInSign (eV 3) (eC (.str "0123456789")))) = E1 at *
  generalize (eCh oLe oLe (eC (.int 1)) (eCb (o1 oLenT) (aCons (eV 1) aNil)) (eC (.int 12))) = E2 at *
  generalize hL : PyData.list ((digs cs).map fun c => .bool (isD c)) = L at *
  by_cases c : okD cs = true
  · rw [hok, Bool.and_eq_true] at c
    obtain ⟨rfl, rfl⟩ := c
    have c : okD cs = true := hok
    obtain ⟨_, _, l12⟩ := okD_of c
    have l13 : cs.length ≤ 13 := by
      unfold digs at l12
      split at l12
      · rw [List.length_tail] at l12
        omega
      · omega
    have it := int_at c l13
    have sm := same_txt c
    have nm : num cs = (if (digs cs).head? = some 48 ∧ cs ≠ [48] then none else some (if cs.head? = some 45 then -((NumText.digitsVal (digs cs) : Nat) : Int) else ((NumText.digitsVal (digs cs) : Nat) : Int))) := by
      unfold num
      rw [if_pos c]
    have big : (if cs.head? = some 45 then -((NumText.digitsVal (digs cs) : Nat) : Int) else ((NumText.digitsVal (digs cs) : Nat) : Int)).natAbs < 10 ^ 50 := val_big c
    generalize (if cs.head? = some 45 then -((NumText.digitsVal (digs cs) : Nat) : Int) else ((NumText.digitsVal (digs cs) : Nat) : Int)) = i at *
    have oi : oIntT (.str (SX.S cs)) = .ret (.int i) := by
      have e : (SX.S cs).length = cs.length := SX.S_len cs
      show (match PySem.intText? (SX.S cs) with
        | some n => if (SX.S cs).length ≤ 640 then T.ret (PyData.int n) else .bad
        | none => .bad) = _
      rw [it]
      show (if (SX.S cs).length ≤ 640 then T.ret (PyData.int i) else .bad) = _
      rw [e, if_pos (by omega)]
    have si := str_at big
    by_cases k : (digs cs).head? = some 48 ∧ cs ≠ [48]
    · rw [nm, if_pos k]
      have q : oEq (.str (iT i)) (.str (SX.S cs)) = .ret (.bool false) := by
        rw [Wb.eq_str, beq_false_of_ne fun z => sm.mp z k]
      generalize PyData.str (SX.S cs) = Z at *
      generalize PyData.str (iT i) = Y at *
      simp [iff1, chE, al, ab, oi, si, q, optD]
    · rw [nm, if_neg k]
      have q : oEq (.str (iT i)) (.str (SX.S cs)) = .ret (.bool true) := by
        rw [Wb.eq_str, sm.mpr k, beq_self_eq_true]
      generalize PyData.str (SX.S cs) = Z at *
      generalize PyData.str (iT i) = Y at *
      simp [iff1, chE, al, ab, oi, si, q, optD]
  · have nm : num cs = none := by
      unfold num
      rw [if_neg c]
    rw [nm]
    have c : (b && a) = false := by
      rw [← hok]
      exact Bool.eq_false_iff.mpr c
    generalize PyData.str (SX.S cs) = Z at *
    generalize PyData.str (SX.S (digs cs)) = Y at *
    cases b with
    | false => simp [iff1, chE, optD]
    | true =>
      have : a = false := c
      subst this
      simp [iff1, chE, al, ab, optD]
/-! ### the law's reader -/
theorem law_number_eq {cs : List Nat} (hl : cs.length ≤ 1000000) : m_law_number [.d (.str (SX.S cs))] = .ret (optD (num cs)) := by
  have s1 : oSlX (.str (SX.S cs)) none (some 1) = .ret (.str (SX.S (cs.take 1))) := by
    have e : (SX.S cs).length = cs.length := SX.S_len cs
    show (if (SX.S cs).length ≤ 10000000 then T.ret (PyData.str (Txt.slice (SX.S cs) none (some 1))) else .bad) = _
    rw [e, if_pos (by omega), to1]
  have sl : oSlX (.str (SX.S cs)) (some 1) none = .ret (.str (SX.S (cs.drop 1))) := by
    have e : (SX.S cs).length = cs.length := SX.S_len cs
    show (if (SX.S cs).length ≤ 10000000 then T.ret (PyData.str (Txt.slice (SX.S cs) (some 1) none)) else .bad) = _
    rw [e, if_pos (by omega), from1]
  have m1 : oEq (.str (SX.S (cs.take 1))) (.str "-") = .ret (.bool (decide (cs.head? = some 45))) := by
    rw [Wb.eq_str, minus_S, SX.S_beq_eq]
    cases cs with
    | nil => rfl
    | cons c r => simp
  have dg := digits_of cs
  have dl : (digs cs).length ≤ cs.length := by
    unfold digs
    split
    · rw [List.length_tail]
      omega
    · exact Nat.le_refl _
  have ln := len_at' (cs := digs cs) (by omega)
  have fl := fun s0 s2 => filt_lc (cs := digs cs) (by omega) s0 s2
  have iff1 : eIf (eBin oEq (eSlX (eV 0) pNone (pSome (eC (.int 1)))) (eC (.str "-"))) (eSlX (eV 0) (pSome (eC (.int 1))) pNone) (eV 0) [.d (.str (SX.S cs)), .no, .no] = .ret (.str (SX.S (digs cs))) := by
    rw [← dg]
    generalize hz : decide (cs.head? = some 45) = b at *
    generalize SX.S (cs.drop 1) = R at *
    generalize SX.S (cs.take 1) = R1 at *
    cases b with
    | true => simp [s1, m1, sl]
    | false => simp [s1, m1]
  have e0 : oEq (.str (SX.S (digs cs))) (.str "") = .ret (.bool (decide ((digs cs).length = 0))) := by
    rw [Wb.eq_str, none_S, SX.S_beq_eq]
    rw [show decide (digs cs = []) = decide ((digs cs).length = 0) from decide_eq_decide.mpr List.length_eq_zero_iff.symm]
  have gt : oGt (.int ((digs cs).length : Nat)) (.int 12) = .ret (.bool (decide (12 < (digs cs).length))) := by
    show T.ret (PyData.bool (decide ((12 : Int) < ((digs cs).length : Nat)))) = _
    rw [show decide ((12 : Int) < ((digs cs).length : Nat)) = decide (12 < (digs cs).length) from decide_eq_decide.mpr (by omega)]
  have nn : oNeN (.list (((digs cs).filter fun c => !isD c).map sgn)) (.list []) = .ret (.bool (!(digs cs).all isD)) := by
    show T.ret (PyData.bool (!(((digs cs).filter fun c => !isD c).map sgn).isEmpty)) = _
    congr 3
    rw [Bool.eq_iff_iff, List.isEmpty_iff, List.map_eq_nil_iff, List.filter_eq_nil_iff, List.all_eq_true]
    constructor
    · intro h c hc
      have := h c hc
      simpa using this
    · intro h c hc
      rw [h c hc]
      decide
  rw [mq_law_number]
  unfold F_law_number
  generalize eIf (eBin oEq (eSlX (eV 0) pNone (pSome (eC (.int 1)))) (eC (.str "-"))) (eSlX (eV 0) (pSome (eC (.int 1))) pNone) (eV 0) = E0 at *
  generalize (eLc [2] (iStrE (eV 1)) (bName 2) (eBin oNotInSign (eV 2) (eC (.str "0123456789"))) (eV 2)) = E1 at *
  generalize hL : PyData.list (((digs cs).filter fun c => !isD c).map sgn) = L at *
  by_cases c : okD cs = true
  · obtain ⟨ad, dne, l12⟩ := okD_of c
    have c' := c
    unfold okD at c'
    rw [Bool.and_eq_true, Bool.and_eq_true] at c'
    obtain ⟨⟨c1, c2⟩, c3⟩ := c'
    have c1 := of_decide_eq_true c1
    rw [c3] at nn
    rw [decide_eq_false (by omega)] at e0
    rw [decide_eq_false (by omega)] at gt
    have l13 : cs.length ≤ 13 := by
      unfold digs at l12
      split at l12
      · rw [List.length_tail] at l12
        omega
      · omega
    have it := int_at c l13
    have nm : num cs = (if (digs cs).head? = some 48 ∧ cs ≠ [48] then none else some (if cs.head? = some 45 then -((NumText.digitsVal (digs cs) : Nat) : Int) else ((NumText.digitsVal (digs cs) : Nat) : Int))) := by
      unfold num
      rw [if_pos c]
    generalize (if cs.head? = some 45 then -((NumText.digitsVal (digs cs) : Nat) : Int) else ((NumText.digitsVal (digs cs) : Nat) : Int)) = i at *
    have oi : oIntT (.str (SX.S cs)) = .ret (.int i) := by
      have e : (SX.S cs).length = cs.length := SX.S_len cs
      show (match PySem.intText? (SX.S cs) with
        | some n => if (SX.S cs).length ≤ 640 then T.ret (PyData.int n) else .bad
        | none => .bad) = _
      rw [it]
      show (if (SX.S cs).length ≤ 640 then T.ret (PyData.int i) else .bad) = _
      rw [e, if_pos (by omega)]
    obtain ⟨d, r, hd⟩ : ∃ d r, digs cs = d :: r := by
      cases hh : digs cs with
      | nil => exact absurd hh dne
      | cons d r => exact ⟨d, r, rfl⟩
    have ix : oIxX (.str (SX.S (digs cs))) (.int 0) = .ret (.str (SX.S [d])) := by
      rw [hd]
      have e : (SX.S (d :: r)).length = (d :: r).length := SX.S_len _
      have l : (d :: r).length ≤ 12 := by rw [← hd]; exact l12
      show (if (SX.S (d :: r)).length ≤ 10000000 then (match atI (d :: r) 0 with
        | some c => T.ret (PyData.str ⟨#[c]⟩)
        | none => .bad) else .bad) = _
      have a0 : atI (d :: r) 0 = some d := by
        unfold atI ixN
        simp
      rw [e, if_pos (by omega), a0]
    have q1 : oEq (.str (SX.S [d])) (.str "0") = .ret (.bool (decide ((digs cs).head? = some 48))) := by
      rw [Wb.eq_str, zero_S, SX.S_beq_eq, hd]
      rw [show decide ([d] = [48]) = decide ((d :: r).head? = some 48) from decide_eq_decide.mpr (by simp)]
    have q2 : oNe (.str (SX.S cs)) (.str "0") = .ret (.bool (decide (cs ≠ [48]))) := by
      rw [Wb.ne_str, zero_S, SX.S_beq_eq]
      rw [show (!decide (cs = [48])) = decide (cs ≠ [48]) by simp]
    rw [nm]
    have tail : (if (digs cs).head? = some 48 ∧ cs ≠ [48] then (none : Option Int) else some i) = (if (decide ((digs cs).head? = some 48) && decide (cs ≠ [48])) = true then none else some i) := by
      by_cases k : (digs cs).head? = some 48 ∧ cs ≠ [48]
      · rw [if_pos k, decide_eq_true k.1, decide_eq_true k.2]
        rfl
      · rw [if_neg k, if_neg]
        intro z
        rw [Bool.and_eq_true, decide_eq_true_eq, decide_eq_true_eq] at z
        exact k z
    rw [tail]
    generalize decide ((digs cs).head? = some 48) = b1 at *
    generalize decide (cs ≠ [48]) = b2 at *
    generalize PyData.str (SX.S cs) = Z at *
    generalize PyData.str (SX.S (digs cs)) = Y at *
    generalize PyData.str (SX.S [d]) = X1 at *
    generalize ((digs cs).length : Int) = LL at *
    cases b1 with
    | true =>
      cases b2 with
      | true => simp [iff1, e0, ln, gt, fl, nn, ix, q1, q2, optD]
      | false => simp [iff1, e0, ln, gt, fl, nn, ix, q1, q2, oi, optD]
    | false => simp [iff1, e0, ln, gt, fl, nn, ix, q1, oi, optD]
  · have nm : num cs = none := by
      unfold num
      rw [if_neg c]
    rw [nm]
    have c' : okD cs = false := Bool.eq_false_iff.mpr c
    unfold okD at c'
    by_cases h1 : (digs cs).length = 0
    · rw [decide_eq_true h1] at e0
      generalize PyData.str (SX.S (digs cs)) = Y at *
      generalize PyData.str (SX.S cs) = Z at *
      simp [iff1, e0, optD]
    · rw [decide_eq_false h1] at e0
      by_cases h2 : 12 < (digs cs).length
      · rw [decide_eq_true h2] at gt
        generalize PyData.str (SX.S (digs cs)) = Y at *
        generalize PyData.str (SX.S cs) = Z at *
        generalize ((digs cs).length : Int) = LL at *
        simp [iff1, e0, ln, gt, optD]
      · rw [decide_eq_false h2] at gt
        rw [decide_eq_true (by omega), decide_eq_true (by omega)] at c'
        have c3 : (digs cs).all isD = false := c'
        rw [c3] at nn
        generalize PyData.str (SX.S (digs cs)) = Y at *
        generalize PyData.str (SX.S cs) = Z at *
        generalize ((digs cs).length : Int) = LL at *
        simp [iff1, e0, ln, gt, fl, nn, optD]
end Wk12
set_option Elab.async false
set_option linter.all false
set_option maxRecDepth 100000
set_option maxHeartbeats 4000000
namespace Wk12
open PySem PySem.Spec PyProof.Rows L2 Wb TL
/-! ### splits -/
def spS (s : Nat) (cs : List Nat) : List (List Nat) := spl [s] 0 [] cs
def mu (ps : List (List Nat)) : Nat := (ps.map fun p => p.length + 1).sum
theorem spl_mu (s : Nat) : ∀ (l acc : List Nat), mu (spl [s] 0 acc l) = acc.length + l.length + 1
  | [], acc => by
    rw [spl_nil]
    simp [mu]
  | c :: r, acc => by
    by_cases h : pre [s] (c :: r) = true
    · rw [spl_hit h]
      have ih := spl_mu s r []
      show mu (acc :: spl [s] 0 [] r) = _
      have e : mu (acc :: spl [s] 0 [] r) = acc.length + 1 + mu (spl [s] 0 [] r) := by simp [mu]
      rw [e, ih]
      simp only [List.length_nil, List.length_cons]
      omega
    · rw [spl_miss (Bool.eq_false_iff.mpr h)]
      have ih := spl_mu s r (acc ++ [c])
      rw [ih, List.length_append, List.length_singleton, List.length_cons]
      omega
theorem sp_mu (s : Nat) (cs : List Nat) : mu (spS s cs) = cs.length + 1 := by
  unfold spS
  rw [spl_mu]
  simp
theorem spl_mem (s : Nat) : ∀ (l acc : List Nat), ∀ p ∈ spl [s] 0 acc l, ∀ c ∈ p, c ∈ acc ∨ c ∈ l
  | [], acc => by
    rw [spl_nil]
    intro p hp c hc
    rw [List.mem_singleton.mp hp] at hc
    exact .inl hc
  | x :: r, acc => by
    intro p hp c hc
    by_cases h : pre [s] (x :: r) = true
    · rw [spl_hit h] at hp
      rcases List.mem_cons.mp hp with rfl | hp
      · exact .inl hc
      · rcases spl_mem s r [] p hp c hc with z | z
        · cases z
        · exact .inr (List.mem_cons_of_mem _ z)
    · rw [spl_miss (Bool.eq_false_iff.mpr h)] at hp
      rcases spl_mem s r (acc ++ [x]) p hp c hc with z | z
      · rcases List.mem_append.mp z with z | z
        · exact .inl z
        · rw [List.mem_singleton.mp z]
          exact .inr (List.mem_cons_self ..)
      · exact .inr (List.mem_cons_of_mem _ z)
theorem sp_mem {s : Nat} {cs p : List Nat} (h : p ∈ spS s cs) : ∀ c ∈ p, c ∈ cs := fun c hc => by
  rcases spl_mem s cs [] p h c hc with z | z
  · cases z
  · exact z
theorem mu_len : ∀ {ps : List (List Nat)}, ps.length ≤ mu ps
  | [] => Nat.zero_le _
  | p :: ps => by
    have := mu_len (ps := ps)
    have e : mu (p :: ps) = p.length + 1 + mu ps := by simp [mu]
    rw [e, List.length_cons]
    omega
theorem mu_mem : ∀ {ps : List (List Nat)} {p : List Nat}, p ∈ ps → p.length + 1 ≤ mu ps
  | q :: ps, p, h => by
    have e : mu (q :: ps) = q.length + 1 + mu ps := by simp [mu]
    rcases List.mem_cons.mp h with rfl | h
    · omega
    · have := mu_mem h
      omega
theorem spl_ln {s : Nat} {cs : List Nat} : (spS s cs).length ≤ cs.length + 1 := by
  have := mu_len (ps := spS s cs)
  rw [sp_mu] at this
  exact this
theorem sp_item {s : Nat} {cs p : List Nat} (h : p ∈ spS s cs) : p.length ≤ cs.length := by
  have := mu_mem h
  rw [sp_mu] at this
  omega
theorem sp_ne {s : Nat} {cs : List Nat} : spS s cs ≠ [] := fun z => by
  have := sp_mu s cs
  rw [z] at this
  simp [mu] at this
def strP (p : List Nat) : D := .str (SX.S p)
theorem split_eq {s : Nat} {z : Str} (ez : z = SX.S [s]) (hs : s < 256) {cs : List Nat} (hl : cs.length ≤ 10000000) : oSplitS (SX.S cs) (.str z) = .ret (.list ((spS s cs).map strP)) := by
  have e : (SX.S cs).length = cs.length := SX.S_len cs
  have e2 : (z.length == 0) = false := by
    rw [ez, SX.S_len]
    rfl
  rw [oSplitS_str, if_pos ⟨by rw [e]; exact hl, e2⟩, ez, SX.split_S (by simp) (by simp [hs]), List.map_map]
  rfl
theorem comma_S : ("," : Str) = SX.S [44] := by decide +kernel
theorem at_S : ("@" : Str) = SX.S [64] := by decide +kernel
theorem sp_S : (" " : Str) = SX.S [32] := by decide +kernel
/-! ### vectors -/
def numsO (cs : List Nat) : List (Option Int) := (spS 44 cs).map num
def noneB (os : List (Option Int)) : Bool := os.any (·.isNone)
def numsD (cs : List Nat) : List D := (numsO cs).map optD
theorem optD_fine (o : Option Int) (h : ∀ i, o = some i → i.natAbs < 10 ^ 50) : Fine 0 0 (optD o) := by
  cases o with
  | none => exact fine_none
  | some i => exact fine_int (h i rfl)
theorem nums_fine (cs : List Nat) : ∀ x ∈ numsD cs, Fine 0 0 x := fun x hx => by
  unfold numsD numsO at hx
  rw [List.map_map] at hx
  obtain ⟨p, hp, rfl⟩ := List.mem_map.mp hx
  exact optD_fine _ fun i hi => num_big hi
theorem in_none (cs : List Nat) : oInT .none (.list (numsD cs)) = .ret (.bool (noneB (numsO cs))) := by
  have f : cEq (.list (numsD cs)) = true := (fine_list (k := 0) (b := 0) (n := (numsD cs).length) (nums_fine cs) (Nat.le_refl _)).eq (by decide)
  have g : cEq .none = true := fine_none.eq (by decide)
  have a : (numsD cs).any (fun z => PyData.eqv z .none) = noneB (numsO cs) := by
    unfold numsD noneB
    rw [List.any_map]
    congr 1
    funext o
    cases o with
    | none => with_unfolding_all rfl
    | some i => with_unfolding_all rfl
  show (if (cEq .none && cEq (.list (numsD cs))) = true then T.ret (PyData.bool ((numsD cs).any fun z => PyData.eqv z .none)) else .bad) = _
  rw [f, g, a]
  rfl
def badV (n : Nat) (cs : List Nat) : Bool := noneB (numsO cs) || !decide (((numsD cs).length : Int) = (n : Nat))
def vecO (n : Nat) (cs : List Nat) : D := if badV n cs = true then .none else .tuple (numsD cs)
theorem items_lc {cs : List Nat} (hl : cs.length ≤ 999999) {k : Nat} {it : Env' → T (List D)} {E : Env' → T D} {ρ : Env'} (hi : it ρ = .ret ((spS 44 cs).map strP)) (he : ∀ p ∈ spS 44 cs, ∃ ρ1, bName k (strP p) (wipeE ρ [k]) = some ρ1 ∧ E ρ1 = .ret (optD (num p))) : eLc [k] it (bName k) tTrue E ρ = .ret (.list (numsD cs)) := by
  have e := lc_rows (ρ := wipeE ρ [k]) (bd := bName k) (t := tTrue) (e := E) (mk := strP) (f := fun p => optD (num p)) (spS 44 cs) (fun p hp => by
    obtain ⟨ρ1, h1, h2⟩ := he p hp
    exact ⟨ρ1, h1, rfl, h2⟩)
  have en : numsD cs = (spS 44 cs).map fun p => optD (num p) := by
    unfold numsD numsO
    rw [List.map_map]
    rfl
  rw [en]
  exact eLc_ret (ds := (spS 44 cs).map strP) hi (by
    have := spl_ln (s := 44) (cs := cs)
    rw [List.length_map]
    omega) e
theorem parse_vector_eq {n : Nat} {cs : List Nat} (hl : cs.length ≤ 999999) : m_parse_vector [.d (.int (n : Nat)), .d (.str (SX.S cs))] = .ret (vecO n cs) := by
  have sp := split_eq (s := 44) comma_S (by decide) (cs := cs) (by omega)
  have e := items_lc (cs := cs) hl (k := 3) (it := iSeq (eSM oSplitS (eV 1) (eC (.str ",")))) (E := eCall 1 m_parse_integer (aCons (eV 3) aNil)) (ρ := [.d (.int (n : Nat)), .d (.str (SX.S cs)), .no, .no]) (by simp [sp, -oSplitS_str]) (fun p hp => ⟨_, rfl, by
    have q := parse_integer_eq (cs := p) (by have := sp_item hp; omega)
    have q : m_parse_integer [.d (strP p)] = .ret (optD (num p)) := q
    simp [q, wipeE]⟩)
  have ni := in_none cs
  have nl : oNe (.int ((numsD cs).length : Nat)) (.int (n : Nat)) = .ret (.bool (!decide (((numsD cs).length : Int) = (n : Nat)))) := ne_ints _ _
  have ln : oLen [.d (.list (numsD cs))] = .ret (.int ((numsD cs).length : Nat)) := rfl
  have tp : oTupleOf (.list (numsD cs)) = .ret (.tuple (numsD cs)) := rfl
  rw [mq_parse_vector]
  unfold F_parse_vector vecO badV
  generalize eLc _ _ _ _ _ = E at *
  generalize noneB (numsO cs) = b1 at *
  generalize (!decide (((numsD cs).length : Int) = (n : Nat))) = b2 at *
  generalize PyData.list (numsD cs) = L at *
  generalize PyData.tuple (numsD cs) = TT at *
  generalize ((numsD cs).length : Int) = LL at *
  cases b1 with
  | true => simp [e, ni]
  | false =>
    cases b2 with
    | true => simp [e, ni, ln, nl]
    | false => simp [e, ni, ln, nl, tp]
/-! ### reads -/
def rdP (n : Nat) (p q : List Nat) : D := match num p with
  | none => .none
  | some s => if s < 0 then .none else if badV n q = true then .none else .tuple [.int s, .tuple (numsD q)]
theorem rdP_none {n : Nat} {p q : List Nat} (h : num p = none) : rdP n p q = .none := by
  unfold rdP
  rw [h]
theorem rdP_neg {n : Nat} {p q : List Nat} {s : Int} (h : num p = some s) (c : s < 0) : rdP n p q = .none := by
  unfold rdP
  rw [h]
  exact if_pos c
theorem rdP_bad {n : Nat} {p q : List Nat} {s : Int} (h : num p = some s) (c : ¬ s < 0) (b : badV n q = true) : rdP n p q = .none := by
  unfold rdP
  rw [h]
  show (if s < 0 then _ else _) = _
  rw [if_neg c, if_pos b]
theorem rdP_ok {n : Nat} {p q : List Nat} {s : Int} (h : num p = some s) (c : ¬ s < 0) (b : badV n q = false) : rdP n p q = .tuple [.int s, .tuple (numsD q)] := by
  unfold rdP
  rw [h]
  show (if s < 0 then _ else _) = _
  rw [if_neg c, if_neg (by rw [b]; decide)]
def rdO (n : Nat) (cs : List Nat) : D := match spS 64 cs with
  | [p, q] => rdP n p q
  | _ => .none
theorem parse_read_eq {n : Nat} {cs : List Nat} (hl : cs.length ≤ 999999) : m_parse_read [.d (.int (n : Nat)), .d (.str (SX.S cs))] = .ret (rdO n cs) := by
  have sp := split_eq (s := 64) at_S (by decide) (cs := cs) (by omega)
  have it := fun p (hp : p ∈ spS 64 cs) => sp_item hp
  unfold rdO
  match hS : spS 64 cs with
  | [p, q] =>
    rw [hS] at sp it
    have a := parse_integer_eq (cs := p) (by have := it p (by simp); omega)
    have b := parse_vector_eq (n := n) (cs := q) (by have := it q (by simp); omega)
    have sp : oSplitS (SX.S cs) (.str "@") = .ret (.list [.str (SX.S p), .str (SX.S q)]) := sp
    have i0 : oIx (.list [.str (SX.S p), .str (SX.S q)]) (.int 0) = .ret (.str (SX.S p)) := rfl
    have i1 : oIx (.list [.str (SX.S p), .str (SX.S q)]) (.int 1) = .ret (.str (SX.S q)) := rfl
    have ln : oLen [.d (.list [.str (SX.S p), .str (SX.S q)])] = .ret (.int 2) := rfl
    have n2 : oNe (.int 2) (.int 2) = .ret (.bool false) := by with_unfolding_all rfl
    rw [mq_parse_read]
    unfold F_parse_read
    generalize PyData.list [.str (SX.S p), .str (SX.S q)] = L at *
    generalize PyData.str (SX.S p) = P at *
    generalize PyData.str (SX.S q) = Q at *
    show _ = T.ret (rdP n p q)
    cases hn : num p with
    | none =>
      rw [hn] at a
      rw [rdP_none hn]
      simp [sp, ln, n2, i0, i1, a, b, optD, -oSplitS_str]
    | some s =>
      rw [hn] at a
      have a : m_parse_integer [.d P] = .ret (.int s) := a
      by_cases c : s < 0
      · rw [rdP_neg hn c]
        simp [sp, ln, n2, i0, i1, a, b, c, -oSplitS_str]
      · unfold vecO at b
        cases hb : badV n q with
        | true =>
          rw [hb, if_pos rfl] at b
          rw [rdP_bad hn c hb]
          simp [sp, ln, n2, i0, i1, a, b, c, -oSplitS_str]
        | false =>
          rw [hb, if_neg (by decide)] at b
          rw [rdP_ok hn c hb]
          simp [sp, ln, n2, i0, i1, a, b, c, -oSplitS_str]
  | [] => exact absurd hS sp_ne
  | [p] =>
    rw [hS] at sp
    have sp : oSplitS (SX.S cs) (.str "@") = .ret (.list [.str (SX.S p)]) := sp
    have ln : oLen [.d (.list [.str (SX.S p)])] = .ret (.int 1) := rfl
    have n2 : oNe (.int 1) (.int 2) = .ret (.bool true) := by with_unfolding_all rfl
    rw [mq_parse_read]
    unfold F_parse_read
    generalize PyData.list [.str (SX.S p)] = L at *
    simp [sp, ln, n2, -oSplitS_str]
  | p :: q :: r :: t =>
    rw [hS] at sp
    have ln : oLen [.d (.list ((p :: q :: r :: t).map strP))] = .ret (.int (((p :: q :: r :: t).map strP).length : Nat)) := rfl
    have n2 : oNe (.int (((p :: q :: r :: t).map strP).length : Nat)) (.int 2) = .ret (.bool true) := by
      rw [ne_ints, decide_eq_false (by simp only [List.length_map, List.length_cons]; omega)]
      rfl
    rw [mq_parse_read]
    unfold F_parse_read
    generalize PyData.list ((p :: q :: r :: t).map strP) = L at *
    generalize (((p :: q :: r :: t).map strP).length : Int) = LL at *
    simp [sp, ln, n2, -oSplitS_str]
theorem law_read_of_eq {n : Nat} {cs : List Nat} (hl : cs.length ≤ 999999) : m_law_read_of [.d (.int (n : Nat)), .d (.str (SX.S cs))] = .ret (rdO n cs) := by
  have sp := split_eq (s := 64) at_S (by decide) (cs := cs) (by omega)
  have it := fun p (hp : p ∈ spS 64 cs) => sp_item hp
  unfold rdO
  match hS : spS 64 cs with
  | [p, q] =>
    rw [hS] at sp it
    have lq : q.length ≤ 999999 := by have := it q (by simp); omega
    have a := law_number_eq (cs := p) (by have := it p (by simp); omega)
    have sp : oSplitS (SX.S cs) (.str "@") = .ret (.list [.str (SX.S p), .str (SX.S q)]) := sp
    have i0 : oIx (.list [.str (SX.S p), .str (SX.S q)]) (.int 0) = .ret (.str (SX.S p)) := rfl
    have i1 : oIx (.list [.str (SX.S p), .str (SX.S q)]) (.int 1) = .ret (.str (SX.S q)) := rfl
    have ln : oLen [.d (.list [.str (SX.S p), .str (SX.S q)])] = .ret (.int 2) := rfl
    have n2 : oNe (.int 2) (.int 2) = .ret (.bool false) := by with_unfolding_all rfl
    have sq := split_eq (s := 44) comma_S (by decide) (cs := q) (by omega)
    have b : ∀ s3 s4, eLc [5] (iSeq (eSM oSplitS (eBin oIx (eV 2) (eC (.int 1))) (eC (.str ",")))) (bName 5) tTrue (eCall 1 m_law_number (aCons (eV 5) aNil)) [.d (.int (n : Nat)), .d (.str (SX.S cs)), .d (.list [.str (SX.S p), .str (SX.S q)]), s3, s4, .no] = .ret (.list (numsD q)) := fun s3 s4 => by
      refine items_lc (cs := q) lq (k := 5) (it := iSeq (eSM oSplitS (eBin oIx (eV 2) (eC (.int 1))) (eC (.str ",")))) (E := eCall 1 m_law_number (aCons (eV 5) aNil)) (ρ := [.d (.int (n : Nat)), .d (.str (SX.S cs)), .d (.list [.str (SX.S p), .str (SX.S q)]), s3, s4, .no]) ?_ (fun p' hp => ⟨_, rfl, by
        have z := law_number_eq (cs := p') (by have := sp_item hp; omega)
        have z : m_law_number [.d (strP p')] = .ret (optD (num p')) := z
        simp [z, wipeE]⟩)
      generalize PyData.list [.str (SX.S p), .str (SX.S q)] = L at *
      simp [i1, sq, -oSplitS_str]
    have ni := in_none q
    have nl : oNe (.int ((numsD q).length : Nat)) (.int (n : Nat)) = .ret (.bool (!decide (((numsD q).length : Int) = (n : Nat)))) := ne_ints _ _
    have lnq : oLen [.d (.list (numsD q))] = .ret (.int ((numsD q).length : Nat)) := rfl
    have tp : oTupleOf (.list (numsD q)) = .ret (.tuple (numsD q)) := rfl
    have bv : badV n q = (noneB (numsO q) || !decide (((numsD q).length : Int) = (n : Nat))) := rfl
    rw [mq_law_read_of]
    unfold F_law_read_of
    show _ = T.ret (rdP n p q)
    generalize eLc _ _ _ _ _ = E at *
    generalize PyData.list [.str (SX.S p), .str (SX.S q)] = L at *
    generalize PyData.str (SX.S p) = P at *
    generalize PyData.str (SX.S q) = Q at *
    generalize noneB (numsO q) = b1 at *
    generalize (!decide (((numsD q).length : Int) = (n : Nat))) = b2 at *
    generalize PyData.list (numsD q) = LQ at *
    generalize ((numsD q).length : Int) = LL at *
    cases hn : num p with
    | none =>
      rw [hn] at a
      rw [rdP_none hn]
      simp [sp, ln, n2, i0, i1, a, b, optD, -oSplitS_str]
    | some s =>
      rw [hn] at a
      have a : m_law_number [.d P] = .ret (.int s) := a
      by_cases c : s < 0
      · rw [rdP_neg hn c]
        simp [sp, ln, n2, i0, i1, a, b, c, -oSplitS_str]
      · cases b1 with
        | true =>
          rw [rdP_bad hn c bv]
          simp [sp, ln, n2, i0, i1, a, b, c, ni, -oSplitS_str]
        | false =>
          cases b2 with
          | true =>
            rw [rdP_bad hn c bv]
            simp [sp, ln, n2, i0, i1, a, b, c, ni, lnq, nl, -oSplitS_str]
          | false =>
            rw [rdP_ok hn c bv]
            generalize hq : PyData.tuple (numsD q) = TQ at *
            simp [sp, ln, n2, i0, i1, a, b, c, ni, lnq, nl, tp, -oSplitS_str]
  | [] => exact absurd hS sp_ne
  | [p] =>
    rw [hS] at sp
    have sp : oSplitS (SX.S cs) (.str "@") = .ret (.list [.str (SX.S p)]) := sp
    have ln : oLen [.d (.list [.str (SX.S p)])] = .ret (.int 1) := rfl
    have n2 : oNe (.int 1) (.int 2) = .ret (.bool true) := by with_unfolding_all rfl
    rw [mq_law_read_of]
    unfold F_law_read_of
    generalize PyData.list [.str (SX.S p)] = L at *
    simp [sp, ln, n2, -oSplitS_str]
  | p :: q :: r :: t =>
    rw [hS] at sp
    have ln : oLen [.d (.list ((p :: q :: r :: t).map strP))] = .ret (.int (((p :: q :: r :: t).map strP).length : Nat)) := rfl
    have n2 : oNe (.int (((p :: q :: r :: t).map strP).length : Nat)) (.int 2) = .ret (.bool true) := by
      rw [ne_ints, decide_eq_false (by simp only [List.length_map, List.length_cons]; omega)]
      rfl
    rw [mq_law_read_of]
    unfold F_law_read_of
    generalize PyData.list ((p :: q :: r :: t).map strP) = L at *
    generalize (((p :: q :: r :: t).map strP).length : Int) = LL at *
    simp [sp, ln, n2, -oSplitS_str]
end Wk12
set_option Elab.async false
set_option linter.all false
set_option maxRecDepth 100000
set_option maxHeartbeats 4000000
namespace Wk12
open PySem PySem.Spec PyProof.Rows L2 Wb TL
/-! ### kinds -/
def kd (k : List Nat) : Option Int := kv_KINDS.lookup (SX.S k)
theorem look_str (z : Str) : ∀ kvs : List (Str × Int), lookK (kvs.map fun p => (PyData.str p.1, PyData.int p.2)) (.inr z) = (kvs.lookup z).map PyData.int
  | [] => rfl
  | p :: r => by
    have ih := look_str z r
    rw [List.map_cons]
    unfold lookK
    obtain ⟨k, v⟩ := p
    show (if (some (Sum.inr k) : Option Key) = some (.inr z) then some (PyData.int v) else lookK _ _) = _
    rw [ih]
    by_cases h : z = k
    · subst h
      rw [if_pos rfl]
      simp [List.lookup]
    · rw [if_neg (by
        intro e
        injection e with e
        injection e with e
        exact h e.symm)]
      rw [List.lookup_cons, beq_false_of_ne h]
theorem kindsD_is : kindsD = .dict (kv_KINDS.map fun p => (PyData.str p.1, PyData.int p.2)) := rfl
theorem kd_in (k : List Nat) : oDNotIn (strP k) kindsD = .ret (.bool (!(kd k).isSome)) := by
  rw [kindsD_is]
  show T.ret (PyData.bool (!(lookK (kv_KINDS.map fun p => (PyData.str p.1, PyData.int p.2)) (.inr (SX.S k))).isSome)) = _
  rw [look_str]
  unfold kd
  rw [Option.isSome_map]
theorem kd_get {k : List Nat} {i : Int} (h : kd k = some i) : oDGet kindsD (strP k) = .ret (.int i) := by
  rw [kindsD_is]
  show (match lookK (kv_KINDS.map fun p => (PyData.str p.1, PyData.int p.2)) (.inr (SX.S k)) with
    | some v => T.ret v
    | none => .bad) = _
  unfold kd at h
  rw [look_str, h]
  rfl
theorem kd_kin (k : List Nat) : oKNotIn kv_KINDS (strP k) = .ret (.bool (!(kd k).isSome)) := oKNotIn_str
theorem kd_kget {k : List Nat} {i : Int} (h : kd k = some i) : oKGet kv_KINDS (strP k) = .ret (.int i) := by
  have e : oKGet kv_KINDS (strP k) = (match kd k with | some i => T.ret (PyData.int i) | none => .bad) := oKGet_str
  rw [e, h]
theorem lookup_mem {z : Str} {i : Int} : ∀ {kvs : List (Str × Int)}, kvs.lookup z = some i → (z, i) ∈ kvs
  | [], h => by cases h
  | (k, v) :: r, h => by
    rw [List.lookup_cons] at h
    by_cases e : (z == k) = true
    · rw [e] at h
      cases h
      rw [eq_of_beq e]
      exact List.mem_cons_self ..
    · rw [Bool.eq_false_iff.mpr e] at h
      exact List.mem_cons_of_mem _ (lookup_mem h)
theorem kd_rng {k : List Nat} {i : Int} (h : kd k = some i) : ∃ m : Nat, i = m ∧ 1 ≤ m ∧ m ≤ 3 := by
  have a : ∀ p ∈ kv_KINDS, 1 ≤ p.2 ∧ p.2 ≤ 3 := by decide +kernel
  have := a _ (lookup_mem h)
  exact ⟨i.toNat, by omega, by omega, by omega⟩
theorem kd_word {k : List Nat} {i : Int} (h : kd k = some i) : ∃ p ∈ KL, SX.S k = p.1 ∧ i = (p.2 : Nat) := by
  have a : ∀ p ∈ kv_KINDS, ∃ q ∈ KL, p.1 = q.1 ∧ p.2 = (q.2 : Nat) := by decide +kernel
  exact a _ (lookup_mem h)
/-! ### what the reading of a rule tells -/
def isNo : D → Bool := fun x => match x with
  | .none => true
  | _ => false
theorem isN_eq (x : D) : oIsN x .none = .ret (.bool (isNo x)) := rfl
abbrev Ws := List (List Nat)
structure WOk (W : Ws) : Prop where
  len : W.length ≤ 1000000
  it : ∀ w ∈ W, w.length ≤ 999999
theorem w_at {W : Ws} {a : Nat} {w : List Nat} (h : W[a]? = some w) : oIx (.list (W.map strP)) (.int (a : Nat)) = .ret (strP w) := ix_at (by rw [List.getElem?_map, h]; rfl)
theorem w_len {W : Ws} : oLen [.d (.list (W.map strP))] = .ret (.int (W.length : Nat)) := by
  show T.ret (PyData.int ((W.map strP).length : Nat)) = _
  rw [List.length_map]
theorem w_lt {W : Ws} {a : Nat} {w : List Nat} (h : W[a]? = some w) : a < W.length := by
  rcases Nat.lt_or_ge a W.length with z | z
  · exact z
  · rw [List.getElem?_eq_none z] at h
    cases h
theorem lt_at (a b : Nat) : oLt (.int (a : Nat)) (.int (b : Nat)) = .ret (.bool (decide (a < b))) := by
  show T.ret (PyData.bool (decide ((a : Int) < (b : Nat)))) = _
  rw [show decide ((a : Int) < (b : Nat)) = decide (a < b) from decide_eq_decide.mpr (by omega)]
def readsR (n : Nat) (W : Ws) : Nat → Nat → List D → Sum Nat (List D)
  | 0, _, acc => .inr acc
  | k + 1, j, acc => match W[j]? with
    | none => .inl j
    | some w => if isNo (rdO n w) = true then .inl j else readsR n W k (j + 1) (acc ++ [rdO n w])
def badX (j : Nat) : Exn := ⟨"BadText", [("index", .int (j : Nat))]⟩
theorem read_step {n : Nat} {W : Ws} (hW : WOk W) {j : Nat} {acc : List D} (ha : acc.length < 1000) (s2 s3 s6 : Sl) :
    B0_parse_rule [.d (.int (n : Nat)), .d (.list (W.map strP)), s2, s3, .own acc, .d (.int (j : Nat)), s6] = (match W[j]? with
      | none => .ret (.exc (badX j) [.d (.int (n : Nat)), .d (.list (W.map strP)), s2, s3, .own acc, .d (.int (j : Nat)), .d .none])
      | some w => if isNo (rdO n w) = true then .ret (.exc (badX j) [.d (.int (n : Nat)), .d (.list (W.map strP)), s2, s3, .own acc, .d (.int (j : Nat)), .d (rdO n w)]) else .ret (.nx [.d (.int (n : Nat)), .d (.list (W.map strP)), s2, s3, .own (acc ++ [rdO n w]), .d (.int (j : Nat)), .d (rdO n w)])) := by
  have ll := w_len (W := W)
  have lt := lt_at j W.length
  have ha' : acc.length < 1000000 := by omega
  unfold B0_parse_rule
  cases hw : W[j]? with
  | none =>
    have hj : ¬ j < W.length := by
      intro z
      rw [List.getElem?_eq_getElem z] at hw
      cases hw
    rw [decide_eq_false hj] at lt
    generalize PyData.list (W.map strP) = WD at *
    have nn : oIsN .none .none = .ret (.bool true) := rfl
    generalize ((W.length : Nat) : Int) = LW at *
    simp [ll, lt, nn, badX]
  | some w =>
    have hj := w_lt hw
    rw [decide_eq_true hj] at lt
    have ix := w_at hw
    have p := parse_read_eq (n := n) (cs := w) (hW.it w (List.mem_of_getElem? hw))
    have p : m_parse_read [.d (.int (n : Nat)), .d (strP w)] = .ret (rdO n w) := p
    have isn := isN_eq (rdO n w)
    show _ = (if isNo (rdO n w) = true then T.ret (Fl.exc (badX j) [.d (.int (n : Nat)), .d (.list (W.map strP)), s2, s3, .own acc, .d (.int (j : Nat)), .d (rdO n w)]) else .ret (.nx [.d (.int (n : Nat)), .d (.list (W.map strP)), s2, s3, .own (acc ++ [rdO n w]), .d (.int (j : Nat)), .d (rdO n w)]))
    generalize rdO n w = R at *
    generalize PyData.list (W.map strP) = WD at *
    generalize strP w = SW at *
    generalize ((W.length : Nat) : Int) = LW at *
    generalize isNo R = b at *
    cases b with
    | true => simp [ll, lt, ix, p, isn, badX]
    | false => simp [ll, lt, ix, p, isn, sApp, ha']
theorem reads_go {n : Nat} {W : Ws} (hW : WOk W) (s2 s3 : Sl) : ∀ (k j : Nat) (acc : List D) (s5 s6 : Sl), acc.length + k ≤ 1000 → (match readsR n W k j acc with
    | .inl j' => ∃ ρ', forGo (bName 5) B0_parse_rule (rangeD (j : Nat) k) [.d (.int (n : Nat)), .d (.list (W.map strP)), s2, s3, .own acc, s5, s6] = .ret (.exc (badX j') ρ')
    | .inr ds => ∃ t5 t6, forGo (bName 5) B0_parse_rule (rangeD (j : Nat) k) [.d (.int (n : Nat)), .d (.list (W.map strP)), s2, s3, .own acc, s5, s6] = .ret (.nx [.d (.int (n : Nat)), .d (.list (W.map strP)), s2, s3, .own ds, t5, t6]))
  | 0, j, acc, s5, s6, _ => ⟨s5, s6, rfl⟩
  | k + 1, j, acc, s5, s6, ha => by
    have st := read_step (n := n) hW (j := j) (acc := acc) (by omega) s2 s3 s6
    have un : ∀ t : T Fl, B0_parse_rule [.d (.int (n : Nat)), .d (.list (W.map strP)), s2, s3, .own acc, .d (.int (j : Nat)), s6] = t → forGo (bName 5) B0_parse_rule (rangeD (j : Nat) (k + 1)) [.d (.int (n : Nat)), .d (.list (W.map strP)), s2, s3, .own acc, s5, s6] = t.bind (fun fl => match fl with
        | .nx ρ' => forGo (bName 5) B0_parse_rule (rangeD ((j + 1 : Nat) : Int) k) ρ'
        | .cnt ρ' => forGo (bName 5) B0_parse_rule (rangeD ((j + 1 : Nat) : Int) k) ρ'
        | .brk ρ' => .ret (.nx ρ')
        | .ret d => .ret (.ret d)
        | .exc x ρ' => .ret (.exc x ρ')) := by
      intro t ht
      rw [rangeD_succ, ← ht]
      rfl
    unfold readsR
    cases hw : W[j]? with
    | none =>
      rw [hw] at st
      exact ⟨_, un _ st⟩
    | some w =>
      rw [hw] at st
      have st : B0_parse_rule [.d (.int (n : Nat)), .d (.list (W.map strP)), s2, s3, .own acc, .d (.int (j : Nat)), s6] = if isNo (rdO n w) = true then .ret (.exc (badX j) [.d (.int (n : Nat)), .d (.list (W.map strP)), s2, s3, .own acc, .d (.int (j : Nat)), .d (rdO n w)]) else .ret (.nx [.d (.int (n : Nat)), .d (.list (W.map strP)), s2, s3, .own (acc ++ [rdO n w]), .d (.int (j : Nat)), .d (rdO n w)]) := st
      by_cases c : isNo (rdO n w) = true
      · rw [if_pos c] at st
        have e := un _ st
        show (match (if isNo (rdO n w) = true then Sum.inl j else readsR n W k (j + 1) (acc ++ [rdO n w])) with
          | .inl j' => _
          | .inr ds => _)
        rw [if_pos c]
        exact ⟨_, e⟩
      · rw [if_neg c] at st
        have e := un _ st
        have ih := reads_go (n := n) hW s2 s3 k (j + 1) (acc ++ [rdO n w]) (.d (.int (j : Nat))) (.d (rdO n w)) (by rw [List.length_append, List.length_singleton]; omega)
        show (match (if isNo (rdO n w) = true then Sum.inl j else readsR n W k (j + 1) (acc ++ [rdO n w])) with
          | .inl j' => _
          | .inr ds => _)
        rw [if_neg c]
        cases hr : readsR n W k (j + 1) (acc ++ [rdO n w]) with
        | inl j' =>
          rw [hr] at ih
          obtain ⟨ρ', z⟩ := ih
          exact ⟨ρ', e.trans z⟩
        | inr ds =>
          rw [hr] at ih
          obtain ⟨t5, t6, z⟩ := ih
          exact ⟨t5, t6, e.trans z⟩
end Wk12
set_option Elab.async false
set_option linter.all false
set_option maxRecDepth 100000
set_option maxHeartbeats 4000000
namespace Wk12
open PySem PySem.Spec PyProof.Rows L2 Wb TL
theorem slash_S : ("/" : Str) = SX.S [47] := by decide +kernel
theorem readsR_len {n : Nat} {W : Ws} : ∀ {k j : Nat} {acc ds : List D}, readsR n W k j acc = .inr ds → ds.length = acc.length + k ∧ (k = 0 ∨ j + k ≤ W.length)
  | 0, j, acc, ds, h => by
    cases h
    exact ⟨rfl, .inl rfl⟩
  | k + 1, j, acc, ds, h => by
    unfold readsR at h
    split at h
    · cases h
    · next w hw =>
      split at h
      · cases h
      · obtain ⟨a, b⟩ := readsR_len h
        rw [List.length_append, List.length_singleton] at a
        have := w_lt hw
        exact ⟨by omega, .inr (by omega)⟩
theorem readsR_acc {n : Nat} {W : Ws} {pre : List D} : ∀ (k j : Nat) (acc : List D), readsR n W k j (pre ++ acc) = (match readsR n W k j acc with
    | .inl j' => .inl j'
    | .inr ds => .inr (pre ++ ds))
  | 0, j, acc => rfl
  | k + 1, j, acc => by
    unfold readsR
    cases hw : W[j]? with
    | none => rfl
    | some w =>
      by_cases c : isNo (rdO n w) = true
      · simp only [c, if_true]
      · simp only [c, if_false, Bool.false_eq_true]
        rw [List.append_assoc, readsR_acc k (j + 1) (acc ++ [rdO n w])]
def ruleR (n : Nat) (W : Ws) (a : Nat) : Sum Nat (D × Nat) := if W[a]? = some [47] then (match W[a + 1]? with
  | none => .inl (a + 1)
  | some k => match kd k with
    | none => .inl (a + 1)
    | some i => match readsR n W i.toNat (a + 2) [] with
      | .inl j => .inl j
      | .inr ds => .inr (.tuple (strP k :: ds), i.toNat)) else .inl a
theorem ruleR_no {n : Nat} {W : Ws} {a : Nat} (h : ¬ W[a]? = some [47]) : ruleR n W a = .inl a := by
  unfold ruleR
  rw [if_neg h]
theorem ruleR_end {n : Nat} {W : Ws} {a : Nat} (h : W[a]? = some [47]) (h1 : W[a + 1]? = none) : ruleR n W a = .inl (a + 1) := by
  unfold ruleR
  rw [if_pos h, h1]
theorem ruleR_kind {n : Nat} {W : Ws} {a : Nat} {k : List Nat} (h : W[a]? = some [47]) (h1 : W[a + 1]? = some k) (h2 : kd k = none) : ruleR n W a = .inl (a + 1) := by
  unfold ruleR
  rw [if_pos h, h1]
  simp only [h2]
theorem ruleR_in {n : Nat} {W : Ws} {a m j : Nat} {k : List Nat} (h : W[a]? = some [47]) (h1 : W[a + 1]? = some k) (h2 : kd k = some ((m : Nat) : Int)) (h3 : readsR n W m (a + 2) [] = .inl j) : ruleR n W a = .inl j := by
  unfold ruleR
  rw [if_pos h, h1]
  have tn : ((m : Nat) : Int).toNat = m := by omega
  simp only [h2, tn, h3]
theorem ruleR_ok {n : Nat} {W : Ws} {a m : Nat} {k : List Nat} {ds : List D} (h : W[a]? = some [47]) (h1 : W[a + 1]? = some k) (h2 : kd k = some ((m : Nat) : Int)) (h3 : readsR n W m (a + 2) [] = .inr ds) : ruleR n W a = .inr (.tuple (strP k :: ds), m) := by
  unfold ruleR
  rw [if_pos h, h1]
  have tn : ((m : Nat) : Int).toNat = m := by omega
  simp only [h2, tn, h3]
theorem eq_at (a b : Nat) : oEq (.int (a : Nat)) (.int (b : Nat)) = .ret (.bool (decide (a = b))) := by
  rw [eq_ints, show decide ((a : Int) = (b : Nat)) = decide (a = b) from decide_eq_decide.mpr (by omega)]
theorem ne_slash (w : List Nat) : oNe (strP w) (.str "/") = .ret (.bool (!decide (w = [47]))) := by
  show oNe (.str (SX.S w)) (.str "/") = _
  rw [Wb.ne_str, slash_S, SX.S_beq_eq]
theorem rg2 (a k : Nat) (h : a ≤ 1000000) (hk : k ≤ 10) : oRng2 [.d (.int ((a : Nat) + 2)), .d (.int ((a : Nat) + 2 + ((k : Nat) : Int)))] = .ret (rangeD ((a + 2 : Nat) : Int) k) := by
  have c : (((a : Nat) : Int) + 2).natAbs < 1000000000000 ∧ (((a : Nat) : Int) + 2 + ((k : Nat) : Int)).natAbs < 1000000000000 := by omega
  show (if _ then _ else _) = _
  rw [if_pos c]
  have e : ((((a : Nat) : Int) + 2 + ((k : Nat) : Int)) - (((a : Nat) : Int) + 2)).toNat = k := by omega
  rw [e]
  rfl
theorem parse_rule_eq {n : Nat} {W : Ws} (hW : WOk W) {a : Nat} (ha : a ≤ W.length) : m_parse_rule [.d (.int (n : Nat)), .d (.list (W.map strP)), .d (.int (a : Nat))] = (match ruleR n W a with
    | .inl j => .exc (badX j)
    | .inr p => .ret p.1) := by
  have ll := w_len (W := W)
  have e0 := eq_at a W.length
  have wl := hW.len
  rw [mq_parse_rule]
  unfold F_parse_rule
  by_cases c0 : W[a]? = some [47]
  · have h0 := w_lt c0
    rw [decide_eq_false (by omega)] at e0
    have ix0 := w_at c0
    have n0 := ne_slash [47]
    rw [decide_eq_true rfl] at n0
    have n0 : oNe (strP [47]) (.str "/") = .ret (.bool false) := n0
    have e1 : oEq (.int ((a : Nat) + 1)) (.int (W.length : Nat)) = .ret (.bool (decide (a + 1 = W.length))) := eq_at (a + 1) W.length
    cases hw : W[a + 1]? with
    | none =>
      have h1 : a + 1 = W.length := by
        rcases Nat.lt_or_ge (a + 1) W.length with z | z
        · rw [List.getElem?_eq_getElem z] at hw
          cases hw
        · omega
      rw [decide_eq_true h1] at e1
      rw [ruleR_end c0 hw]
      show _ = T.exc (badX (a + 1))
      generalize B0_parse_rule = B at *
      generalize PyData.list (W.map strP) = WD at *
      generalize ((W.length : Nat) : Int) = LW at *
      generalize strP [47] = SL at *
      generalize hS : PyData.str "/" = S at *
      simp [ll, e0, ix0, n0, e1, badX]
    | some k =>
      have h1 := w_lt hw
      rw [decide_eq_false (by omega)] at e1
      have ix1 : oIx (.list (W.map strP)) (.int ((a : Nat) + 1)) = .ret (strP k) := w_at hw
      have kn := kd_kin k
      cases hk : kd k with
      | none =>
        rw [hk] at kn
        have kn : oKNotIn kv_KINDS (strP k) = .ret (.bool true) := kn
        rw [ruleR_kind c0 hw hk]
        show _ = T.exc (badX (a + 1))
        generalize B0_parse_rule = B at *
        generalize PyData.list (W.map strP) = WD at *
        generalize ((W.length : Nat) : Int) = LW at *
        generalize strP [47] = SL at *
        generalize strP k = SK at *
        generalize hS : PyData.str "/" = S at *
        simp [ll, e0, ix0, n0, e1, ix1, kn, badX]
      | some i =>
        obtain ⟨m, rfl, m1, m3⟩ := kd_rng hk
        rw [hk] at kn
        have kn : oKNotIn kv_KINDS (strP k) = .ret (.bool false) := kn
        have kg := kd_kget hk
        have rg := rg2 a m (by omega) (by omega)
        have g := reads_go (n := n) hW (.d (.int (a : Nat))) (.d (strP k)) m (a + 2) [] .no .no (by simp; omega)
        cases hr : readsR n W m (a + 2) [] with
        | inl j =>
          rw [hr] at g
          obtain ⟨ρ', g⟩ := g
          rw [ruleR_in c0 hw hk hr]
          show _ = T.exc (badX j)
          generalize B0_parse_rule = B at *
          generalize PyData.list (W.map strP) = WD at *
          generalize ((W.length : Nat) : Int) = LW at *
          generalize strP [47] = SL at *
          generalize strP k = SK at *
          generalize hS : PyData.str "/" = S at *
          generalize rangeD ((a + 2 : Nat) : Int) m = RG at *
          generalize ((m : Nat) : Int) = mm at *
          simp [ll, e0, ix0, n0, e1, ix1, kn, kg, rg, g]
        | inr ds =>
          have dl := (readsR_len hr).1
          rw [hr] at g
          obtain ⟨t5, t6, g⟩ := g
          have ad : oAdd (.tuple [strP k]) (.tuple ds) = .ret (.tuple (strP k :: ds)) := if_pos (by rw [List.length_singleton, dl]; simp; omega)
          have tp : oTupleOf (.list ds) = .ret (.tuple ds) := rfl
          rw [ruleR_ok c0 hw hk hr]
          show _ = T.ret (PyData.tuple (strP k :: ds))
          generalize B0_parse_rule = B at *
          generalize PyData.list (W.map strP) = WD at *
          generalize ((W.length : Nat) : Int) = LW at *
          generalize strP [47] = SL at *
          generalize PyData.tuple (strP k :: ds) = RD at *
          generalize strP k = SK at *
          generalize hS : PyData.str "/" = S at *
          generalize rangeD ((a + 2 : Nat) : Int) m = RG at *
          generalize ((m : Nat) : Int) = mm at *
          simp [ll, e0, ix0, n0, e1, ix1, kn, kg, rg, g, sFrz, tp, ad]
  · rw [ruleR_no c0]
    show _ = T.exc (badX a)
    generalize B0_parse_rule = B at *
    cases hw : W[a]? with
    | none =>
      have h1 : a = W.length := by
        rcases Nat.lt_or_ge a W.length with z | z
        · rw [List.getElem?_eq_getElem z] at hw
          cases hw
        · omega
      rw [decide_eq_true h1] at e0
      generalize PyData.list (W.map strP) = WD at *
      generalize ((W.length : Nat) : Int) = LW at *
      simp [ll, e0, badX]
    | some w =>
      have h1 := w_lt hw
      rw [decide_eq_false (by omega)] at e0
      have ix0 := w_at hw
      have n0 := ne_slash w
      rw [decide_eq_false (fun z => c0 (by rw [hw, z]))] at n0
      have n0 : oNe (strP w) (.str "/") = .ret (.bool true) := n0
      generalize PyData.list (W.map strP) = WD at *
      generalize ((W.length : Nat) : Int) = LW at *
      generalize strP w = SW at *
      generalize hS : PyData.str "/" = S at *
      simp [ll, e0, ix0, n0, badX]
end Wk12
set_option Elab.async false
set_option linter.all false
set_option maxRecDepth 100000
set_option maxHeartbeats 4000000
namespace Wk12
open PySem PySem.Spec PyProof.Rows L2 Wb TL
def goB (W : Ws) (a : Nat) (acc : List D) : Bool := decide (a < W.length) || acc.isEmpty
def loopR (n : Nat) (W : Ws) : Nat → Nat → List D → Sum Nat (List D)
  | 0, _, acc => .inr acc
  | f + 1, a, acc => if goB W a acc = true then (match ruleR n W a with
    | .inl j => .inl j
    | .inr p => loopR n W f (a + 2 + p.2) (acc ++ [p.1])) else .inr acc
theorem ruleR_le {n : Nat} {W : Ws} {a : Nat} {p : D × Nat} (h : ruleR n W a = .inr p) : a + 2 + p.2 ≤ W.length ∧ 1 ≤ p.2 ∧ ∃ k ds, kd k = some ((p.2 : Nat) : Int) ∧ readsR n W p.2 (a + 2) [] = .inr ds ∧ p.1 = .tuple (strP k :: ds) ∧ ds.length = p.2 := by
  by_cases c0 : W[a]? = some [47]
  · cases hw : W[a + 1]? with
    | none =>
      rw [ruleR_end c0 hw] at h
      cases h
    | some k =>
      cases hk : kd k with
      | none =>
        rw [ruleR_kind c0 hw hk] at h
        cases h
      | some i =>
        obtain ⟨m, rfl, m1, m3⟩ := kd_rng hk
        cases hr : readsR n W m (a + 2) [] with
        | inl j =>
          rw [ruleR_in c0 hw hk hr] at h
          cases h
        | inr ds =>
          rw [ruleR_ok c0 hw hk hr] at h
          cases h
          obtain ⟨l1, l2⟩ := readsR_len hr
          simp only [List.length_nil] at l1
          exact ⟨by omega, m1, k, ds, hk, hr, rfl, by omega⟩
  · rw [ruleR_no c0] at h
    cases h
abbrev condP : Env' → T D := (eOr (eBin oLt (eV 4) (eCb oLen (aCons (eV 1) aNil))) (eUn oNot (eONe 3)))
abbrev bodyP : Env' → T Fl := (sSeq (sSet 5 (eCall 3 m_parse_rule (aCons (eV 2) (aCons (eV 1) (aCons (eV 4) aNil))))) (sSeq (sApp 3 (eV 5)) (sSet 4 (eBin oAdd (eBin oAdd (eV 4) (eC (.int 1))) (eCb oLen (aCons (eV 5) aNil))))))
theorem cond_eq (n : Nat) (W : Ws) (a : Nat) (acc : List D) (s0 s5 s6 s7 : Sl) : condP [s0, .d (.list (W.map strP)), .d (.int (n : Nat)), .own acc, .d (.int (a : Nat)), s5, s6, s7] = .ret (.bool (goB W a acc)) := by
  have ll := w_len (W := W)
  have lt := lt_at a W.length
  unfold condP goB
  generalize decide (a < W.length) = b at *
  generalize PyData.list (W.map strP) = WD at *
  generalize ((W.length : Nat) : Int) = LW at *
  have nb : (!!acc.isEmpty) = acc.isEmpty := by cases acc <;> rfl
  cases b with
  | true => simp [ll, lt]
  | false =>
    cases acc with
    | nil => simp [ll, lt]
    | cons x y => simp [ll, lt]
theorem body_exc {n : Nat} {W : Ws} (hW : WOk W) {a j : Nat} (ha : a ≤ W.length) (h : ruleR n W a = .inl j) (acc : List D) (s0 s5 s6 s7 : Sl) :
    bodyP [s0, .d (.list (W.map strP)), .d (.int (n : Nat)), .own acc, .d (.int (a : Nat)), s5, s6, s7] = .ret (.exc (badX j) [s0, .d (.list (W.map strP)), .d (.int (n : Nat)), .own acc, .d (.int (a : Nat)), s5, s6, s7]) := by
  have p := parse_rule_eq (n := n) hW ha
  rw [h] at p
  have p : m_parse_rule [.d (.int (n : Nat)), .d (.list (W.map strP)), .d (.int (a : Nat))] = .exc (badX j) := p
  unfold bodyP
  generalize PyData.list (W.map strP) = WD at *
  generalize badX j = X at *
  simp [p]
theorem body_nx {n : Nat} {W : Ws} (hW : WOk W) {a : Nat} {p : D × Nat} (ha : a ≤ W.length) (h : ruleR n W a = .inr p) {acc : List D} (hc : acc.length < 1000000) (s0 s5 s6 s7 : Sl) :
    bodyP [s0, .d (.list (W.map strP)), .d (.int (n : Nat)), .own acc, .d (.int (a : Nat)), s5, s6, s7] = .ret (.nx [s0, .d (.list (W.map strP)), .d (.int (n : Nat)), .own (acc ++ [p.1]), .d (.int ((a + 2 + p.2 : Nat) : Int)), .d p.1, s6, s7]) := by
  have q := parse_rule_eq (n := n) hW ha
  rw [h] at q
  have q : m_parse_rule [.d (.int (n : Nat)), .d (.list (W.map strP)), .d (.int (a : Nat))] = .ret p.1 := q
  obtain ⟨_, _, k, ds, _, _, e, dl⟩ := ruleR_le h
  have ln : oLen [.d p.1] = .ret (.int ((p.2 + 1 : Nat) : Int)) := by
    rw [e]
    show T.ret (PyData.int (((strP k :: ds).length : Nat) : Int)) = _
    rw [List.length_cons, dl]
  have ae : ((a : Nat) : Int) + 1 + ((p.2 + 1 : Nat) : Int) = ((a + 2 + p.2 : Nat) : Int) := by omega
  unfold bodyP
  generalize p.1 = R at *
  generalize PyData.list (W.map strP) = WD at *
  generalize ((a + 2 + p.2 : Nat) : Int) = Z at *
  generalize ((p.2 + 1 : Nat) : Int) = Y at *
  simp [q, sApp, hc, ln, ae]
theorem loop_eq {n : Nat} {W : Ws} (hW : WOk W) (s0 s6 s7 : Sl) : ∀ (f a : Nat) (acc : List D) (m : Nat) (s5 : Sl), W.length < a + f → f ≤ m → a ≤ W.length → acc.length < a → (match loopR n W f a acc with
    | .inl j => ∃ ρ', whGo condP bodyP m [s0, .d (.list (W.map strP)), .d (.int (n : Nat)), .own acc, .d (.int (a : Nat)), s5, s6, s7] = .ret (.exc (badX j) ρ')
    | .inr ds => ∃ a' s5', whGo condP bodyP m [s0, .d (.list (W.map strP)), .d (.int (n : Nat)), .own acc, .d (.int (a : Nat)), s5, s6, s7] = .ret (.nx [s0, .d (.list (W.map strP)), .d (.int (n : Nat)), .own ds, a', s5', s6, s7]))
  | 0, a, acc, m, s5, h1, _, h3, _ => by omega
  | f + 1, a, acc, 0, s5, _, h2, _, _ => by omega
  | f + 1, a, acc, m + 1, s5, h1, h2, h3, h4 => by
    have wl := hW.len
    have c := cond_eq n W a acc s0 s5 s6 s7
    have un : ∀ b : Bool, goB W a acc = b → whGo condP bodyP (m + 1) [s0, .d (.list (W.map strP)), .d (.int (n : Nat)), .own acc, .d (.int (a : Nat)), s5, s6, s7] = onB ((bodyP [s0, .d (.list (W.map strP)), .d (.int (n : Nat)), .own acc, .d (.int (a : Nat)), s5, s6, s7]).bind fun fl => match fl with
        | .nx ρ' => whGo condP bodyP m ρ'
        | .cnt ρ' => whGo condP bodyP m ρ'
        | .brk ρ' => .ret (.nx ρ')
        | .ret d => .ret (.ret d)
        | .exc x ρ' => .ret (.exc x ρ')) (.ret (.nx [s0, .d (.list (W.map strP)), .d (.int (n : Nat)), .own acc, .d (.int (a : Nat)), s5, s6, s7])) (.bool b) := by
      intro b hb
      rw [hb] at c
      show (condP _).lift _ _ = _
      rw [c]
      rfl
    unfold loopR
    cases g : goB W a acc with
    | false =>
      rw [if_neg (by decide)]
      exact ⟨_, _, un false g⟩
    | true =>
      rw [if_pos rfl]
      cases r : ruleR n W a with
      | inl j =>
        have b := body_exc hW h3 r acc s0 s5 s6 s7
        have u := un true g
        rw [b] at u
        exact ⟨_, u⟩
      | inr p =>
        have b := body_nx hW h3 r (acc := acc) (by omega) s0 s5 s6 s7
        have u := un true g
        rw [b] at u
        obtain ⟨l1, l2, _⟩ := ruleR_le r
        have ih := loop_eq (n := n) hW s0 s6 s7 f (a + 2 + p.2) (acc ++ [p.1]) m (.d p.1) (by omega) (by omega) l1 (by rw [List.length_append, List.length_singleton]; omega)
        show (match loopR n W f (a + 2 + p.2) (acc ++ [p.1]) with
          | .inl j => _
          | .inr ds => _)
        cases hr : loopR n W f (a + 2 + p.2) (acc ++ [p.1]) with
        | inl j =>
          rw [hr] at ih
          obtain ⟨ρ', e⟩ := ih
          exact ⟨ρ', u.trans e⟩
        | inr ds =>
          rw [hr] at ih
          obtain ⟨a', s5', e⟩ := ih
          exact ⟨a', s5', u.trans e⟩
/-! ### the whole text -/
structure TOk (cs : List Nat) : Prop where
  len : cs.length ≤ 999998
  asc : ∀ c ∈ cs, c < 128
theorem ws_ok {cs : List Nat} (h : TOk cs) : WOk (spS 32 cs) := by
  have l := h.len
  have := spl_ln (s := 32) (cs := cs)
  exact ⟨by omega, fun w hw => by have := sp_item hw; omega⟩
def dimR (w : List Nat) : Option Nat := if w = [50] then some 2 else if w = [51] then some 3 else none
def firstW (cs : List Nat) : List Nat := (spS 32 cs).headD []
def res (cs : List Nat) : Sum (Sum Nat D) D := match dimR (firstW cs) with
  | none => .inl (.inl 0)
  | some n => match loopR n (spS 32 cs) ((spS 32 cs).length + 5) 1 [] with
    | .inl j => .inl (.inl j)
    | .inr ds => if isNo (flowE (.tuple [.int (n : Nat), .tuple ds])) = true then .inr (.tuple [.int (n : Nat), .tuple ds]) else .inl (.inr (flowE (.tuple [.int (n : Nat), .tuple ds])))
theorem two_S : ("2" : Str) = SX.S [50] := by decide +kernel
theorem three_S : ("3" : Str) = SX.S [51] := by decide +kernel
theorem cEq_asc {w : List Nat} (h : ∀ c ∈ w, c < 128) : cEq (strP w) = true := by
  have k : PyData.strOk (SX.S w) = true := by
    unfold PyData.strOk
    rw [← Array.all_toList, List.all_eq_true]
    intro c hc
    exact decide_eq_true (Nat.lt_trans (h c hc) (by decide))
  unfold strP cEq SeqAt.shaped
  simp only [PyData.hasDict, PyData.canLay0, PyData.depth, k, Bool.not_false, Bool.true_and]
  exact decide_eq_true (by omega)
theorem first_in {w : List Nat} (h : ∀ c ∈ w, c < 128) : oNotInT (strP w) (.tuple [.str "2", .str "3"]) = .ret (.bool (!(dimR w).isSome)) := by
  have c1 := cEq_asc h
  have c2 : cEq (.tuple [.str "2", .str "3"]) = true := by decide +kernel
  have a : ([PyData.str "2", .str "3"].any fun z => PyData.eqv z (strP w)) = (dimR w).isSome := by
    unfold strP dimR
    rw [two_S, three_S]
    simp only [List.any_cons, List.any_nil, PyData.eqv, Bool.or_false]
    by_cases e1 : w = [50]
    · subst e1
      decide
    · by_cases e2 : w = [51]
      · subst e2
        decide
      · rw [if_neg e1, if_neg e2]
        have n1 : ¬ SX.S [50] = SX.S w := fun z => e1 (SX.S_inj z).symm
        have n2 : ¬ SX.S [51] = SX.S w := fun z => e2 (SX.S_inj z).symm
        simp [n1, n2]
  show (if (cEq (strP w) && cEq (.tuple [.str "2", .str "3"])) = true then T.ret (PyData.bool (![PyData.str "2", .str "3"].any fun z => PyData.eqv z (strP w))) else .bad) = _
  rw [c1, c2, a]
  rfl
theorem dim_int {w : List Nat} {n : Nat} (h : dimR w = some n) : oIntT (strP w) = .ret (.int (n : Nat)) ∧ (n = 2 ∨ n = 3) := by
  unfold dimR at h
  split at h
  · next e =>
    cases h
    rw [e]
    exact ⟨retB_eq (n := 5) (by decide +kernel), .inl rfl⟩
  · split at h
    · next e =>
      cases h
      rw [e]
      exact ⟨retB_eq (n := 5) (by decide +kernel), .inr rfl⟩
    · cases h
theorem ws_first (cs : List Nat) : (spS 32 cs)[0]? = some (firstW cs) := by
  unfold firstW
  cases h : spS 32 cs with
  | nil => exact absurd h sp_ne
  | cons a r => rfl
end Wk12
set_option Elab.async false
set_option linter.all false
set_option maxRecDepth 100000
set_option maxHeartbeats 4000000
namespace Wk12
open PySem PySem.Spec PyProof.Rows L2 Wb TL
def flowX (e : D) : Exn := ⟨"BadFlow", [("error", e)]⟩
def resP (r : Sum (Sum Nat D) D) : T D := match r with
  | .inl (.inl j) => .exc (badX j)
  | .inl (.inr e) => .exc (flowX e)
  | .inr F => .ret F
theorem notN_eq (x : D) : oNotN x .none = .ret (.bool (!isNo x)) := by cases x <;> rfl
theorem res_dim {cs : List Nat} (h : dimR (firstW cs) = none) : res cs = .inl (.inl 0) := by
  unfold res
  rw [h]
theorem res_in {cs : List Nat} {n j : Nat} (h : dimR (firstW cs) = some n) (h2 : loopR n (spS 32 cs) ((spS 32 cs).length + 5) 1 [] = .inl j) : res cs = .inl (.inl j) := by
  unfold res
  rw [h]
  simp only [h2]
theorem res_ok {cs : List Nat} {n : Nat} {ds : List D} (h : dimR (firstW cs) = some n) (h2 : loopR n (spS 32 cs) ((spS 32 cs).length + 5) 1 [] = .inr ds) (h3 : isNo (flowE (.tuple [.int (n : Nat), .tuple ds])) = true) : res cs = .inr (.tuple [.int (n : Nat), .tuple ds]) := by
  unfold res
  rw [h]
  simp only [h2]
  exact if_pos h3
theorem res_bad {cs : List Nat} {n : Nat} {ds : List D} (h : dimR (firstW cs) = some n) (h2 : loopR n (spS 32 cs) ((spS 32 cs).length + 5) 1 [] = .inr ds) (h3 : isNo (flowE (.tuple [.int (n : Nat), .tuple ds])) = false) : res cs = .inl (.inr (flowE (.tuple [.int (n : Nat), .tuple ds]))) := by
  unfold res
  rw [h]
  simp only [h2]
  exact if_neg (by rw [h3]; decide)
theorem parse_flow_eq {cs : List Nat} (h : TOk cs) : m_parse_flow [.d (.str (SX.S cs))] = resP (res cs) := by
  have hW := ws_ok h
  have l := h.len
  have wl := spl_ln (s := 32) (cs := cs)
  have sp := split_eq (s := 32) sp_S (by decide) (cs := cs) (by omega)
  have w0 := ws_first cs
  have ix : oIx (.list ((spS 32 cs).map strP)) (.int 0) = .ret (strP (firstW cs)) := w_at (a := 0) w0
  have mem : firstW cs ∈ spS 32 cs := List.mem_of_getElem? w0
  have fi := first_in (w := firstW cs) fun c hc => h.asc c (sp_mem mem c hc)
  have iss : oIsI "str" (.str (SX.S cs)) = .ret (.bool true) := by with_unfolding_all rfl
  have sp' : eSM oSplitS (eV 0) (eC (.str " ")) [.d (.str (SX.S cs)), .no, .no, .no, .no, .no, .no, .no] = .ret (.list ((spS 32 cs).map strP)) := sp
  rw [mq_parse_flow]
  unfold F_parse_flow
  generalize hW5 : (1000000000 : Nat) = M at *
  have hM : (spS 32 cs).length + 5 ≤ M := by omega
  cases hd : dimR (firstW cs) with
  | none =>
    rw [hd] at fi
    have fi : oNotInT (strP (firstW cs)) (.tuple [.str "2", .str "3"]) = .ret (.bool true) := fi
    rw [res_dim hd]
    show _ = T.exc (badX 0)
    generalize (sWhile M _ _) = WH at *
    generalize PyData.list ((spS 32 cs).map strP) = WD at *
    generalize PyData.str (SX.S cs) = TD at *
    generalize strP (firstW cs) = S0 at *
    generalize eSM oSplitS (eV 0) (eC (.str " ")) = SE at *
    simp [iss, sp', ix, fi, badX]
  | some n =>
    rw [hd] at fi
    have fi : oNotInT (strP (firstW cs)) (.tuple [.str "2", .str "3"]) = .ret (.bool false) := fi
    obtain ⟨di, n23⟩ := dim_int hd
    have lp := loop_eq (n := n) hW (.d (.str (SX.S cs))) .no .no ((spS 32 cs).length + 5) 1 [] M .no (by omega) hM (by
      have := sp_ne (s := 32) (cs := cs)
      cases hh : spS 32 cs with
      | nil => exact absurd hh this
      | cons a r => simp) (by simp)
    have c1 : ((1 : Nat) : Int) = 1 := rfl
    rw [c1] at lp
    cases hr : loopR n (spS 32 cs) ((spS 32 cs).length + 5) 1 [] with
    | inl j =>
      rw [hr] at lp
      obtain ⟨ρ', e⟩ := lp
      rw [res_in hd hr]
      show _ = T.exc (badX j)
      unfold condP bodyP at e
      generalize (eOr (eBin oLt (eV 4) (eCb oLen (aCons (eV 1) aNil))) (eUn oNot (eONe 3))) = C at *
      generalize (sSeq (sSet 5 (eCall 3 m_parse_rule (aCons (eV 2) (aCons (eV 1) (aCons (eV 4) aNil))))) (sSeq (sApp 3 (eV 5)) (sSet 4 (eBin oAdd (eBin oAdd (eV 4) (eC (.int 1))) (eCb oLen (aCons (eV 5) aNil)))))) = B at *
      generalize PyData.list ((spS 32 cs).map strP) = WD at *
      generalize PyData.str (SX.S cs) = TD at *
      generalize strP (firstW cs) = S0 at *
      generalize eSM oSplitS (eV 0) (eC (.str " ")) = SE at *
      generalize ((n : Nat) : Int) = nn at *
      generalize badX j = X at *
      simp [iss, sp', ix, fi, di, e]
    | inr ds =>
      rw [hr] at lp
      obtain ⟨a', s5', e⟩ := lp
      have fe := flow_error_eq (.tuple [.int (n : Nat), .tuple ds])
      have nn := notN_eq (flowE (.tuple [.int (n : Nat), .tuple ds]))
      have tp : oTupleOf (.list ds) = .ret (.tuple ds) := rfl
      have fin : resP (res cs) = (if isNo (flowE (.tuple [.int (n : Nat), .tuple ds])) = true then .ret (.tuple [.int (n : Nat), .tuple ds]) else .exc (flowX (flowE (.tuple [.int (n : Nat), .tuple ds])))) := by
        cases k : isNo (flowE (.tuple [.int (n : Nat), .tuple ds])) with
        | true =>
          rw [res_ok hd hr k]
          rfl
        | false =>
          rw [res_bad hd hr k]
          rfl
      rw [fin]
      unfold condP bodyP at e
      generalize (eOr (eBin oLt (eV 4) (eCb oLen (aCons (eV 1) aNil))) (eUn oNot (eONe 3))) = C at *
      generalize (sSeq (sSet 5 (eCall 3 m_parse_rule (aCons (eV 2) (aCons (eV 1) (aCons (eV 4) aNil))))) (sSeq (sApp 3 (eV 5)) (sSet 4 (eBin oAdd (eBin oAdd (eV 4) (eC (.int 1))) (eCb oLen (aCons (eV 5) aNil)))))) = B at *
      generalize PyData.list ((spS 32 cs).map strP) = WD at *
      generalize PyData.str (SX.S cs) = TD at *
      generalize strP (firstW cs) = S0 at *
      generalize eSM oSplitS (eV 0) (eC (.str " ")) = SE at *
      generalize ((n : Nat) : Int) = nI at *
      generalize PyData.tuple ds = DT at *
      generalize flowE (.tuple [.int nI, DT]) = FE at *
      generalize hF : PyData.tuple [.int nI, DT] = FT at *
      generalize isNo FE = b at *
      cases b with
      | true => simp [iss, sp', ix, fi, di, e, sFrz, tp, hF, fe, nn]
      | false => simp [iss, sp', ix, fi, di, e, sFrz, tp, hF, fe, nn, flowX]
end Wk12
set_option Elab.async false
set_option linter.all false
set_option maxRecDepth 100000
set_option maxHeartbeats 4000000
namespace Wk12
open PySem PySem.Spec PyProof.Rows L2 Wb TL
abbrev condL : Env' → T D := (eOr (eBin oLt (eV 5) (eCb oLen (aCons (eV 1) aNil))) (eOEq 4))
abbrev bodyL : Env' → T Fl := (sSeq (sIf (eOr (eBin oGe (eV 5) (eCb oLen (aCons (eV 1) aNil))) (eBin oNe (eBin oIx (eV 1) (eV 5)) (eC (.str "/")))) (sRet (eLst (aCons (eC (.str "text")) (aCons (eV 5) aNil)))) sNil) (sSeq (sIf (eOr (eBin oGe (eBin oAdd (eV 5) (eC (.int 1))) (eCb oLen (aCons (eV 1) aNil))) (eBin oDNotIn (eBin oIx (eV 1) (eBin oAdd (eV 5) (eC (.int 1)))) (eV 2))) (sRet (eLst (aCons (eC (.str "text")) (aCons (eBin oAdd (eV 5) (eC (.int 1))) aNil)))) sNil) (sSeq (sParOL 6 7 (lLst (aCons (eBin oIx (eV 1) (eBin oAdd (eV 5) (eC (.int 1)))) aNil)) (eBin oDGet (eV 2) (eBin oIx (eV 1) (eBin oAdd (eV 5) (eC (.int 1)))))) (sSeq (sFor (iArg oRng2 (aCons (eBin oAdd (eV 5) (eC (.int 2))) (aCons (eBin oAdd (eBin oAdd (eV 5) (eC (.int 2))) (eV 7)) aNil))) (bName 8) B0_law_due) (sFrz 6 (sSeq (sApp 4 (eCb (o1 oTupleOf) (aCons (eV 6) aNil))) (sSet 5 (eBin oAdd (eBin oAdd (eV 5) (eC (.int 2))) (eV 7)))))))))
def textD (j : Nat) : D := .list [.str "text", .int (j : Nat)]
theorem ge_at (a b : Nat) : oGe (.int (a : Nat)) (.int (b : Nat)) = .ret (.bool (decide (b ≤ a))) := by
  show T.ret (PyData.bool (decide (((b : Nat) : Int) ≤ (a : Nat)))) = _
  rw [show decide (((b : Nat) : Int) ≤ (a : Nat)) = decide (b ≤ a) from decide_eq_decide.mpr (by omega)]
theorem condL_eq (n : Nat) (W : Ws) (a : Nat) (acc : List D) (s0 s2 s6 s7 s8 s9 s10 : Sl) : condL [s0, .d (.list (W.map strP)), s2, .d (.int (n : Nat)), .own acc, .d (.int (a : Nat)), s6, s7, s8, s9, s10] = .ret (.bool (goB W a acc)) := by
  have ll := w_len (W := W)
  have lt := lt_at a W.length
  unfold condL goB
  generalize decide (a < W.length) = b at *
  generalize PyData.list (W.map strP) = WD at *
  generalize ((W.length : Nat) : Int) = LW at *
  cases b with
  | true => simp [ll, lt]
  | false => simp [ll, lt]
theorem lread_step {n : Nat} {W : Ws} (hW : WOk W) {j : Nat} {acc : List D} (ha : acc.length < 1000) (s0 s2 s4 s5 s7 s9 s10 : Sl) :
    B0_law_due [s0, .d (.list (W.map strP)), s2, .d (.int (n : Nat)), s4, s5, .own acc, s7, .d (.int (j : Nat)), s9, s10] = (match W[j]? with
      | none => .ret (.ret (textD j))
      | some w => if isNo (rdO n w) = true then .ret (.ret (textD j)) else .ret (.nx [s0, .d (.list (W.map strP)), s2, .d (.int (n : Nat)), s4, s5, .own (acc ++ [rdO n w]), s7, .d (.int (j : Nat)), .d (rdO n w), s10])) := by
  have ll := w_len (W := W)
  have lt := lt_at j W.length
  have ha' : acc.length < 1000000 := by omega
  unfold B0_law_due
  cases hw : W[j]? with
  | none =>
    have hj : ¬ j < W.length := by
      intro z
      rw [List.getElem?_eq_getElem z] at hw
      cases hw
    rw [decide_eq_false hj] at lt
    show _ = T.ret (Fl.ret (textD j))
    generalize PyData.list (W.map strP) = WD at *
    have nn : oIsN .none .none = .ret (.bool true) := rfl
    generalize ((W.length : Nat) : Int) = LW at *
    simp [ll, lt, nn, textD]
  | some w =>
    have hj := w_lt hw
    rw [decide_eq_true hj] at lt
    have ix := w_at hw
    have p := law_read_of_eq (n := n) (cs := w) (hW.it w (List.mem_of_getElem? hw))
    have p : m_law_read_of [.d (.int (n : Nat)), .d (strP w)] = .ret (rdO n w) := p
    have isn := isN_eq (rdO n w)
    show _ = (if isNo (rdO n w) = true then T.ret (Fl.ret (textD j)) else .ret (.nx [s0, .d (.list (W.map strP)), s2, .d (.int (n : Nat)), s4, s5, .own (acc ++ [rdO n w]), s7, .d (.int (j : Nat)), .d (rdO n w), s10]))
    generalize rdO n w = R at *
    generalize PyData.list (W.map strP) = WD at *
    generalize strP w = SW at *
    generalize ((W.length : Nat) : Int) = LW at *
    generalize isNo R = b at *
    cases b with
    | true => simp [ll, lt, ix, p, isn, textD]
    | false => simp [ll, lt, ix, p, isn, sApp, ha']
theorem lreads_go {n : Nat} {W : Ws} (hW : WOk W) (s0 s2 s4 s5 s7 s10 : Sl) : ∀ (k j : Nat) (acc : List D) (s8 s9 : Sl), acc.length + k ≤ 1000 → (match readsR n W k j acc with
    | .inl j' => forGo (bName 8) B0_law_due (rangeD (j : Nat) k) [s0, .d (.list (W.map strP)), s2, .d (.int (n : Nat)), s4, s5, .own acc, s7, s8, s9, s10] = .ret (.ret (textD j'))
    | .inr ds => ∃ t8 t9, forGo (bName 8) B0_law_due (rangeD (j : Nat) k) [s0, .d (.list (W.map strP)), s2, .d (.int (n : Nat)), s4, s5, .own acc, s7, s8, s9, s10] = .ret (.nx [s0, .d (.list (W.map strP)), s2, .d (.int (n : Nat)), s4, s5, .own ds, s7, t8, t9, s10]))
  | 0, j, acc, s8, s9, _ => ⟨s8, s9, rfl⟩
  | k + 1, j, acc, s8, s9, ha => by
    have st := lread_step (n := n) hW (j := j) (acc := acc) (by omega) s0 s2 s4 s5 s7 s9 s10
    have un : ∀ t : T Fl, B0_law_due [s0, .d (.list (W.map strP)), s2, .d (.int (n : Nat)), s4, s5, .own acc, s7, .d (.int (j : Nat)), s9, s10] = t → forGo (bName 8) B0_law_due (rangeD (j : Nat) (k + 1)) [s0, .d (.list (W.map strP)), s2, .d (.int (n : Nat)), s4, s5, .own acc, s7, s8, s9, s10] = t.bind (fun fl => match fl with
        | .nx ρ' => forGo (bName 8) B0_law_due (rangeD ((j + 1 : Nat) : Int) k) ρ'
        | .cnt ρ' => forGo (bName 8) B0_law_due (rangeD ((j + 1 : Nat) : Int) k) ρ'
        | .brk ρ' => .ret (.nx ρ')
        | .ret d => .ret (.ret d)
        | .exc x ρ' => .ret (.exc x ρ')) := by
      intro t ht
      rw [rangeD_succ, ← ht]
      rfl
    unfold readsR
    cases hw : W[j]? with
    | none =>
      rw [hw] at st
      exact un _ st
    | some w =>
      rw [hw] at st
      have st : B0_law_due [s0, .d (.list (W.map strP)), s2, .d (.int (n : Nat)), s4, s5, .own acc, s7, .d (.int (j : Nat)), s9, s10] = if isNo (rdO n w) = true then .ret (.ret (textD j)) else .ret (.nx [s0, .d (.list (W.map strP)), s2, .d (.int (n : Nat)), s4, s5, .own (acc ++ [rdO n w]), s7, .d (.int (j : Nat)), .d (rdO n w), s10]) := st
      by_cases c : isNo (rdO n w) = true
      · rw [if_pos c] at st
        have e := un _ st
        show (match (if isNo (rdO n w) = true then Sum.inl j else readsR n W k (j + 1) (acc ++ [rdO n w])) with
          | .inl j' => _
          | .inr ds => _)
        rw [if_pos c]
        exact e
      · rw [if_neg c] at st
        have e := un _ st
        have ih := lreads_go (n := n) hW s0 s2 s4 s5 s7 s10 k (j + 1) (acc ++ [rdO n w]) (.d (.int (j : Nat))) (.d (rdO n w)) (by rw [List.length_append, List.length_singleton]; omega)
        show (match (if isNo (rdO n w) = true then Sum.inl j else readsR n W k (j + 1) (acc ++ [rdO n w])) with
          | .inl j' => _
          | .inr ds => _)
        rw [if_neg c]
        cases hr : readsR n W k (j + 1) (acc ++ [rdO n w]) with
        | inl j' =>
          rw [hr] at ih
          exact e.trans ih
        | inr ds =>
          rw [hr] at ih
          obtain ⟨t8, t9, z⟩ := ih
          exact ⟨t8, t9, e.trans z⟩
theorem bodyL_eq {n : Nat} {W : Ws} (hW : WOk W) {a : Nat} {acc : List D} (hc : acc.length < 1000000) (ha : a ≤ W.length) (s0 s6 s7 s8 s9 s10 : Sl) : (match ruleR n W a with
    | .inl j => bodyL [s0, .d (.list (W.map strP)), .d kindsD, .d (.int (n : Nat)), .own acc, .d (.int (a : Nat)), s6, s7, s8, s9, s10] = .ret (.ret (textD j))
    | .inr p => ∃ t6 t7 t8 t9, bodyL [s0, .d (.list (W.map strP)), .d kindsD, .d (.int (n : Nat)), .own acc, .d (.int (a : Nat)), s6, s7, s8, s9, s10] = .ret (.nx [s0, .d (.list (W.map strP)), .d kindsD, .d (.int (n : Nat)), .own (acc ++ [p.1]), .d (.int ((a + 2 + p.2 : Nat) : Int)), t6, t7, t8, t9, s10])) := by
  have ll := w_len (W := W)
  have e0 := ge_at a W.length
  have wl := hW.len
  have e1 : oGe (.int ((a : Nat) + 1)) (.int (W.length : Nat)) = .ret (.bool (decide (W.length ≤ a + 1))) := ge_at (a + 1) W.length
  unfold bodyL
  by_cases c0 : W[a]? = some [47]
  · have h0 := w_lt c0
    rw [decide_eq_false (by omega)] at e0
    have ix0 := w_at c0
    have n0 := ne_slash [47]
    rw [decide_eq_true rfl] at n0
    have n0 : oNe (strP [47]) (.str "/") = .ret (.bool false) := n0
    cases hw : W[a + 1]? with
    | none =>
      have h1 : W.length ≤ a + 1 := by
        rcases Nat.lt_or_ge (a + 1) W.length with z | z
        · rw [List.getElem?_eq_getElem z] at hw
          cases hw
        · exact z
      rw [decide_eq_true h1] at e1
      rw [ruleR_end c0 hw]
      show _ = T.ret (Fl.ret (textD (a + 1)))
      generalize B0_law_due = B at *
      generalize kindsD = KD at *
      generalize PyData.list (W.map strP) = WD at *
      generalize ((W.length : Nat) : Int) = LW at *
      generalize strP [47] = SL at *
      generalize hS : PyData.str "/" = S at *
      simp [ll, e0, ix0, n0, e1, textD]
    | some k =>
      have h1 := w_lt hw
      rw [decide_eq_false (by omega)] at e1
      have ix1 : oIx (.list (W.map strP)) (.int ((a : Nat) + 1)) = .ret (strP k) := w_at hw
      have kn := kd_in k
      cases hk : kd k with
      | none =>
        rw [hk] at kn
        have kn : oDNotIn (strP k) kindsD = .ret (.bool true) := kn
        rw [ruleR_kind c0 hw hk]
        show _ = T.ret (Fl.ret (textD (a + 1)))
        generalize B0_law_due = B at *
        generalize kindsD = KD at *
        generalize PyData.list (W.map strP) = WD at *
        generalize ((W.length : Nat) : Int) = LW at *
        generalize strP [47] = SL at *
        generalize strP k = SK at *
        generalize hS : PyData.str "/" = S at *
        simp [ll, e0, ix0, n0, e1, ix1, kn, textD]
      | some i =>
        obtain ⟨m, rfl, m1, m3⟩ := kd_rng hk
        rw [hk] at kn
        have kn : oDNotIn (strP k) kindsD = .ret (.bool false) := kn
        have kg := kd_get hk
        have rg := rg2 a m (by omega) (by omega)
        have g := lreads_go (n := n) hW s0 (.d kindsD) (.own acc) (.d (.int (a : Nat))) (.d (.int (m : Nat))) s10 m (a + 2) [strP k] s8 s9 (by simp; omega)
        have ra := readsR_acc (n := n) (W := W) (pre := [strP k]) m (a + 2) []
        rw [List.append_nil] at ra
        rw [ra] at g
        cases hr : readsR n W m (a + 2) [] with
        | inl j =>
          rw [hr] at g
          have g : forGo (bName 8) B0_law_due (rangeD ((a + 2 : Nat) : Int) m) [s0, .d (.list (W.map strP)), .d kindsD, .d (.int (n : Nat)), .own acc, .d (.int (a : Nat)), .own [strP k], .d (.int (m : Nat)), s8, s9, s10] = .ret (.ret (textD j)) := g
          rw [ruleR_in c0 hw hk hr]
          show _ = T.ret (Fl.ret (textD j))
          generalize B0_law_due = B at *
          generalize kindsD = KD at *
          generalize PyData.list (W.map strP) = WD at *
          generalize ((W.length : Nat) : Int) = LW at *
          generalize strP [47] = SL at *
          generalize strP k = SK at *
          generalize hS : PyData.str "/" = S at *
          generalize rangeD ((a + 2 : Nat) : Int) m = RG at *
          generalize ((m : Nat) : Int) = mm at *
          generalize textD j = TJ at *
          simp [ll, e0, ix0, n0, e1, ix1, kn, kg, rg, g]
        | inr ds =>
          rw [hr] at g
          obtain ⟨t8, t9, g⟩ := g
          have g : forGo (bName 8) B0_law_due (rangeD ((a + 2 : Nat) : Int) m) [s0, .d (.list (W.map strP)), .d kindsD, .d (.int (n : Nat)), .own acc, .d (.int (a : Nat)), .own [strP k], .d (.int (m : Nat)), s8, s9, s10] = .ret (.nx [s0, .d (.list (W.map strP)), .d kindsD, .d (.int (n : Nat)), .own acc, .d (.int (a : Nat)), .own (strP k :: ds), .d (.int (m : Nat)), t8, t9, s10]) := g
          have tp : oTupleOf (.list (strP k :: ds)) = .ret (.tuple (strP k :: ds)) := rfl
          have ae : ((a : Nat) : Int) + 2 + ((m : Nat) : Int) = ((a + 2 + m : Nat) : Int) := by omega
          rw [ae] at rg
          rw [ruleR_ok c0 hw hk hr]
          refine ⟨.d (.list (strP k :: ds)), .d (.int (m : Nat)), t8, t9, ?_⟩
          generalize B0_law_due = B at *
          generalize kindsD = KD at *
          generalize PyData.list (W.map strP) = WD at *
          generalize ((W.length : Nat) : Int) = LW at *
          generalize strP [47] = SL at *
          generalize hT : PyData.tuple (strP k :: ds) = RD at *
          generalize hL : strP k :: ds = RL at *
          generalize strP k = SK at *
          generalize hS : PyData.str "/" = S at *
          generalize rangeD ((a + 2 : Nat) : Int) m = RG at *
          generalize ((a + 2 + m : Nat) : Int) = Z at *
          generalize ((m : Nat) : Int) = mm at *
          simp [ll, e0, ix0, n0, e1, ix1, kn, kg, rg, g, sFrz, tp, ae, sApp, hc]
  · rw [ruleR_no c0]
    show _ = T.ret (Fl.ret (textD a))
    generalize B0_law_due = B at *
    generalize kindsD = KD at *
    cases hw : W[a]? with
    | none =>
      have h1 : W.length ≤ a := by
        rcases Nat.lt_or_ge a W.length with z | z
        · rw [List.getElem?_eq_getElem z] at hw
          cases hw
        · exact z
      rw [decide_eq_true h1] at e0
      generalize PyData.list (W.map strP) = WD at *
      generalize ((W.length : Nat) : Int) = LW at *
      simp [ll, e0, textD]
    | some w =>
      have h1 := w_lt hw
      rw [decide_eq_false (by omega)] at e0
      have ix0 := w_at hw
      have n0 := ne_slash w
      rw [decide_eq_false (fun z => c0 (by rw [hw, z]))] at n0
      have n0 : oNe (strP w) (.str "/") = .ret (.bool true) := n0
      generalize PyData.list (W.map strP) = WD at *
      generalize ((W.length : Nat) : Int) = LW at *
      generalize strP w = SW at *
      generalize hS : PyData.str "/" = S at *
      simp [ll, e0, ix0, n0, textD]
theorem loopL_eq {n : Nat} {W : Ws} (hW : WOk W) (s0 s10 : Sl) : ∀ (f a : Nat) (acc : List D) (m : Nat) (s6 s7 s8 s9 : Sl), W.length < a + f → f ≤ m → a ≤ W.length → acc.length < a → (match loopR n W f a acc with
    | .inl j => whGo condL bodyL m [s0, .d (.list (W.map strP)), .d kindsD, .d (.int (n : Nat)), .own acc, .d (.int (a : Nat)), s6, s7, s8, s9, s10] = .ret (.ret (textD j))
    | .inr ds => ∃ t5 t6 t7 t8 t9, whGo condL bodyL m [s0, .d (.list (W.map strP)), .d kindsD, .d (.int (n : Nat)), .own acc, .d (.int (a : Nat)), s6, s7, s8, s9, s10] = .ret (.nx [s0, .d (.list (W.map strP)), .d kindsD, .d (.int (n : Nat)), .own ds, t5, t6, t7, t8, t9, s10]))
  | 0, a, acc, m, s6, s7, s8, s9, h1, _, h3, _ => by omega
  | f + 1, a, acc, 0, s6, s7, s8, s9, _, h2, _, _ => by omega
  | f + 1, a, acc, m + 1, s6, s7, s8, s9, h1, h2, h3, h4 => by
    have wl := hW.len
    have c := condL_eq n W a acc s0 (.d kindsD) s6 s7 s8 s9 s10
    have un : ∀ b : Bool, goB W a acc = b → whGo condL bodyL (m + 1) [s0, .d (.list (W.map strP)), .d kindsD, .d (.int (n : Nat)), .own acc, .d (.int (a : Nat)), s6, s7, s8, s9, s10] = onB ((bodyL [s0, .d (.list (W.map strP)), .d kindsD, .d (.int (n : Nat)), .own acc, .d (.int (a : Nat)), s6, s7, s8, s9, s10]).bind fun fl => match fl with
        | .nx ρ' => whGo condL bodyL m ρ'
        | .cnt ρ' => whGo condL bodyL m ρ'
        | .brk ρ' => .ret (.nx ρ')
        | .ret d => .ret (.ret d)
        | .exc x ρ' => .ret (.exc x ρ')) (.ret (.nx [s0, .d (.list (W.map strP)), .d kindsD, .d (.int (n : Nat)), .own acc, .d (.int (a : Nat)), s6, s7, s8, s9, s10])) (.bool b) := by
      intro b hb
      rw [hb] at c
      show (condL _).lift _ _ = _
      rw [c]
      rfl
    unfold loopR
    cases g : goB W a acc with
    | false =>
      rw [if_neg (by decide)]
      exact ⟨_, _, _, _, _, un false g⟩
    | true =>
      rw [if_pos rfl]
      have b := bodyL_eq (n := n) hW (a := a) (acc := acc) (by omega) h3 s0 s6 s7 s8 s9 s10
      have u := un true g
      cases r : ruleR n W a with
      | inl j =>
        rw [r] at b
        have b : bodyL [s0, .d (.list (W.map strP)), .d kindsD, .d (.int (n : Nat)), .own acc, .d (.int (a : Nat)), s6, s7, s8, s9, s10] = .ret (.ret (textD j)) := b
        rw [b] at u
        exact u
      | inr p =>
        rw [r] at b
        obtain ⟨t6, t7, t8, t9, b⟩ := b
        rw [b] at u
        obtain ⟨l1, l2, _⟩ := ruleR_le r
        have ih := loopL_eq (n := n) hW s0 s10 f (a + 2 + p.2) (acc ++ [p.1]) m t6 t7 t8 t9 (by omega) (by omega) l1 (by rw [List.length_append, List.length_singleton]; omega)
        show (match loopR n W f (a + 2 + p.2) (acc ++ [p.1]) with
          | .inl j => _
          | .inr ds => _)
        cases hr : loopR n W f (a + 2 + p.2) (acc ++ [p.1]) with
        | inl j =>
          rw [hr] at ih
          exact u.trans ih
        | inr ds =>
          rw [hr] at ih
          obtain ⟨v5, v6, v7, v8, v9, e⟩ := ih
          exact ⟨v5, v6, v7, v8, v9, u.trans e⟩
end Wk12
set_option Elab.async false
set_option linter.all false
set_option maxRecDepth 100000
set_option maxHeartbeats 4000000
namespace Wk12
open PySem PySem.Spec PyProof.Rows L2 Wb TL
def resL (r : Sum (Sum Nat D) D) : D := match r with
  | .inl (.inl j) => textD j
  | .inl (.inr e) => .list [.str "flow", e]
  | .inr F => F
theorem ne_two (w : List Nat) : oNe (strP w) (.str "2") = .ret (.bool (!decide (w = [50]))) := by
  show oNe (.str (SX.S w)) (.str "2") = _
  rw [Wb.ne_str, two_S, SX.S_beq_eq]
theorem ne_three (w : List Nat) : oNe (strP w) (.str "3") = .ret (.bool (!decide (w = [51]))) := by
  show oNe (.str (SX.S w)) (.str "3") = _
  rw [Wb.ne_str, three_S, SX.S_beq_eq]
theorem first_two (w : List Nat) (ρ : Env') {f : Env' → T D} (h : f ρ = .ret (strP w)) : eAnd (eBin oNe f (eC (.str "2"))) (eBin oNe f (eC (.str "3"))) ρ = .ret (.bool (!(dimR w).isSome)) := by
  have a := ne_two w
  have b := ne_three w
  have e : (!(dimR w).isSome) = (!decide (w = [50]) && !decide (w = [51])) := by
    unfold dimR
    by_cases e1 : w = [50]
    · rw [if_pos e1, decide_eq_true e1]
      rfl
    · rw [if_neg e1, decide_eq_false e1]
      by_cases e2 : w = [51]
      · rw [if_pos e2, decide_eq_true e2]
        rfl
      · rw [if_neg e2, decide_eq_false e2]
        rfl
  rw [e]
  generalize hb1 : decide (w = [50]) = b1 at *
  generalize hb2 : decide (w = [51]) = b2 at *
  generalize strP w = S0 at *
  cases b1 with
  | true => simp [h, a]
  | false =>
    cases b2 with
    | true => simp [h, a, b]
    | false => simp [h, a, b]
theorem law_due_eq {cs : List Nat} (h : TOk cs) : m_law_due [.d (.str (SX.S cs))] = .ret (resL (res cs)) := by
  have hW := ws_ok h
  have l := h.len
  have wl := spl_ln (s := 32) (cs := cs)
  have sp := split_eq (s := 32) sp_S (by decide) (cs := cs) (by omega)
  have w0 := ws_first cs
  have ix : oIx (.list ((spS 32 cs).map strP)) (.int 0) = .ret (strP (firstW cs)) := w_at (a := 0) w0
  have fi := first_two (firstW cs) [.d (.str (SX.S cs)), .d (.list ((spS 32 cs).map strP)), .d kindsD, .no, .no, .no, .no, .no, .no, .no, .no] (f := eBin oIx (eV 1) (eC (.int 0))) (by
    generalize PyData.list ((spS 32 cs).map strP) = WD at *
    simp [ix])
  have iss : oIsI "str" (.str (SX.S cs)) = .ret (.bool true) := by with_unfolding_all rfl
  have sp' : eSM oSplitS (eV 0) (eC (.str " ")) [.d (.str (SX.S cs)), .no, .no, .no, .no, .no, .no, .no, .no, .no, .no] = .ret (.list ((spS 32 cs).map strP)) := sp
  have kk := law_kinds_eq
  have one : ((1 : Nat) : Int) = 1 := rfl
  rw [mq_law_due]
  unfold F_law_due
  generalize hME : (1000000000 : Nat) = M at *
  have hM : (spS 32 cs).length + 5 ≤ M := by omega
  generalize hF : eAnd (eBin oNe (eBin oIx (eV 1) (eC (.int 0))) (eC (.str "2"))) (eBin oNe (eBin oIx (eV 1) (eC (.int 0))) (eC (.str "3"))) = FT at *
  cases hd : dimR (firstW cs) with
  | none =>
    rw [hd] at fi
    rw [res_dim hd]
    show _ = T.ret (textD 0)
    generalize (sWhile M _ _) = WH at *
    generalize kindsD = KD at *
    generalize PyData.list ((spS 32 cs).map strP) = WD at *
    generalize PyData.str (SX.S cs) = TD at *
    generalize strP (firstW cs) = S0 at *
    generalize eSM oSplitS (eV 0) (eC (.str " ")) = SE at *
    simp [iss, sp', kk, fi, textD]
  | some n =>
    rw [hd] at fi
    have fi : FT [.d (.str (SX.S cs)), .d (.list ((spS 32 cs).map strP)), .d kindsD, .no, .no, .no, .no, .no, .no, .no, .no] = .ret (.bool false) := fi
    obtain ⟨di, n23⟩ := dim_int hd
    have lp := loopL_eq (n := n) hW (.d (.str (SX.S cs))) .no ((spS 32 cs).length + 5) 1 [] M .no .no .no .no (by omega) hM (by
      have := sp_ne (s := 32) (cs := cs)
      cases hh : spS 32 cs with
      | nil => exact absurd hh this
      | cons a r => simp) (by simp)
    rw [one] at lp
    cases hr : loopR n (spS 32 cs) ((spS 32 cs).length + 5) 1 [] with
    | inl j =>
      rw [hr] at lp
      have e : whGo condL bodyL M [.d (.str (SX.S cs)), .d (.list ((spS 32 cs).map strP)), .d kindsD, .d (.int (n : Nat)), .own [], .d (.int 1), .no, .no, .no, .no, .no] = .ret (.ret (textD j)) := lp
      rw [res_in hd hr]
      show _ = T.ret (textD j)
      change mkDef 11 (sSeq _ (sSeq _ (sSeq _ (sSeq _ (sSeq (sWhile M condL bodyL) _))))) _ = _
      generalize condL = C at *
      generalize bodyL = B at *
      generalize kindsD = KD at *
      generalize PyData.list ((spS 32 cs).map strP) = WD at *
      generalize PyData.str (SX.S cs) = TD at *
      generalize strP (firstW cs) = S0 at *
      generalize eSM oSplitS (eV 0) (eC (.str " ")) = SE at *
      generalize ((n : Nat) : Int) = nn at *
      generalize textD j = X at *
      simp [iss, sp', kk, ix, fi, di, e]
    | inr ds =>
      rw [hr] at lp
      obtain ⟨t5, t6, t7, t8, t9, e⟩ := lp
      have fe := flow_error_eq (.tuple [.int (n : Nat), .tuple ds])
      have nn := isN_eq (flowE (.tuple [.int (n : Nat), .tuple ds]))
      have tp : oTupleOf (.list ds) = .ret (.tuple ds) := rfl
      have fin : resL (res cs) = (if isNo (flowE (.tuple [.int (n : Nat), .tuple ds])) = true then (.tuple [.int (n : Nat), .tuple ds]) else .list [.str "flow", flowE (.tuple [.int (n : Nat), .tuple ds])]) := by
        cases k : isNo (flowE (.tuple [.int (n : Nat), .tuple ds])) with
        | true =>
          rw [res_ok hd hr k]
          rfl
        | false =>
          rw [res_bad hd hr k]
          rfl
      rw [fin]
      change mkDef 11 (sSeq _ (sSeq _ (sSeq _ (sSeq _ (sSeq (sWhile M condL bodyL) _))))) _ = _
      generalize condL = C at *
      generalize bodyL = B at *
      generalize kindsD = KD at *
      generalize PyData.list ((spS 32 cs).map strP) = WD at *
      generalize PyData.str (SX.S cs) = TD at *
      generalize strP (firstW cs) = S0 at *
      generalize eSM oSplitS (eV 0) (eC (.str " ")) = SE at *
      generalize ((n : Nat) : Int) = nI at *
      generalize PyData.tuple ds = DT at *
      generalize flowE (.tuple [.int nI, DT]) = FE at *
      generalize hT : PyData.tuple [.int nI, DT] = TT at *
      generalize isNo FE = b at *
      cases b with
      | true => simp [iss, sp', kk, ix, fi, di, e, sFrz, tp, hT, fe, nn]
      | false => simp [iss, sp', kk, ix, fi, di, e, sFrz, tp, hT, fe, nn]
/-! ### what is told -/
theorem told_text {v i : D} (h : m_parse_flow [.d v] = .exc ⟨"BadText", [("index", i)]⟩) : m_law_told [.d v] = .ret (.list [.str "text", i]) := by
  rw [mq_law_told]
  unfold F_law_told
  generalize m_parse_flow = m at *
  simp [h]
  rw [ty_exc (by rfl)]
  with_unfolding_all rfl
theorem told_flow {v e : D} (h : m_parse_flow [.d v] = .exc ⟨"BadFlow", [("error", e)]⟩) : m_law_told [.d v] = .ret (.list [.str "flow", e]) := by
  rw [mq_law_told]
  unfold F_law_told
  generalize m_parse_flow = m at *
  simp [h]
  rw [ty_exc (by rfl)]
  with_unfolding_all rfl
theorem told_ret {v F : D} (h : m_parse_flow [.d v] = .ret F) : m_law_told [.d v] = .ret F := by
  rw [mq_law_told]
  unfold F_law_told
  generalize m_parse_flow = m at *
  simp [h]
theorem told_eq {cs : List Nat} (h : TOk cs) : m_law_told [.d (.str (SX.S cs))] = .ret (resL (res cs)) := by
  have p := parse_flow_eq h
  match hr : res cs with
  | .inl (.inl j) =>
    rw [hr] at p
    exact told_text (i := .int (j : Nat)) p
  | .inl (.inr e) =>
    rw [hr] at p
    exact told_flow p
  | .inr F =>
    rw [hr] at p
    exact told_ret p
/-- what is no text -/
def notStr : D → Bool
  | .str _ => false
  | _ => true
theorem isS_no {v : D} (h : notStr v = true) : oIsI "str" v = .ret (.bool false) := by
  cases v with
  | str z => cases h
  | _ => with_unfolding_all rfl
theorem other_eq {v : D} (h : notStr v = true) : m_law_due [.d v] = .ret (.list [.str "text", .none]) ∧ m_law_told [.d v] = .ret (.list [.str "text", .none]) := by
  have i := isS_no h
  refine ⟨?_, told_text ?_⟩
  · rw [mq_law_due]
    unfold F_law_due
    generalize (sWhile 1000000000 _ _) = WH
    simp [i]
  · rw [mq_parse_flow]
    unfold F_parse_flow
    generalize (sWhile 1000000000 _ _) = WH
    simp [i]
end Wk12
set_option Elab.async false
set_option linter.all false
set_option maxRecDepth 100000
set_option maxHeartbeats 4000000
namespace Wk12
open PySem PySem.Spec PyProof.Rows L2 Wb Wb.Rp TL
/-! ### what is read can be shown -/
structure ReadOk (n : Nat) (x : D) : Prop where
  ex : ∃ (s : Int) (is : List Int), x = .tuple [.int s, .tuple (is.map PyData.int)] ∧ is.length = n ∧ s.natAbs < 10 ^ 50 ∧ ∀ i ∈ is, i.natAbs < 10 ^ 50
structure RuleOk (n : Nat) (d : D) : Prop where
  ex : ∃ k ds, d = .tuple (strP k :: ds) ∧ (∃ i, kd k = some i) ∧ ds.length ≤ 3 ∧ ∀ x ∈ ds, ReadOk n x
theorem nums_ints {cs : List Nat} (h : noneB (numsO cs) = false) : ∃ is : List Int, numsD cs = is.map PyData.int ∧ ∀ i ∈ is, i.natAbs < 10 ^ 50 := by
  have key : ∀ ps : List (List Nat), noneB (ps.map num) = false → ∃ is : List Int, (ps.map num).map optD = is.map PyData.int ∧ ∀ i ∈ is, i.natAbs < 10 ^ 50 := fun ps => by
    induction ps with
    | nil => exact fun _ => ⟨[], rfl, fun _ z => nomatch z⟩
    | cons p ps ih =>
      intro h
      have e : noneB ((p :: ps).map num) = ((num p).isNone || noneB (ps.map num)) := rfl
      rw [e, Bool.or_eq_false_iff] at h
      obtain ⟨is, e1, e2⟩ := ih h.2
      cases hp : num p with
      | none =>
        rw [hp] at h
        cases h.1
      | some i =>
        refine ⟨i :: is, ?_, fun z hz => ?_⟩
        · rw [List.map_cons, List.map_cons, List.map_cons, e1, hp]
          rfl
        · rcases List.mem_cons.mp hz with rfl | hz
          · exact num_big hp
          · exact e2 z hz
  exact key (spS 44 cs) h
theorem rdO_ok {n : Nat} {w : List Nat} (h : isNo (rdO n w) = false) : ReadOk n (rdO n w) := by
  unfold rdO at h ⊢
  match hS : spS 64 w with
  | [p, q] =>
    rw [hS] at h
    have h : isNo (rdP n p q) = false := h
    show ReadOk n (rdP n p q)
    cases hn : num p with
    | none =>
      rw [rdP_none hn] at h
      cases h
    | some s =>
      by_cases c : s < 0
      · rw [rdP_neg hn c] at h
        cases h
      · cases hb : badV n q with
        | true =>
          rw [rdP_bad hn c hb] at h
          cases h
        | false =>
          rw [rdP_ok hn c hb]
          unfold badV at hb
          rw [Bool.or_eq_false_iff] at hb
          obtain ⟨is, e1, e2⟩ := nums_ints hb.1
          refine ⟨s, is, by rw [e1], ?_, num_big hn, e2⟩
          have := hb.2
          rw [e1, List.length_map, Bool.not_eq_false'] at this
          have := of_decide_eq_true this
          omega
  | [] =>
    rw [hS] at h
    cases h
  | [_] =>
    rw [hS] at h
    cases h
  | _ :: _ :: _ :: _ =>
    rw [hS] at h
    cases h
theorem readsR_ok {n : Nat} {W : Ws} : ∀ {k j : Nat} {acc ds : List D}, readsR n W k j acc = .inr ds → (∀ x ∈ acc, ReadOk n x) → ∀ x ∈ ds, ReadOk n x
  | 0, j, acc, ds, h, ha => by
    cases h
    exact ha
  | k + 1, j, acc, ds, h, ha => by
    unfold readsR at h
    split at h
    · cases h
    · next w hw =>
      split at h
      · cases h
      · next c =>
        refine readsR_ok h fun x hx => ?_
        rcases List.mem_append.mp hx with hx | hx
        · exact ha x hx
        · rw [List.mem_singleton.mp hx]
          exact rdO_ok (Bool.eq_false_iff.mpr c)
theorem readsR_lo {n : Nat} {W : Ws} : ∀ {k j j' : Nat} {acc : List D}, readsR n W k j acc = .inl j' → j' ≤ j + k
  | 0, j, j', acc, h => by cases h
  | k + 1, j, j', acc, h => by
    unfold readsR at h
    split at h
    · cases h
      omega
    · split at h
      · cases h
        omega
      · have := readsR_lo h
        omega
theorem ruleR_lo {n : Nat} {W : Ws} {a j : Nat} (h : ruleR n W a = .inl j) : j ≤ a + 5 := by
  by_cases c0 : W[a]? = some [47]
  · cases hw : W[a + 1]? with
    | none =>
      rw [ruleR_end c0 hw] at h
      cases h
      omega
    | some k =>
      cases hk : kd k with
      | none =>
        rw [ruleR_kind c0 hw hk] at h
        cases h
        omega
      | some i =>
        obtain ⟨m, rfl, m1, m3⟩ := kd_rng hk
        cases hr : readsR n W m (a + 2) [] with
        | inl j' =>
          rw [ruleR_in c0 hw hk hr] at h
          cases h
          have := readsR_lo hr
          omega
        | inr ds =>
          rw [ruleR_ok c0 hw hk hr] at h
          cases h
  · rw [ruleR_no c0] at h
    cases h
    omega
theorem ruleR_rule {n : Nat} {W : Ws} {a : Nat} {p : D × Nat} (h : ruleR n W a = .inr p) : RuleOk n p.1 := by
  obtain ⟨_, _, k, ds, hk, hr, e, dl⟩ := ruleR_le h
  obtain ⟨m, e1, _, m3⟩ := kd_rng hk
  exact ⟨k, ds, e, ⟨_, hk⟩, by omega, readsR_ok hr fun _ z => nomatch z⟩
theorem loopR_ok {n : Nat} {W : Ws} : ∀ {f a : Nat} {acc ds : List D}, loopR n W f a acc = .inr ds → (∀ x ∈ acc, RuleOk n x) → ∀ x ∈ ds, RuleOk n x
  | 0, a, acc, ds, h, ha => by
    cases h
    exact ha
  | f + 1, a, acc, ds, h, ha => by
    unfold loopR at h
    split at h
    · cases r : ruleR n W a with
      | inl j =>
        rw [r] at h
        cases h
      | inr p =>
        rw [r] at h
        refine loopR_ok (f := f) h fun x hx => ?_
        rcases List.mem_append.mp hx with hx | hx
        · exact ha x hx
        · rw [List.mem_singleton.mp hx]
          exact ruleR_rule r
    · cases h
      exact ha
theorem loopR_lo {n : Nat} {W : Ws} : ∀ {f a j : Nat} {acc : List D}, loopR n W f a acc = .inl j → a ≤ W.length → j ≤ W.length + 5
  | 0, a, j, acc, h, _ => by cases h
  | f + 1, a, j, acc, h, ha => by
    unfold loopR at h
    split at h
    · cases r : ruleR n W a with
      | inl j' =>
        rw [r] at h
        cases h
        have := ruleR_lo r
        omega
      | inr p =>
        rw [r] at h
        exact loopR_lo (f := f) h (ruleR_le r).1
    · cases h
/-! ### errors of flows -/
def EW : List Str := ["rule", "read", "source", "distance", "rules"]
theorem readW_mem {dm pl : Int} {v : D} {w : Str} (h : readW dm pl v = some w) : w ∈ EW := by
  unfold readW at h
  split at h
  · split at h
    · split at h
      · split at h
        · cases h
        · cases h
          decide
      · cases h
        decide
    · cases h
  · cases h
    decide
theorem ruleGo_mem {dm pl : Int} : ∀ {rs : List D} {i o : Nat} {w : Str}, ruleGo dm pl i rs = some (o, w) → o < i + rs.length ∧ w ∈ EW
  | [], i, o, w, h => by cases h
  | r :: rs, i, o, w, h => by
    unfold ruleGo at h
    cases hr : readW dm pl r with
    | none =>
      rw [hr] at h
      obtain ⟨a, b⟩ := ruleGo_mem (rs := rs) h
      rw [List.length_cons]
      exact ⟨by omega, b⟩
    | some w' =>
      rw [hr] at h
      cases h
      rw [List.length_cons]
      exact ⟨by omega, readW_mem hr⟩
theorem ruleE_mem {n : Nat} {dm pl : Int} {r : D} (hr : RuleOk n r) {p : Option Nat × Str} (h : ruleE dm pl r = some p) : p.2 ∈ EW ∧ ∀ o, p.1 = some o → o < 3 := by
  obtain ⟨k, ds, rfl, _, l3, _⟩ := hr.ex
  unfold ruleE at h
  split at h
  · have h : (ruleGo dm pl 0 ds).map (fun p => (some p.1, p.2)) = some p := h
    cases hg : ruleGo dm pl 0 ds with
    | none =>
      rw [hg] at h
      cases h
    | some q =>
      rw [hg] at h
      cases h
      obtain ⟨a, b⟩ := ruleGo_mem (o := q.1) (w := q.2) hg
      refine ⟨b, fun o ho => ?_⟩
      cases ho
      omega
  · cases h
    exact ⟨by decide, fun o ho => nomatch ho⟩
structure Good (d : D) : Prop where
  ti : Ti 10 5000 d
  low : Low d
theorem ew_ti : ∀ w ∈ EW, tiB 1 40 (.str w) = true := by decide +kernel
theorem ew_word : ∀ w ∈ EW, word w = true := by decide +kernel
theorem ti_nat {n : Nat} (h : n ≤ 10000000) : Ti 0 0 (.int (n : Nat)) := ti_int (by
  show n < 10 ^ 50
  exact Nat.lt_of_le_of_lt h (by decide +kernel))
theorem low_two {a b : D} (ha : Low a) (hb : Low b) : Low (.tuple [a, b]) := low_tuple fun x hx => by
  simp only [List.mem_cons, List.not_mem_nil, or_false] at hx
  rcases hx with rfl | rfl
  · exact ha
  · exact hb
theorem low_ltwo {a b : D} (ha : Low a) (hb : Low b) : Low (.list [a, b]) := low_list fun x hx => by
  simp only [List.mem_cons, List.not_mem_nil, or_false] at hx
  rcases hx with rfl | rfl
  · exact ha
  · exact hb
theorem ti_two {k b k' b' : Nat} {a c : D} (h : Ti k b a) (g : Ti k' b' c) : Ti (max k k' + 1) (b + 1 + (b' + 1)) (.tuple [a, c]) := ti_tuple (TiL.cons h (TiL.one g))
theorem ti_ltwo {k b k' b' : Nat} {a c : D} (h : Ti k b a) (g : Ti k' b' c) : Ti (max k k' + 1) (b + 1 + (b' + 1)) (.list [a, c]) := ti_list (TiL.cons h (TiL.one g))
theorem err_ok {x : D} {w : Str} (hx : Ti 2 2 x) (lx : Low x) (hw : w ∈ EW) : Ti 4 100 (.tuple [x, .str w]) ∧ Low (.tuple [x, .str w]) :=
  ⟨(ti_two hx (ti_by (ew_ti w hw))).mono (by decide) (by decide), low_two lx (word_low (ew_word w hw))⟩
theorem fd_ok {i : Nat} (hi : i ≤ 10000000) {p : Option Nat × Str} (h : p.2 ∈ EW ∧ ∀ o, p.1 = some o → o < 3) : Ti 4 100 (fd i p) ∧ Low (fd i p) := by
  obtain ⟨o, w⟩ := p
  cases o with
  | none => exact err_ok ((ti_nat hi).mono (by decide) (by decide)) (low_int _) h.1
  | some o =>
    have := h.2 o rfl
    exact err_ok ((ti_two (ti_nat hi) (ti_nat (n := o) (by omega))).mono (by decide) (by decide)) (low_two (low_int _) (low_int _)) h.1
theorem flowGo_ok {n : Nat} {dm pl : Int} : ∀ {rs : List D} {i : Nat}, (∀ r ∈ rs, RuleOk n r) → i + rs.length ≤ 10000000 → flowGo dm pl i rs = .none ∨ (Ti 4 100 (flowGo dm pl i rs) ∧ Low (flowGo dm pl i rs))
  | [], i, _, _ => .inl rfl
  | r :: rs, i, h, hi => by
    rw [List.length_cons] at hi
    unfold flowGo
    cases hr : ruleE dm pl r with
    | none => exact flowGo_ok (fun x hx => h x (List.mem_cons_of_mem _ hx)) (by omega)
    | some p => exact .inr (fd_ok (by omega) (ruleE_mem (h r (List.mem_cons_self ..)) hr))
theorem flowE_ok {n : Nat} (h2 : n = 2 ∨ n = 3) {ds : List D} (h : ∀ x ∈ ds, RuleOk n x) : (flowE (.tuple [.int (n : Nat), .tuple ds]) = .none ∧ ds.length ≤ 6) ∨ (isNo (flowE (.tuple [.int (n : Nat), .tuple ds])) = false ∧ Ti 4 100 (flowE (.tuple [.int (n : Nat), .tuple ds])) ∧ Low (flowE (.tuple [.int (n : Nat), .tuple ds]))) ∨ (flowE (.tuple [.int (n : Nat), .tuple ds]) = .none ∧ ds.length ≤ 6) := by
  have t : tupB 2 (.tuple [.int (n : Nat), .tuple ds]) = true := rfl
  have a : Wb.inR 2 3 (.int (n : Nat)) = true := by
    show (decide ((2 : Int) ≤ (n : Nat)) && decide (((n : Nat) : Int) ≤ 3)) = true
    rcases h2 with rfl | rfl <;> decide
  have e : flowE (.tuple [.int (n : Nat), .tuple ds]) = (if rulesB (.tuple ds) = true then flowGo (n : Nat) (ds.length : Nat) 0 ds else .tuple [.none, .str "rules"]) := by
    unfold flowE
    rw [if_pos t]
    show (if Wb.inR 2 3 (.int (n : Nat)) = true then (if rulesB (.tuple ds) = true then flowGo (n : Nat) (ds.length : Nat) 0 ds else .tuple [.none, .str "rules"]) else .tuple [.none, .str "dims"]) = _
    rw [if_pos a]
  rw [e]
  by_cases c : rulesB (.tuple ds) = true
  · rw [if_pos c]
    have l6 : ds.length ≤ 6 := by
      have c : (decide (1 ≤ (ds.length : Int)) && decide ((ds.length : Int) ≤ 6)) = true := c
      rw [Bool.and_eq_true, decide_eq_true_eq, decide_eq_true_eq] at c
      omega
    rcases flowGo_ok (dm := (n : Nat)) (pl := (ds.length : Nat)) (i := 0) h (by omega) with z | z
    · exact .inl ⟨z, l6⟩
    · by_cases k : isNo (flowGo (n : Nat) (ds.length : Nat) 0 ds) = true
      · left
        refine ⟨?_, l6⟩
        cases hz : flowGo (n : Nat) (ds.length : Nat) 0 ds with
        | none => rfl
        | _ =>
          rw [hz] at k
          cases k
      · exact .inr (.inl ⟨Bool.eq_false_iff.mpr k, z⟩)
  · rw [if_neg c]
    exact .inr (.inl ⟨rfl, err_ok (ti_none.mono (by decide) (by decide)) low_none (by decide)⟩)
/-! ### flows -/
theorem read_ti {n : Nat} (h3 : n ≤ 3) {x : D} (h : ReadOk n x) : Ti 2 10 x ∧ Low x := by
  obtain ⟨s, is, rfl, hl, hs, hi⟩ := h.ex
  refine ⟨(ti_two (ti_int hs) (ti_tuple (TiL.ints hi))).mono (by decide) (by omega), low_two (low_int _) (low_tuple fun y hy => ?_)⟩
  obtain ⟨i, _, rfl⟩ := List.mem_map.mp hy
  exact low_int i
theorem kl_word : ∀ p ∈ KL, word p.1 = true := by decide +kernel
theorem rule_ti {n : Nat} (h3 : n ≤ 3) {d : D} (h : RuleOk n d) : Ti 3 100 d ∧ Low d := by
  obtain ⟨k, ds, rfl, ⟨i, hk⟩, l3, hd⟩ := h.ex
  obtain ⟨p, hp, e, _⟩ := kd_word hk
  have sk : strP k = .str p.1 := by
    unfold strP
    rw [e]
  have kt := (kinds_ok p hp).2.2
  have a : TiL 2 ((10 + 1) * ds.length) ds := ti_allL fun x hx => (read_ti h3 (hd x hx)).1
  rw [sk]
  refine ⟨(ti_tuple (TiL.cons (ti_by kt) a)).mono (by decide) (by omega), low_tuple fun y hy => ?_⟩
  rcases List.mem_cons.mp hy with rfl | hy
  · exact word_low (kl_word p hp)
  · exact (read_ti h3 (hd y hy)).2
theorem flow_good {n : Nat} (h3 : n ≤ 3) {ds : List D} (l6 : ds.length ≤ 6) (h : ∀ x ∈ ds, RuleOk n x) : Good (.tuple [.int (n : Nat), .tuple ds]) := by
  have a : TiL 3 ((100 + 1) * ds.length) ds := ti_allL fun x hx => (rule_ti h3 (h x hx)).1
  exact ⟨(ti_two (ti_nat (n := n) (by omega)) (ti_tuple a)).mono (by decide) (by omega), low_two (low_int _) (low_tuple fun y hy => (rule_ti h3 (h y hy)).2)⟩
theorem text_word : word "text" = true ∧ word "flow" = true ∧ tiB 1 40 (.str "text") = true ∧ tiB 1 40 (.str "flow") = true := by decide +kernel
theorem res_good {cs : List Nat} (h : TOk cs) : Good (resL (res cs)) := by
  have hW := ws_ok h
  have wl := hW.len
  have tw := text_word
  cases hd : dimR (firstW cs) with
  | none =>
    rw [res_dim hd]
    exact ⟨(ti_ltwo (ti_by tw.2.2.1) (ti_nat (n := 0) (by decide))).mono (by decide) (by decide), low_ltwo (word_low tw.1) (low_int _)⟩
  | some n =>
    obtain ⟨_, n23⟩ := dim_int hd
    cases hr : loopR n (spS 32 cs) ((spS 32 cs).length + 5) 1 [] with
    | inl j =>
      rw [res_in hd hr]
      have w1 : 1 ≤ (spS 32 cs).length := by
        have := sp_ne (s := 32) (cs := cs)
        cases hh : spS 32 cs with
        | nil => exact absurd hh this
        | cons a r => simp
      have := loopR_lo hr w1
      exact ⟨(ti_ltwo (ti_by tw.2.2.1) (ti_nat (n := j) (by omega))).mono (by decide) (by decide), low_ltwo (word_low tw.1) (low_int _)⟩
    | inr ds =>
      have ok := loopR_ok hr fun _ z => nomatch z
      rcases flowE_ok n23 ok with ⟨e, l6⟩ | ⟨e, t, l⟩ | ⟨e, l6⟩
      · rw [res_ok hd hr (by rw [e]; rfl)]
        exact flow_good (by omega) l6 ok
      · rw [res_bad hd hr e]
        exact ⟨(ti_ltwo (ti_by tw.2.2.2) t).mono (by decide) (by decide), low_ltwo (word_low tw.2.1) l⟩
      · rw [res_ok hd hr (by rw [e]; rfl)]
        exact flow_good (by omega) l6 ok
end Wk12
set_option Elab.async false
set_option linter.all false
set_option maxRecDepth 100000
set_option maxHeartbeats 4000000
namespace Wk12
open PySem PySem.Spec PyProof.Rows L2 Wb TL
/-! ### texts that are not too long, of signs below 128 -/
structure Tx (L : Nat) (d : D) : Prop where
  ex : ∃ cs, d = .str (SX.S cs) ∧ cs.length ≤ L ∧ ∀ c ∈ cs, c < 128
structure WL (M : Nat) (xs : List D) : Prop where
  ex : ∃ vs : List (List Nat), xs = vs.map strP ∧ mu vs ≤ M ∧ ∀ v ∈ vs, ∀ c ∈ v, c < 128
theorem Tx.mono {L M : Nat} {d : D} (h : Tx L d) (k : L ≤ M) : Tx M d := by
  obtain ⟨cs, e, l, a⟩ := h.ex
  exact ⟨cs, e, by omega, a⟩
theorem tx_to {L : Nat} {d : D} (h : Tx L d) (hL : L ≤ 1000000) {i : Int} (hi : 0 ≤ i) : ∃ e, oSlX d none (some i) = .ret e ∧ Tx L e := by
  obtain ⟨cs, rfl, l, a⟩ := h.ex
  refine ⟨.str (SX.S (cs.take i.toNat)), ?_, ⟨_, rfl, by rw [List.length_take]; omega, fun c hc => a c (List.mem_of_mem_take hc)⟩⟩
  have e : (SX.S cs).length = cs.length := SX.S_len cs
  show (if (SX.S cs).length ≤ 10000000 then T.ret (PyData.str (Txt.slice (SX.S cs) none (some i))) else .bad) = _
  rw [e, if_pos (by omega), SX.slice_to hi]
theorem tx_from {L : Nat} {d : D} (h : Tx L d) (hL : L ≤ 1000000) {i : Int} (hi : 0 ≤ i) : ∃ e, oSlX d (some i) none = .ret e ∧ Tx L e := by
  obtain ⟨cs, rfl, l, a⟩ := h.ex
  refine ⟨.str (SX.S (cs.drop i.toNat)), ?_, ⟨_, rfl, by rw [List.length_drop]; omega, fun c hc => a c (List.mem_of_mem_drop hc)⟩⟩
  have e : (SX.S cs).length = cs.length := SX.S_len cs
  show (if (SX.S cs).length ≤ 10000000 then T.ret (PyData.str (Txt.slice (SX.S cs) (some i) none)) else .bad) = _
  rw [e, if_pos (by omega), SX.slice_from hi]
theorem tx_add {L M : Nat} {a b : D} (h : Tx L a) (g : Tx M b) (hl : L + M ≤ 1000000) : ∃ e, oAdd a b = .ret e ∧ Tx (L + M) e := by
  obtain ⟨cs, rfl, l, x⟩ := h.ex
  obtain ⟨ds, rfl, k, y⟩ := g.ex
  refine ⟨.str (SX.S (cs ++ ds)), ?_, ⟨_, rfl, by rw [List.length_append]; omega, fun c hc => ?_⟩⟩
  · have e : (SX.S cs).length = cs.length := SX.S_len cs
    have e2 : (SX.S ds).length = ds.length := SX.S_len ds
    show (if (SX.S cs).length + (SX.S ds).length ≤ 1000000 then T.ret (PyData.str (SX.S cs ++ SX.S ds)) else .bad) = _
    rw [e, e2, if_pos (by omega), SX.S_cat]
  · rcases List.mem_append.mp hc with z | z
    · exact x c z
    · exact y c z
theorem tx_up {L : Nat} {d : D} (h : Tx L d) (hL : L ≤ 1000000) : ∃ e, kS0 oUpS d = .ret e ∧ Tx L e := by
  obtain ⟨cs, rfl, l, a⟩ := h.ex
  refine ⟨.str (SX.S (cs.map PyProof.Rows.up1)), ?_, ⟨_, rfl, by rw [List.length_map]; exact l, fun c hc => ?_⟩⟩
  · have e : (SX.S cs).length = cs.length := SX.S_len cs
    show (if (SX.S cs).length ≤ 3000000 then T.ret (PyData.str (Txt.upper (SX.S cs))) else .bad) = _
    rw [e, if_pos (by omega), SX.upper_S (List.all_eq_true.mpr fun c hc => decide_eq_true (a c hc))]
  · obtain ⟨x, hx, rfl⟩ := List.mem_map.mp hc
    have := a x hx
    unfold PyProof.Rows.up1
    split <;> omega
theorem tx_len {L : Nat} {d : D} (h : Tx L d) (hL : L ≤ 1000000) : ∃ n : Nat, oLenT d = .ret (.int (n : Nat)) ∧ n ≤ L := by
  obtain ⟨cs, rfl, l, a⟩ := h.ex
  exact ⟨cs.length, len_at' (by omega), l⟩
/-! ### lists of words -/
theorem mu_cons (p : List Nat) (ps : List (List Nat)) : mu (p :: ps) = p.length + 1 + mu ps := by simp [mu]
theorem mu_app : ∀ a b : List (List Nat), mu (a ++ b) = mu a + mu b
  | [], b => by simp [mu]
  | p :: a, b => by
    rw [List.cons_append, mu_cons, mu_cons, mu_app a b]
    omega
theorem mu_take : ∀ (n : Nat) (a : List (List Nat)), mu (a.take n) ≤ mu a
  | 0, a => by simp [mu]
  | n + 1, [] => by simp
  | n + 1, p :: a => by
    rw [List.take_succ_cons, mu_cons, mu_cons]
    have := mu_take n a
    omega
theorem mu_drop : ∀ (n : Nat) (a : List (List Nat)), mu (a.drop n) ≤ mu a
  | 0, a => by simp
  | n + 1, [] => by simp
  | n + 1, p :: a => by
    rw [List.drop_succ_cons, mu_cons]
    have := mu_drop n a
    omega
theorem mu_rev : ∀ a : List (List Nat), mu a.reverse = mu a
  | [] => rfl
  | p :: a => by
    have e1 := mu_cons p a
    have e2 : mu [p] = p.length + 1 := by simp [mu]
    rw [List.reverse_cons, mu_app, mu_rev a, e1, e2]
    omega
theorem mu_rep (a : List (List Nat)) : ∀ k : Nat, mu (List.replicate k a).flatten = k * mu a
  | 0 => by simp [mu]
  | k + 1 => by
    rw [List.replicate_succ, List.flatten_cons, mu_app, mu_rep a k, Nat.add_mul]
    omega
theorem wl_cut {M : Nat} {xs : List D} (h : WL M xs) (lo hi : Option Int) : WL M (Wb.cutD xs lo hi) := by
  obtain ⟨vs, rfl, l, a⟩ := h.ex
  unfold Wb.cutD
  refine ⟨_, by rw [← List.map_drop, ← List.map_take], ?_, fun v hv c hc => a v (List.mem_of_mem_drop (List.mem_of_mem_take hv)) c hc⟩
  exact Nat.le_trans (mu_take _ _) (Nat.le_trans (mu_drop _ _) l)
theorem wl_app {M N : Nat} {xs ys : List D} (h : WL M xs) (g : WL N ys) : WL (M + N) (xs ++ ys) := by
  obtain ⟨vs, rfl, l, a⟩ := h.ex
  obtain ⟨us, rfl, k, b⟩ := g.ex
  refine ⟨vs ++ us, by rw [List.map_append], by rw [mu_app]; omega, fun v hv => ?_⟩
  rcases List.mem_append.mp hv with hv | hv
  · exact a v hv
  · exact b v hv
theorem wl_rev {M : Nat} {xs : List D} (h : WL M xs) : WL M xs.reverse := by
  obtain ⟨vs, rfl, l, a⟩ := h.ex
  exact ⟨vs.reverse, by rw [List.map_reverse], by rw [mu_rev]; exact l, fun v hv => a v (List.mem_reverse.mp hv)⟩
theorem wl_rep {M : Nat} {xs : List D} (h : WL M xs) (k : Nat) : WL (k * M) (List.replicate k xs).flatten := by
  obtain ⟨vs, rfl, l, a⟩ := h.ex
  refine ⟨(List.replicate k vs).flatten, by rw [List.map_flatten, List.map_replicate], by rw [mu_rep]; exact Nat.mul_le_mul_left _ l, fun v hv => ?_⟩
  obtain ⟨u, hu, hv⟩ := List.mem_flatten.mp hv
  rw [List.eq_of_mem_replicate hu] at hv
  exact a v hv
theorem wl_len {M : Nat} {xs : List D} (h : WL M xs) : xs.length ≤ M := by
  obtain ⟨vs, rfl, l, a⟩ := h.ex
  have := mu_len (ps := vs)
  rw [List.length_map]
  omega
theorem wl_mono {M N : Nat} {xs : List D} (h : WL M xs) (k : M ≤ N) : WL N xs := by
  obtain ⟨vs, e, l, a⟩ := h.ex
  exact ⟨vs, e, by omega, a⟩
theorem joinL_mu (s : Nat) : ∀ ps : List (List Nat), (joinL [s] ps).length ≤ mu ps
  | [] => Nat.zero_le _
  | [p] => by
    rw [mu_cons]
    show p.length ≤ _
    omega
  | p :: q :: r => by
    have ih := joinL_mu s (q :: r)
    rw [mu_cons]
    show (p ++ ([s] ++ joinL [s] (q :: r))).length ≤ _
    rw [List.length_append, List.length_append, List.length_singleton]
    omega
theorem strs_sum : ∀ vs : List (List Nat), ((vs.map SX.S).map (·.length)).sum + (vs.map SX.S).length = mu vs
  | [] => rfl
  | p :: vs => by
    have ih := strs_sum vs
    have e : (SX.S p).length = p.length := SX.S_len p
    rw [mu_cons, List.map_cons, List.map_cons, List.sum_cons, List.length_cons, e]
    omega
theorem wl_join {M : Nat} {xs : List D} (h : WL M xs) (hM : M ≤ 10000000) : ∃ e, oJoinS " " (.list xs) = .ret e ∧ Tx M e := by
  obtain ⟨vs, rfl, l, a⟩ := h.ex
  refine ⟨.str (SX.S (joinL [32] vs)), ?_, ⟨_, rfl, Nat.le_trans (joinL_mu 32 vs) l, fun c hc => ?_⟩⟩
  · have ys : vs.map strP = (vs.map SX.S).map PyData.str := by
      rw [List.map_map]
      rfl
    rw [oJoinS_list, ys, joinI_at, sp_S, SX.join_S]
    have := strs_sum vs
    have s1 : ((" ") : Str).length = 1 := by decide
    rw [s1, Nat.mul_one]
    omega
  · rcases mem_joinL hc with z | ⟨p, hp, hc⟩
    · rw [List.mem_singleton.mp z]
      decide
    · exact a p hp c hc
theorem add_l {xs ys : List D} (h : xs.length + ys.length ≤ 1000000) : oAdd (.list xs) (.list ys) = .ret (.list (xs ++ ys)) := if_pos h
end Wk12
set_option Elab.async false
set_option linter.all false
set_option maxRecDepth 100000
set_option maxHeartbeats 4000000
namespace Wk12
open PySem PySem.Spec PyProof.Rows L2 Wb TL
abbrev x1 : Env' → T D := (eBin oAdd (eBin oAdd (eSlX (eV 1) pNone (pSome (eV 2))) (eV 4)) (eSlX (eV 1) (pSome (eV 2)) pNone))
abbrev x2 : Env' → T D := (eBin oAdd (eSlX (eV 1) pNone (pSome (eV 2))) (eSlX (eV 1) (pSome (eBin oAdd (eV 2) (eC (.int 1)))) pNone))
abbrev x3 : Env' → T D := (eBin oAdd (eBin oAdd (eSlX (eV 1) pNone (pSome (eV 2))) (eV 4)) (eSlX (eV 1) (pSome (eBin oAdd (eV 2) (eC (.int 1)))) pNone))
abbrev x4 : Env' → T D := (eBin oAdd (eV 1) (eV 4))
abbrev x5 : Env' → T D := (eSM oJoinS (eC (.str " ")) (eBin oAdd (eSl (eV 3) pNone (pSome (eV 6))) (eSl (eV 3) (pSome (eBin oAdd (eV 6) (eC (.int 1)))) pNone)))
abbrev x6 : Env' → T D := (eSM oJoinS (eC (.str " ")) (eBin oAdd (eV 3) (eSl (eV 3) (pSome (eV 6)) pNone)))
abbrev x7 : Env' → T D := (eSM oJoinS (eC (.str " ")) (eSl (eV 3) pNone (pSome (eV 6))))
abbrev x8 : Env' → T D := (eSM oJoinS (eC (.str " ")) (eBin oAdd (eBin oAdd (eSl (eV 3) pNone (pSome (eV 6))) (eSl (eV 3) (pSome (eV 6)) (pSome (eBin oAdd (eV 6) (eC (.int 1)))))) (eSl (eV 3) (pSome (eV 6)) pNone)))
abbrev x9 : Env' → T D := (eSM oJoinS (eC (.str " ")) (eRevS (eV 3)))
abbrev x10 : Env' → T D := (eSM0 oUpS (eV 1))
abbrev x11 : Env' → T D := (eSM oJoinS (eC (.str " ")) (eBin oAdd (eSl (eV 3) pNone (pSome (eC (.int 1)))) (eBin oRepW (eSl (eV 3) (pSome (eC (.int 1))) pNone) (eBin oIx (eLst (aCons (eC (.int 7)) (aCons (eC (.int 1)) aNil))) (eCb (o1 oInt) (aCons (eBin oGt (eCb oLen (aCons (eV 3) aNil)) (eC (.int 40))) aNil))))))
abbrev x12 : Env' → T D := (eBin oAdd (eC (.str " ")) (eV 1))
abbrev x13 : Env' → T D := (eBin oAdd (eV 1) (eC (.str " ")))
abbrev x14 : Env' → T D := (eBin oAdd (eV 1) (eC (.str " /")))
abbrev sgE : Env' → T D := (eLst (aCons (eC (.str "0")) (aCons (eC (.str "1")) (aCons (eC (.str "-")) (aCons (eC (.str "5")) (aCons (eC (.str " ")) (aCons (eC (.str "@")) (aCons (eC (.str ",")) (aCons (eC (.str "/")) (aCons (eC (.str "a")) (aCons (eC (.str "+")) (aCons (eC (.str "_")) (aCons (eC (.str "")) (aCons (eC (.str "00")) (aCons (eC (.str ".")) (aCons (eC (.str "\n")) (aCons (eC (.str "9999999999999")) aNil)))))))))))))))))
theorem changed_is : F_law_changed = (sSeq (sPar 2 3 (aCons (eCall 2 m_law_draw (aBox 0 (aCons (eBin oAdd (eCb (o1 oLenT) (aCons (eV 1) aNil)) (eC (.int 1))) aNil))) (aCons (eSM oSplitS (eV 1) (eC (.str " "))) aNil))) (sSeq (sSet 4 (eCall 2 m_law_one (aBox 0 (aCons sgE aNil)))) (sSeq (sOwn 5 (lLst (aCons x1 (aCons x2 (aCons x3 (aCons x4 aNil)))))) (sSeq (sSet 6 (eCall 2 m_law_draw (aBox 0 (aCons (eCb oLen (aCons (eV 3) aNil)) aNil)))) (sFrz 5 (sSeq (sOwn 5 (lAdd (eV 5) (eLst (aCons x5 (aCons x6 (aCons x7 aNil)))))) (sSeq (sApp 5 x8) (sFrz 5 (sSeq (sOwn 5 (lAdd (eV 5) (eLst (aCons x9 (aCons x10 aNil))))) (sSeq (sApp 5 x11) (sFrz 5 (sRet (eCall 2 m_law_one (aBox 0 (aCons (eBin oAdd (eV 5) (eLst (aCons x12 (aCons x13 (aCons x14 aNil))))) aNil))))))))))))))) := rfl
def signsL : List Str := ["0", "1", "-", "5", " ", "@", ",", "/", "a", "+", "_", "", "00", ".", "\n", "9999999999999"]
theorem sg_eq (ρ : Env') : sgE ρ = .ret (.list (signsL.map PyData.str)) := rfl
def txB (L : Nat) (z : Str) : Bool := decide ((tl z).length ≤ L) && (tl z).all (fun c => decide (c < 128))
theorem tx_by {L : Nat} {z : Str} (h : txB L z = true) : Tx L (.str z) := by
  unfold txB at h
  rw [Bool.and_eq_true, decide_eq_true_eq, List.all_eq_true] at h
  exact ⟨tl z, by rw [SX.S_tl], h.1, fun c hc => of_decide_eq_true (h.2 c hc)⟩
theorem signs_tx : ∀ z ∈ signsL, Tx 13 (.str z) := by
  have h : ∀ z ∈ signsL, txB 13 z = true := by decide +kernel
  exact fun z hz => tx_by (h z hz)
section
variable {L : Nat} {X Z : D} {W : List D} {i j : Int} (hL : L ≤ 100000) (hX : Tx L X) (hZ : Tx 13 Z) (hi : 0 ≤ i) (hj : 0 ≤ j) (hW : WL (L + 1) W) (s5 s6 : Sl)
include hL hX hZ hi
theorem x1_ok : ∃ d, x1 [.box true, .d X, .d (.int i), .d (.list W), .d Z, s5, s6] = .ret d ∧ Tx (8 * (L + 1) + 100) d := by
  obtain ⟨a, ea, ta⟩ := tx_to hX (by omega) hi
  obtain ⟨b, eb, tb⟩ := tx_from hX (by omega) hi
  obtain ⟨c, ec, tc⟩ := tx_add ta hZ (by omega)
  obtain ⟨d, ed, td⟩ := tx_add tc tb (by omega)
  exact ⟨d, by simp [ea, eb, ec, ed], td.mono (by omega)⟩
theorem x2_ok : ∃ d, x2 [.box true, .d X, .d (.int i), .d (.list W), .d Z, s5, s6] = .ret d ∧ Tx (8 * (L + 1) + 100) d := by
  obtain ⟨a, ea, ta⟩ := tx_to hX (by omega) hi
  obtain ⟨b, eb, tb⟩ := tx_from hX (by omega) (i := i + 1) (by omega)
  obtain ⟨d, ed, td⟩ := tx_add ta tb (by omega)
  exact ⟨d, by simp [ea, eb, ed], td.mono (by omega)⟩
theorem x3_ok : ∃ d, x3 [.box true, .d X, .d (.int i), .d (.list W), .d Z, s5, s6] = .ret d ∧ Tx (8 * (L + 1) + 100) d := by
  obtain ⟨a, ea, ta⟩ := tx_to hX (by omega) hi
  obtain ⟨b, eb, tb⟩ := tx_from hX (by omega) (i := i + 1) (by omega)
  obtain ⟨c, ec, tc⟩ := tx_add ta hZ (by omega)
  obtain ⟨d, ed, td⟩ := tx_add tc tb (by omega)
  exact ⟨d, by simp [ea, eb, ec, ed], td.mono (by omega)⟩
theorem x4_ok : ∃ d, x4 [.box true, .d X, .d (.int i), .d (.list W), .d Z, s5, s6] = .ret d ∧ Tx (8 * (L + 1) + 100) d := by
  obtain ⟨d, ed, td⟩ := tx_add hX hZ (by omega)
  exact ⟨d, by simp [ed], td.mono (by omega)⟩
omit hi hZ
theorem x10_ok : ∃ d, x10 [.box true, .d X, .d (.int i), .d (.list W), .d Z, s5, s6] = .ret d ∧ Tx (8 * (L + 1) + 100) d := by
  obtain ⟨d, ed, td⟩ := tx_up hX (by omega)
  exact ⟨d, by simp [ed], td.mono (by omega)⟩
theorem x12_ok : ∃ d, x12 [.box true, .d X, .d (.int i), .d (.list W), .d Z, s5, s6] = .ret d ∧ Tx (8 * (L + 1) + 100) d := by
  obtain ⟨d, ed, td⟩ := tx_add (tx_by (L := 1) (z := " ") (by decide +kernel)) hX (by omega)
  exact ⟨d, by simp [ed], td.mono (by omega)⟩
theorem x13_ok : ∃ d, x13 [.box true, .d X, .d (.int i), .d (.list W), .d Z, s5, s6] = .ret d ∧ Tx (8 * (L + 1) + 100) d := by
  obtain ⟨d, ed, td⟩ := tx_add hX (tx_by (L := 1) (z := " ") (by decide +kernel)) (by omega)
  exact ⟨d, by simp [ed], td.mono (by omega)⟩
theorem x14_ok : ∃ d, x14 [.box true, .d X, .d (.int i), .d (.list W), .d Z, s5, s6] = .ret d ∧ Tx (8 * (L + 1) + 100) d := by
  obtain ⟨d, ed, td⟩ := tx_add hX (tx_by (L := 2) (z := " /") (by decide +kernel)) (by omega)
  exact ⟨d, by simp [ed], td.mono (by omega)⟩
omit hX
include hW
theorem x5_ok : ∃ d, x5 [.box true, .d X, .d (.int i), .d (.list W), .d Z, s5, .d (.int j)] = .ret d ∧ Tx (8 * (L + 1) + 100) d := by
  have a := wl_cut hW none (some j)
  have b := wl_cut hW (some (j + 1)) none
  have ad := add_l (xs := Wb.cutD W none (some j)) (ys := Wb.cutD W (some (j + 1)) none) (by have := wl_len a; have := wl_len b; omega)
  obtain ⟨d, ed, td⟩ := wl_join (wl_app a b) (by omega)
  refine ⟨d, ?_, td.mono (by omega)⟩
  generalize PyData.list (Wb.cutD W none (some j) ++ Wb.cutD W (some (j + 1)) none) = R at *
  simp [ad, ed, -oJoinS_list]
theorem x6_ok : ∃ d, x6 [.box true, .d X, .d (.int i), .d (.list W), .d Z, s5, .d (.int j)] = .ret d ∧ Tx (8 * (L + 1) + 100) d := by
  have b := wl_cut hW (some j) none
  have ad := add_l (xs := W) (ys := Wb.cutD W (some j) none) (by have := wl_len hW; have := wl_len b; omega)
  obtain ⟨d, ed, td⟩ := wl_join (wl_app hW b) (by omega)
  refine ⟨d, ?_, td.mono (by omega)⟩
  generalize PyData.list (W ++ Wb.cutD W (some j) none) = R at *
  simp [ad, ed, -oJoinS_list]
theorem x7_ok : ∃ d, x7 [.box true, .d X, .d (.int i), .d (.list W), .d Z, s5, .d (.int j)] = .ret d ∧ Tx (8 * (L + 1) + 100) d := by
  have a := wl_cut hW none (some j)
  obtain ⟨d, ed, td⟩ := wl_join a (by omega)
  refine ⟨d, ?_, td.mono (by omega)⟩
  simp [ed, -oJoinS_list]
theorem x8_ok : ∃ d, x8 [.box true, .d X, .d (.int i), .d (.list W), .d Z, s5, .d (.int j)] = .ret d ∧ Tx (8 * (L + 1) + 100) d := by
  have a := wl_cut hW none (some j)
  have b := wl_cut hW (some j) (some (j + 1))
  have c := wl_cut hW (some j) none
  have ad := add_l (xs := Wb.cutD W none (some j)) (ys := Wb.cutD W (some j) (some (j + 1))) (by have := wl_len a; have := wl_len b; omega)
  have ad2 := add_l (xs := Wb.cutD W none (some j) ++ Wb.cutD W (some j) (some (j + 1))) (ys := Wb.cutD W (some j) none) (by have := wl_len (wl_app a b); have := wl_len c; omega)
  obtain ⟨d, ed, td⟩ := wl_join (wl_app (wl_app a b) c) (by omega)
  refine ⟨d, ?_, td.mono (by omega)⟩
  generalize PyData.list (Wb.cutD W none (some j) ++ Wb.cutD W (some j) (some (j + 1)) ++ Wb.cutD W (some j) none) = R at *
  generalize PyData.list (Wb.cutD W none (some j) ++ Wb.cutD W (some j) (some (j + 1))) = R2 at *
  simp [ad, ad2, ed, -oJoinS_list]
theorem x9_ok : ∃ d, x9 [.box true, .d X, .d (.int i), .d (.list W), .d Z, s5, s6] = .ret d ∧ Tx (8 * (L + 1) + 100) d := by
  obtain ⟨d, ed, td⟩ := wl_join (wl_rev hW) (by omega)
  refine ⟨d, ?_, td.mono (by omega)⟩
  have r : oRevS (.list W) = .ret (.list W.reverse) := rfl
  generalize PyData.list W.reverse = R at *
  simp [r, ed, -oJoinS_list]
theorem x11_ok : ∃ d, x11 [.box true, .d X, .d (.int i), .d (.list W), .d Z, s5, s6] = .ret d ∧ Tx (8 * (L + 1) + 100) d := by
  have a := wl_cut hW none (some 1)
  have b := wl_cut hW (some 1) none
  obtain ⟨k, hk, k7⟩ : ∃ k : Nat, (eBin oIx (eLst (aCons (eC (.int 7)) (aCons (eC (.int 1)) aNil))) (eCb (o1 oInt) (aCons (eBin oGt (eCb oLen (aCons (eV 3) aNil)) (eC (.int 40))) aNil))) [.box true, .d X, .d (.int i), .d (.list W), .d Z, s5, s6] = .ret (.int (k : Nat)) ∧ k ≤ 7 := by
    have ln : oLen [.d (.list W)] = .ret (.int (W.length : Nat)) := rfl
    have gt : oGt (.int (W.length : Nat)) (.int 40) = .ret (.bool (decide (40 < (W.length : Int)))) := rfl
    generalize decide (40 < (W.length : Int)) = b at *
    generalize PyData.list W = WD at *
    generalize ((W.length : Nat) : Int) = LW at *
    have i0 : oIx (.list [.int 7, .int 1]) (.int 0) = .ret (.int 7) := rfl
    have i1 : oIx (.list [.int 7, .int 1]) (.int 1) = .ret (.int 1) := rfl
    have t1 : oInt (.bool true) = .ret (.int 1) := rfl
    have t0 : oInt (.bool false) = .ret (.int 0) := rfl
    cases b with
    | true => exact ⟨1, by simp [ln, gt, t1, i1], by decide⟩
    | false => exact ⟨7, by simp [ln, gt, t0, i0], by decide⟩
  have c := wl_mono (wl_rep b k) (Nat.mul_le_mul_right (L + 1) k7)
  have lb := wl_len b
  have rp : oRepW (.list (Wb.cutD W (some 1) none)) (.int (k : Nat)) = .ret (.list (List.replicate k (Wb.cutD W (some 1) none)).flatten) := by
    have c1 : (0 : Int) ≤ (k : Nat) ∧ ((k : Nat) : Int) ≤ 1000 ∧ (Wb.cutD W (some 1) none).length * ((k : Nat) : Int).toNat ≤ 1000000 := by
      refine ⟨by omega, by omega, ?_⟩
      have e : ((k : Nat) : Int).toNat = k := by omega
      rw [e]
      have := Nat.mul_le_mul lb k7
      omega
    show (if _ then _ else _) = _
    rw [if_pos c1]
    have e : ((k : Nat) : Int).toNat = k := by omega
    rw [e]
  have ad := add_l (xs := Wb.cutD W none (some 1)) (ys := (List.replicate k (Wb.cutD W (some 1) none)).flatten) (by have := wl_len a; have := wl_len c; omega)
  obtain ⟨d, ed, td⟩ := wl_join (wl_app a c) (by omega)
  refine ⟨d, ?_, td.mono (by omega)⟩
  unfold x11
  generalize (eBin oIx (eLst (aCons (eC (.int 7)) (aCons (eC (.int 1)) aNil))) (eCb (o1 oInt) (aCons (eBin oGt (eCb oLen (aCons (eV 3) aNil)) (eC (.int 40))) aNil))) = KE at *
  generalize PyData.list (Wb.cutD W none (some 1) ++ (List.replicate k (Wb.cutD W (some 1) none)).flatten) = R at *
  generalize PyData.list (List.replicate k (Wb.cutD W (some 1) none)).flatten = R2 at *
  simp [hk, rp, ad, ed, -oJoinS_list]
end
end Wk12
set_option Elab.async false
set_option linter.all false
set_option maxRecDepth 100000
set_option maxHeartbeats 4000000
namespace Wk12
open PySem PySem.Spec PyProof.Rows L2 Wb TL
theorem tx_split' {L : Nat} {d : D} (h : Tx L d) (hL : L ≤ 1000000) : ∃ xs, (∀ ρ, kS oSplitS (eC (.str " ")) ρ d = .ret (.list xs)) ∧ WL (L + 1) xs ∧ xs ≠ [] := by
  obtain ⟨cs, rfl, l, a⟩ := h.ex
  have sp := split_eq (s := 32) sp_S (by decide) (cs := cs) (by omega)
  refine ⟨(spS 32 cs).map strP, fun ρ => sp, ⟨_, rfl, by rw [sp_mu]; omega, fun v hv c hc => a c (sp_mem hv c hc)⟩, fun z => ?_⟩
  exact sp_ne (List.map_eq_nil_iff.mp z)
theorem tail_of (X9 X10 X11 X12 X13 X14 : Env' → T D) {P : D → Prop} {X W Z d1 d2 d3 d4 d5 d6 d7 d8 : D} {i j : Int} (t1 : P d1) (t2 : P d2) (t3 : P d3) (t4 : P d4) (t5 : P d5) (t6 : P d6) (t7 : P d7) (t8 : P d8)
    (h9 : ∀ s5 s6, ∃ d, X9 [.box true, .d X, .d (.int i), .d W, .d Z, s5, s6] = .ret d ∧ P d) (h10 : ∀ s5 s6, ∃ d, X10 [.box true, .d X, .d (.int i), .d W, .d Z, s5, s6] = .ret d ∧ P d)
    (h11 : ∀ s5 s6, ∃ d, X11 [.box true, .d X, .d (.int i), .d W, .d Z, s5, s6] = .ret d ∧ P d) (h12 : ∀ s5 s6, ∃ d, X12 [.box true, .d X, .d (.int i), .d W, .d Z, s5, s6] = .ret d ∧ P d)
    (h13 : ∀ s5 s6, ∃ d, X13 [.box true, .d X, .d (.int i), .d W, .d Z, s5, s6] = .ret d ∧ P d) (h14 : ∀ s5 s6, ∃ d, X14 [.box true, .d X, .d (.int i), .d W, .d Z, s5, s6] = .ret d ∧ P d) :
    ((sFrz 5 (sSeq (sOwn 5 (lAdd (eV 5) (eLst (aCons X9 (aCons X10 aNil))))) (sSeq (sApp 5 X11) (sFrz 5 (sRet (eCall 2 m_law_one (aBox 0 (aCons (eBin oAdd (eV 5) (eLst (aCons X12 (aCons X13 (aCons X14 aNil))))) aNil)))))))) [.box true, .d X, .d (.int i), .d W, .d Z, .own [d1, d2, d3, d4, d5, d6, d7, d8], .d (.int j)]).wp (fun fl => ∃ d, fl = .ret d ∧ P d) noE := by
  obtain ⟨d9, e9, t9⟩ := h9 (.d (.list [d1, d2, d3, d4, d5, d6, d7, d8])) (.d (.int j))
  obtain ⟨d10, e10, t10⟩ := h10 (.d (.list [d1, d2, d3, d4, d5, d6, d7, d8])) (.d (.int j))
  obtain ⟨d11, e11, t11⟩ := h11 (.own [d1, d2, d3, d4, d5, d6, d7, d8, d9, d10]) (.d (.int j))
  obtain ⟨d12, e12, t12⟩ := h12 (.d (.list [d1, d2, d3, d4, d5, d6, d7, d8, d9, d10, d11])) (.d (.int j))
  obtain ⟨d13, e13, t13⟩ := h13 (.d (.list [d1, d2, d3, d4, d5, d6, d7, d8, d9, d10, d11])) (.d (.int j))
  obtain ⟨d14, e14, t14⟩ := h14 (.d (.list [d1, d2, d3, d4, d5, d6, d7, d8, d9, d10, d11])) (.d (.int j))
  have o := one_wp (P := fun d => P d) (E := noE) (xs := [d1, d2, d3, d4, d5, d6, d7, d8, d9, d10, d11, d12, d13, d14]) (by simp) (by simp) (fun x hx => by
    simp only [List.mem_cons, List.not_mem_nil, or_false] at hx
    rcases hx with rfl | rfl | rfl | rfl | rfl | rfl | rfl | rfl | rfl | rfl | rfl | rfl | rfl | rfl <;> assumption)
  have ad : oAdd (.list [d1, d2, d3, d4, d5, d6, d7, d8, d9, d10, d11]) (.list [d12, d13, d14]) = .ret (.list [d1, d2, d3, d4, d5, d6, d7, d8, d9, d10, d11, d12, d13, d14]) := rfl
  simp [sFrz, e9, e10, sApp, e11, e12, e13, e14, ad]
  refine T.le o ?_
  intro d hd
  exact hd
theorem head_of (X5 X6 X7 X8 : Env' → T D) (TL' : Env' → T Fl) {P : D → Prop} {X W Z d1 d2 d3 d4 : D} {i j : Int} (t1 : P d1) (t2 : P d2) (t3 : P d3) (t4 : P d4)
    (h5 : ∀ s5, ∃ d, X5 [.box true, .d X, .d (.int i), .d W, .d Z, s5, .d (.int j)] = .ret d ∧ P d) (h6 : ∀ s5, ∃ d, X6 [.box true, .d X, .d (.int i), .d W, .d Z, s5, .d (.int j)] = .ret d ∧ P d)
    (h7 : ∀ s5, ∃ d, X7 [.box true, .d X, .d (.int i), .d W, .d Z, s5, .d (.int j)] = .ret d ∧ P d) (h8 : ∀ s5, ∃ d, X8 [.box true, .d X, .d (.int i), .d W, .d Z, s5, .d (.int j)] = .ret d ∧ P d)
    (ht : ∀ d5 d6 d7 d8, P d5 → P d6 → P d7 → P d8 → (TL' [.box true, .d X, .d (.int i), .d W, .d Z, .own [d1, d2, d3, d4, d5, d6, d7, d8], .d (.int j)]).wp (fun fl => ∃ d, fl = .ret d ∧ P d) noE) :
    ((sFrz 5 (sSeq (sOwn 5 (lAdd (eV 5) (eLst (aCons X5 (aCons X6 (aCons X7 aNil)))))) (sSeq (sApp 5 X8) TL'))) [.box true, .d X, .d (.int i), .d W, .d Z, .own [d1, d2, d3, d4], .d (.int j)]).wp (fun fl => ∃ d, fl = .ret d ∧ P d) noE := by
  obtain ⟨d5, e5, t5⟩ := h5 (.d (.list [d1, d2, d3, d4]))
  obtain ⟨d6, e6, t6⟩ := h6 (.d (.list [d1, d2, d3, d4]))
  obtain ⟨d7, e7, t7⟩ := h7 (.d (.list [d1, d2, d3, d4]))
  obtain ⟨d8, e8, t8⟩ := h8 (.own [d1, d2, d3, d4, d5, d6, d7])
  have t := ht d5 d6 d7 d8 t5 t6 t7 t8
  simp [sFrz, e5, e6, e7, sApp, e8]
  exact t
theorem changed_of (X1 X2 X3 X4 SG : Env' → T D) (TH : Env' → T Fl) {P Q : D → Prop} {X : D} {W SL : List D} {n : Nat} (ln : oLenT X = .ret (.int (n : Nat))) (hn : n ≤ 1000000) (sp : ∀ ρ, kS oSplitS (eC (.str " ")) ρ X = .ret (.list W)) (w0 : 0 < W.length) (w1 : W.length ≤ 1000000)
    (sg : ∀ ρ, SG ρ = .ret (.list SL)) (s0 : 0 < SL.length) (s1 : SL.length < 1000) (sq : ∀ x ∈ SL, Q x)
    (h1 : ∀ i Z, 0 ≤ i → Q Z → ∀ s5 s6, ∃ d, X1 [.box true, .d X, .d (.int i), .d (.list W), .d Z, s5, s6] = .ret d ∧ P d) (h2 : ∀ i Z, 0 ≤ i → Q Z → ∀ s5 s6, ∃ d, X2 [.box true, .d X, .d (.int i), .d (.list W), .d Z, s5, s6] = .ret d ∧ P d)
    (h3 : ∀ i Z, 0 ≤ i → Q Z → ∀ s5 s6, ∃ d, X3 [.box true, .d X, .d (.int i), .d (.list W), .d Z, s5, s6] = .ret d ∧ P d) (h4 : ∀ i Z, 0 ≤ i → Q Z → ∀ s5 s6, ∃ d, X4 [.box true, .d X, .d (.int i), .d (.list W), .d Z, s5, s6] = .ret d ∧ P d)
    (ht : ∀ i j Z d1 d2 d3 d4, 0 ≤ i → 0 ≤ j → Q Z → P d1 → P d2 → P d3 → P d4 → (TH [.box true, .d X, .d (.int i), .d (.list W), .d Z, .own [d1, d2, d3, d4], .d (.int j)]).wp (fun fl => ∃ d, fl = .ret d ∧ P d) noE) :
    (mkDef 7 (sSeq (sPar 2 3 (aCons (eCall 2 m_law_draw (aBox 0 (aCons (eBin oAdd (eCb (o1 oLenT) (aCons (eV 1) aNil)) (eC (.int 1))) aNil))) (aCons (eSM oSplitS (eV 1) (eC (.str " "))) aNil))) (sSeq (sSet 4 (eCall 2 m_law_one (aBox 0 (aCons SG aNil)))) (sSeq (sOwn 5 (lLst (aCons X1 (aCons X2 (aCons X3 (aCons X4 aNil)))))) (sSeq (sSet 6 (eCall 2 m_law_draw (aBox 0 (aCons (eCb oLen (aCons (eV 3) aNil)) aNil)))) TH)))) [.box true, .d X]).wp P noE := by
  have o := one_wp (P := Q) (E := noE) (xs := SL) s0 (by omega) sq
  have lw : oLen [.d (.list W)] = .ret (.int (W.length : Nat)) := rfl
  have w2 : (0 : Int) < (W.length : Nat) := by omega
  have w3 : ((W.length : Nat) : Int) < 10000000000000000000000000000000000000000 := by omega
  generalize ((W.length : Nat) : Int) = LW at *
  generalize PyData.list SL = SD at *
  simp [ln]
  refine ⟨by omega, fun i i0 i1 => ?_⟩
  simp only [sp]
  generalize hWD : PyData.list W = WD at *
  simp [sg]
  refine T.le o ?_
  intro Z hZ
  obtain ⟨d1, e1, t1⟩ := h1 i Z i0 hZ .no .no
  obtain ⟨d2, e2, t2⟩ := h2 i Z i0 hZ .no .no
  obtain ⟨d3, e3, t3⟩ := h3 i Z i0 hZ .no .no
  obtain ⟨d4, e4, t4⟩ := h4 i Z i0 hZ .no .no
  simp [e1, e2, e3, e4, lw]
  refine ⟨w2, w3, fun j j0 j1 => ?_⟩
  refine T.le (ht i j Z d1 d2 d3 d4 i0 j0 hZ t1 t2 t3 t4) ?_
  rintro _ ⟨d, rfl, hd⟩
  simp
  exact hd
theorem changed_wp {L : Nat} (hL : L ≤ 100000) {X : D} (hX : Tx L X) : (m_law_changed [.box true, .d X]).wp (Tx (8 * (L + 1) + 100)) noE := by
  obtain ⟨n, ln, hn⟩ := tx_len hX (by omega)
  obtain ⟨W, sp, hW, wn⟩ := tx_split' hX (by omega)
  have wl := wl_len hW
  have w0 : 0 < W.length := by
    cases W with
    | nil => exact absurd rfl wn
    | cons a r => simp
  rw [mq_law_changed, changed_is]
  exact changed_of x1 x2 x3 x4 sgE _ (Q := Tx 13) ln (by omega) sp w0 (by omega) sg_eq (by decide) (by decide) (fun x hx => by
    obtain ⟨z, hz, rfl⟩ := List.mem_map.mp hx
    exact signs_tx z hz) (fun i Z hi hZ s5 s6 => x1_ok hL hX hZ hi s5 s6) (fun i Z hi hZ s5 s6 => x2_ok hL hX hZ hi s5 s6) (fun i Z hi hZ s5 s6 => x3_ok hL hX hZ hi s5 s6) (fun i Z hi hZ s5 s6 => x4_ok hL hX hZ hi s5 s6)
    (fun i j Z d1 d2 d3 d4 hi hj hZ t1 t2 t3 t4 => head_of x5 x6 x7 x8 _ t1 t2 t3 t4 (fun s5 => x5_ok hL hW s5) (fun s5 => x6_ok hL hW s5) (fun s5 => x7_ok hL hW s5) (fun s5 => x8_ok hL hW s5)
      (fun d5 d6 d7 d8 t5 t6 t7 t8 => tail_of x9 x10 x11 x12 x13 x14 t1 t2 t3 t4 t5 t6 t7 t8 (fun s5 s6 => x9_ok hL hW s5 s6) (fun s5 s6 => x10_ok hL hX s5 s6) (fun s5 s6 => x11_ok hL hW s5 s6) (fun s5 s6 => x12_ok hL hX s5 s6) (fun s5 s6 => x13_ok hL hX s5 s6) (fun s5 s6 => x14_ok hL hX s5 s6)))
end Wk12
set_option Elab.async false
set_option linter.all false
set_option maxRecDepth 100000
set_option maxHeartbeats 4000000
namespace Wk12
open PySem PySem.Spec PyProof.Rows L2 Wb TL
/-! ### the text of a drawn flow -/
def smA (i : Int) : Bool := (tl (iT i)).all (fun c => decide (c < 128)) && decide ((iT i).length ≤ 2)
theorem sma_ok {i : Int} (h0 : -4 ≤ i) (h1 : i ≤ 5) : (∀ c ∈ tl (iT i), c < 128) ∧ (iT i).length ≤ 2 := by
  have h := small_all (P := fun i => smA i = true) (by decide +kernel) h0 h1
  unfold smA at h
  rw [Bool.and_eq_true, List.all_eq_true] at h
  exact ⟨fun c hc => of_decide_eq_true (h.1 c hc), of_decide_eq_true h.2⟩
theorem lit_asc : (∀ c ∈ tl ",", c < 128) ∧ (∀ c ∈ tl "@", c < 128) ∧ (∀ c ∈ tl " ", c < 128) ∧ (∀ c ∈ tl "/ ", c < 128) := by decide +kernel
theorem vec_a {ns : List Int} {n : Nat} (hl : ns.length = n) (h3 : n ≤ 3) (h : ∀ x ∈ ns, x.natAbs ≤ 4) : (∀ c ∈ tl (vecT ns), c < 128) ∧ (vecT ns).length ≤ 9 := by
  constructor
  · intro c hc
    rcases mem_join hc with z | ⟨y, hy, hc⟩
    · exact lit_asc.1 c z
    · obtain ⟨x, hx, rfl⟩ := List.mem_map.mp hy
      have := h x hx
      exact (sma_ok (by omega) (by omega)).1 c hc
  · have z := len_join (z := ",") (b := 2) (ys := ns.map iT) (fun y hy => by
      obtain ⟨x, hx, rfl⟩ := List.mem_map.mp hy
      have := h x hx
      exact (sma_ok (by omega) (by omega)).2)
    have e : ((",") : Str).length = 1 := by decide
    rw [List.length_map, e, hl] at z
    unfold vecT
    omega
theorem read_a {n m : Nat} {r : Rd} (h3 : n ≤ 3) (m6 : m ≤ 6) (h1 : r.1 < m) (h2 : r.2.length = n) (h4 : ∀ z ∈ r.2, z.natAbs ≤ 4) : (∀ c ∈ tl (readT r), c < 128) ∧ (readT r).length ≤ 12 := by
  obtain ⟨v1, v2⟩ := vec_a h2 h3 h4
  obtain ⟨i1, i2⟩ := sma_ok (i := ((r.1 : Nat) : Int)) (by omega) (by omega)
  unfold readT
  constructor
  · intro c hc
    rw [tl_append, tl_append, List.mem_append, List.mem_append] at hc
    rcases hc with (hc | hc) | hc
    · exact i1 c hc
    · exact lit_asc.2.1 c hc
    · exact v1 c hc
  · have e : (("@") : Str).length = 1 := by decide
    rw [len_app, len_app]
    omega
theorem kl_a : ∀ p ∈ KL, (∀ c ∈ tl p.1, c < 128) ∧ p.1.length ≤ 10 ∧ p.2 ≤ 3 := by decide +kernel
theorem rule_a {n m : Nat} (h3 : n ≤ 3) (m6 : m ≤ 6) {r : Ru} (h : OkR n m r) : (∀ c ∈ tl (ruleT r), c < 128) ∧ (ruleT r).length ≤ 52 := by
  obtain ⟨p, hp, e1, e2⟩ := h.kind
  obtain ⟨k1, k2, k3⟩ := kl_a p hp
  have rd := fun x (hx : x ∈ r.2) => read_a h3 m6 (h.src x hx) (h.dl x hx) (h.db x hx)
  unfold ruleT
  constructor
  · intro c hc
    rcases mem_join hc with z | ⟨y, hy, hc⟩
    · exact lit_asc.2.2.1 c z
    · rcases List.mem_cons.mp hy with rfl | hy
      · rw [e1] at hc
        exact k1 c hc
      · obtain ⟨x, hx, rfl⟩ := List.mem_map.mp hy
        exact (rd x hx).1 c hc
  · have z := len_join (z := " ") (b := 12) (ys := r.1 :: r.2.map readT) (fun y hy => by
      rcases List.mem_cons.mp hy with rfl | hy
      · rw [e1]
        omega
      · obtain ⟨x, hx, rfl⟩ := List.mem_map.mp hy
        exact (rd x hx).2)
    rw [sp_len, List.length_cons, List.length_map] at z
    omega
theorem flow_a {n : Nat} {rs : List Ru} (h : FOk n rs) : Tx 400 (.str (flowT n rs)) := by
  have l6 := h.l6
  have n3 := h.n3
  have n2 := h.n2
  have ru := fun r (hr : r ∈ rs) => rule_a n3 l6 (h.ok r hr)
  obtain ⟨i1, i2⟩ := sma_ok (i := ((n : Nat) : Int)) (by omega) (by omega)
  refine ⟨tl (flowT n rs), by rw [SX.S_tl], ?_, ?_⟩
  · have z := len_join (z := " ") (b := 54) (ys := iT (n : Nat) :: rs.map fun r => "/ " ++ ruleT r) (fun y hy => by
      rcases List.mem_cons.mp hy with rfl | hy
      · omega
      · obtain ⟨r, hr, rfl⟩ := List.mem_map.mp hy
        have := (ru r hr).2
        rw [len_app, sl_len]
        omega)
    rw [sp_len, List.length_cons, List.length_map] at z
    rw [← len_tl]
    unfold flowT
    omega
  · intro c hc
    unfold flowT at hc
    rcases mem_join hc with z | ⟨y, hy, hc⟩
    · exact lit_asc.2.2.1 c z
    · rcases List.mem_cons.mp hy with rfl | hy
      · exact i1 c hc
      · obtain ⟨r, hr, rfl⟩ := List.mem_map.mp hy
        rw [tl_append, List.mem_append] at hc
        rcases hc with hc | hc
        · exact lit_asc.2.2.2 c hc
        · exact (ru r hr).1 c hc
theorem flok_of {n : Nat} {rs : List Ru} (h : FOk n rs) : FlOk n rs := ⟨h.n3, h.l6, fun r hr => by
  obtain ⟨p, hp, e1, e2⟩ := (h.ok r hr).kind
  obtain ⟨_, k2, k3⟩ := kl_a p hp
  have l6 := h.l6
  have n3 := h.n3
  refine ⟨by rw [e1]; exact k2, by omega, fun x hx => ⟨by have := (h.ok r hr).src x hx; omega, ⟨by have := (h.ok r hr).dl x hx; omega, fun z hz => Nat.lt_of_le_of_lt ((h.ok r hr).db x hx z hz) (by decide)⟩⟩⟩⟩
/-! ### values -/
def Vk (v : D) : Prop := notStr v = true ∨ Tx 500000 v
def vkB (v : D) : Bool := match v with
  | .str z => txB 500000 z
  | _ => true
theorem vk_by {v : D} (h : vkB v = true) : Vk v := by
  cases v with
  | str z => exact .inr (tx_by h)
  | _ => exact .inl rfl
abbrev o1E : Env' → T D := (eLst (aCons (eC .none) (aCons (eC (.bool true)) (aCons (eC (.bool false)) (aCons (eUn oNeg (eC (.int 1))) (aCons (eC (.int 0)) (aCons (eC (.int 1)) (aCons (eC (.int 2)) (aCons (eC (.int 3)) (aCons (eC (.int 4)) (aCons (eC (.int 6)) (aCons (eC (.int 7)) (aCons (eC (.int 61)) (aCons (eC (.int 65520)) (aCons (eC (.int 65521)) (aCons (eBin oPow (eC (.int 10)) (eC (.int 39))) (aCons (eC (.str "")) (aCons (eC (.str "add")) (aCons (eC (.str "0")) (aCons (eTup aNil) (aCons (eTup (aCons (eC (.int 0)) aNil)) (aCons (eTup (aCons (eC (.int 0)) (aCons (eC (.int 1)) aNil))) aNil))))))))))))))))))))))
abbrev o2E : Env' → T D := (eLst (aCons (eTup (aCons (eC (.int 1)) (aCons (eC (.int 0)) (aCons (eC (.int 0)) aNil)))) (aCons (eTup (aCons (eC (.str "neg")) (aCons (eTup (aCons (eC (.int 0)) (aCons (eTup (aCons (eC (.int 1)) (aCons (eC (.int 0)) aNil))) aNil))) aNil))) (aCons (eTup (aCons (eC (.int 0)) (aCons (eTup (aCons (eC (.int 1)) (aCons (eC (.int 0)) aNil))) aNil))) (aCons (eTup (aCons (eC (.int 2)) (aCons (eTup aNil) aNil))) (aCons (eLst aNil) (aCons (eLst (aCons (eC (.int 0)) aNil)) (aCons (eC (.dict [])) (aCons (eDct [("neg", (eC (.int 0)))]) (aCons (eTup (aCons (eTup aNil) aNil)) (aCons (eC (.str "neg 0@1,0")) aNil)))))))))))
abbrev l1E : Env' → T D := (eLst (aCons (eV 3) (aCons (eC .none) (aCons (eLst (aCons (eV 3) aNil)) (aCons (eC (.str "")) (aCons (eC (.str "2")) (aCons (eC (.str "3 /")) (aCons (eC (.str "2 / neg")) (aCons (eC (.str "2 / neg 0@1,0 /")) (aCons (eC (.str "4 / neg 0@1,0")) (aCons (eCall 1 m_law_odd (aBox 1 aNil)) aNil)))))))))))
abbrev l2E : Env' → T D := (eLst (aCons (eC (.str "2 / neg 0@1_0,0")) (aCons (eC (.str "2 / neg 1@0,0")) (aCons (eC (.str "2 / neg 0@5,0")) (aCons (eC (.str "2 / neg 0@01,0")) (aCons (eC (.str "2 / neg 0@1,0,0")) aNil))))))
theorem odd_is : F_law_odd = (sSeq (sSet 1 o1E) (sSeq (sSet 1 (eBin oAdd (eV 1) o2E)) (sRet (eCall 2 m_law_one (aBox 0 (aCons (eV 1) aNil)))))) := rfl
def odd1 : List D := [.none, .bool true, .bool false, .int (-1), .int 0, .int 1, .int 2, .int 3, .int 4, .int 6, .int 7, .int 61, .int 65520, .int 65521, .int (10 ^ 39), .str "", .str "add", .str "0", .tuple [], .tuple [.int 0], .tuple [.int 0, .int 1]]
def odd2 : List D := [.tuple [.int 1, .int 0, .int 0], .tuple [.str "neg", .tuple [.int 0, .tuple [.int 1, .int 0]]], .tuple [.int 0, .tuple [.int 1, .int 0]], .tuple [.int 2, .tuple []], .list [], .list [.int 0], .dict [], .dict [(.str "neg", .int 0)], .tuple [.tuple []], .str "neg 0@1,0"]
theorem pow39 : oPow (.int 10) (.int 39) = .ret (.int (10 ^ 39)) := retB_eq (n := 5) (by decide +kernel)
theorem o1_of (P : Env' → T D) (A : Int) (hP : ∀ ρ, P ρ = .ret (.int A)) (ρ : Env') : (eLst (aCons (eC .none) (aCons (eC (.bool true)) (aCons (eC (.bool false)) (aCons (eUn oNeg (eC (.int 1))) (aCons (eC (.int 0)) (aCons (eC (.int 1)) (aCons (eC (.int 2)) (aCons (eC (.int 3)) (aCons (eC (.int 4)) (aCons (eC (.int 6)) (aCons (eC (.int 7)) (aCons (eC (.int 61)) (aCons (eC (.int 65520)) (aCons (eC (.int 65521)) (aCons P (aCons (eC (.str "")) (aCons (eC (.str "add")) (aCons (eC (.str "0")) (aCons (eTup aNil) (aCons (eTup (aCons (eC (.int 0)) aNil)) (aCons (eTup (aCons (eC (.int 0)) (aCons (eC (.int 1)) aNil))) aNil)))))))))))))))))))))) ρ = .ret (.list [.none, .bool true, .bool false, .int (-1), .int 0, .int 1, .int 2, .int 3, .int 4, .int 6, .int 7, .int 61, .int 65520, .int 65521, .int A, .str "", .str "add", .str "0", .tuple [], .tuple [.int 0], .tuple [.int 0, .int 1]]) := by
  simp [hP]
theorem o1_eq (ρ : Env') : o1E ρ = .ret (.list odd1) := o1_of (eBin oPow (eC (.int 10)) (eC (.int 39))) (10 ^ 39) (fun ρ => pow39) ρ
theorem o2_eq (ρ : Env') : o2E ρ = .ret (.list odd2) := rfl
theorem odd_ok : (odd1 ++ odd2).all vkB = true ∧ (odd1 ++ odd2).length = 31 ∧ odd1.length = 21 ∧ odd2.length = 10 := by decide +kernel
theorem odd_of (E1 E2 : Env' → T D) (A B : List D) (h1 : ∀ ρ, E1 ρ = .ret (.list A)) (h2 : ∀ ρ, E2 ρ = .ret (.list B)) (la : A.length = 21) (lb : B.length = 10) (h : ∀ v ∈ A ++ B, Vk v) :
    (mkDef 2 (sSeq (sSet 1 E1) (sSeq (sSet 1 (eBin oAdd (eV 1) E2)) (sRet (eCall 2 m_law_one (aBox 0 (aCons (eV 1) aNil)))))) [.box true]).wp Vk noE := by
  have ad := add_l (xs := A) (ys := B) (by omega)
  have o := one_wp (P := Vk) (E := noE) (xs := A ++ B) (by rw [List.length_append]; omega) (by rw [List.length_append]; omega) h
  generalize PyData.list (A ++ B) = R at *
  simp [h1, h2, ad]
  exact o
theorem odd_wp : (m_law_odd [.box true]).wp Vk noE := by
  rw [mq_law_odd, odd_is]
  exact odd_of o1E o2E odd1 odd2 o1_eq o2_eq odd_ok.2.2.1 odd_ok.2.2.2 fun v hv => vk_by (List.all_eq_true.mp odd_ok.1 v hv)
/-! ### one value -/
theorem vk_res {v : D} (h : Vk v) : ∃ R, m_law_due [.d v] = .ret R ∧ m_law_told [.d v] = .ret R ∧ Good R := by
  rcases h with h | h
  · obtain ⟨a, b⟩ := other_eq h
    have tw := text_word
    exact ⟨_, a, b, ⟨(ti_ltwo (ti_by tw.2.2.1) ti_none).mono (by decide) (by decide), low_ltwo (Wb.Rp.word_low tw.1) low_none⟩⟩
  · obtain ⟨cs, rfl, l, a⟩ := h.ex
    have t : TOk cs := ⟨by omega, a⟩
    exact ⟨_, law_due_eq t, told_eq t, res_good t⟩
theorem ne_two' {z : Str} (h : PyData.strOk z = true) : oNe (.list [.str z, .str z]) (.list [.str z, .str z]) = .ret (.bool false) := by
  have c : cEq (.list [.str z, .str z]) = true := cEq_strs (xs := [z, z]) fun x hx => by
    simp only [List.mem_cons, List.not_mem_nil, or_false, or_self] at hx
    rw [hx]
    exact h
  unfold oNe
  rw [c, Bool.and_self, Bool.or_true, if_pos rfl]
  simp [PyData.eqv, PyData.eqvAll]
theorem value_eq {v : D} (h : Vk v) (s2 s3 s4 s5 s7 s8 : Sl) : ∃ t7 t8, B1_law [.no, .box true, s2, s3, s4, s5, .d v, s7, s8] = .ret (.nx [.no, .box true, s2, s3, s4, s5, .d v, t7, t8]) := by
  obtain ⟨R, hd, ht, g⟩ := vk_res h
  have rp : oRepr R = .ret (.str R.shown) := if_pos (g.ti.rep (by decide) (by decide))
  have ne := ne_two' g.low.ok
  have r2 : oRng1 [.d (.int 2)] = .ret [.int 0, .int 1] := rfl
  refine ⟨.d (.str R.shown), s8, ?_⟩
  have lc : ∀ s7, (eLc [8] (iArg oRng1 (aCons (eC (.int 2)) aNil)) (bName 8) tTrue (eCb (o1 oRepr) (aCons (eCall 1 m_law_told (aCons (eV 6) aNil)) aNil))) [.no, .box true, s2, s3, s4, s5, .d v, s7, s8] = .ret (.list [.str R.shown, .str R.shown]) := fun s7 =>
    eLc_ret (ds := [.int 0, .int 1]) (by simp [r2]) (by decide) (lc_map (f := fun _ => PyData.str R.shown) [.int 0, .int 1] fun d hd => ⟨_, rfl, rfl, by simp [ht, rp, wipeE]⟩)
  unfold B1_law
  generalize (eLc [8] (iArg oRng1 (aCons (eC (.int 2)) aNil)) (bName 8) tTrue (eCb (o1 oRepr) (aCons (eCall 1 m_law_told (aCons (eV 6) aNil)) aNil))) = E at *
  generalize hL : PyData.list [.str R.shown, .str R.shown] = L at *
  simp [hd, rp, lc, hL, ne]
end Wk12
set_option Elab.async false
set_option linter.all false
set_option maxRecDepth 100000
set_option maxHeartbeats 4000000
namespace Wk12
open PySem PySem.Spec PyProof.Rows L2 Wb TL
theorem b0_wp {X : D} (hX : Tx 400 X) {vs : List D} (hv : ∀ v ∈ vs, Vk v) (hl : vs.length ≤ 1000) (s2 s5 s6 s7 s8 : Sl) : (B0_law [.no, .box true, s2, .d X, .d (.list vs), s5, s6, s7, s8]).wp (fun fl => ∃ us t6, fl = .nx [.no, .box true, s2, .d X, .d (.list us), s5, t6, s7, s8] ∧ (∀ v ∈ us, Vk v) ∧ us.length = vs.length + 2) noE := by
  have a := changed_wp (L := 400) (by decide) hX
  simp [B0_law]
  refine T.le a ?_
  intro v1 h1
  have b := changed_wp (L := 3308) (by decide) h1
  try simp
  refine T.le b ?_
  intro v2 h2
  have ad := add_l (xs := vs) (ys := [v1, v2]) (by simp; omega)
  rw [if_pos (by omega)]
  refine ⟨vs ++ [v1, v2], rfl, fun v hv' => ?_, by simp⟩
  rcases List.mem_append.mp hv' with z | z
  · exact hv v z
  · simp only [List.mem_cons, List.not_mem_nil, or_false] at z
    rcases z with rfl | rfl
    · exact .inr (h1.mono (by decide))
    · exact .inr (h2.mono (by decide))
theorem b0_go {X : D} (hX : Tx 400 X) (s2 s7 s8 : Sl) : ∀ (ds : List D) (vs : List D) (s5 s6 : Sl), (∀ v ∈ vs, Vk v) → vs.length + 2 * ds.length ≤ 1000 → (forGo (bName 5) B0_law ds [.no, .box true, s2, .d X, .d (.list vs), s5, s6, s7, s8]).wp (fun fl => ∃ us t5 t6, fl = .nx [.no, .box true, s2, .d X, .d (.list us), t5, t6, s7, s8] ∧ (∀ v ∈ us, Vk v) ∧ us.length = vs.length + 2 * ds.length) noE
  | [], vs, s5, s6, hv, hl => ⟨vs, s5, s6, rfl, hv, rfl⟩
  | d :: ds, vs, s5, s6, hv, hl => by
    rw [List.length_cons] at hl
    unfold forGo
    refine T.thn (T.wp_mono (fun fl z => ?_) (fun _ z => z) _ (b0_wp hX hv (by omega) s2 (.d d) s6 s7 s8))
    obtain ⟨us, t6, rfl, hu, lu⟩ := z
    have ih := b0_go hX s2 s7 s8 ds us (.d d) t6 hu (by omega)
    refine T.wp_mono (fun fl z => ?_) (fun _ z => z) _ ih
    obtain ⟨ws, t5, t6', rfl, hw, lw⟩ := z
    exact ⟨ws, t5, t6', rfl, hw, by rw [List.length_cons]; omega⟩
theorem b1_go (s2 s3 s4 s5 : Sl) : ∀ (vs : List D) (s6 s7 s8 : Sl), (∀ v ∈ vs, Vk v) → ∃ t6 t7 t8, forGo (bName 6) B1_law vs [.no, .box true, s2, s3, s4, s5, s6, s7, s8] = .ret (.nx [.no, .box true, s2, s3, s4, s5, t6, t7, t8])
  | [], s6, s7, s8, _ => ⟨s6, s7, s8, rfl⟩
  | v :: vs, s6, s7, s8, h => by
    obtain ⟨t7, t8, e⟩ := value_eq (h v (List.mem_cons_self ..)) s2 s3 s4 s5 s7 s8
    obtain ⟨u6, u7, u8, g⟩ := b1_go s2 s3 s4 s5 vs (.d v) t7 t8 fun x hx => h x (List.mem_cons_of_mem _ hx)
    refine ⟨u6, u7, u8, ?_⟩
    unfold forGo
    show T.bind (B1_law [.no, .box true, s2, s3, s4, s5, .d v, s7, s8]) _ = _
    rw [e]
    exact g
def some1 (X v : D) : List D := [X, .none, .list [X], .str "", .str "2", .str "3 /", .str "2 / neg", .str "2 / neg 0@1,0 /", .str "4 / neg 0@1,0", v]
def some2 : List D := [.str "2 / neg 0@1_0,0", .str "2 / neg 1@0,0", .str "2 / neg 0@5,0", .str "2 / neg 0@01,0", .str "2 / neg 0@1,0,0"]
theorem l2_eq (ρ : Env') : l2E ρ = .ret (.list some2) := rfl
theorem const_ok : ([PyData.str "", .str "2", .str "3 /", .str "2 / neg", .str "2 / neg 0@1,0 /", .str "4 / neg 0@1,0"] ++ some2).all vkB = true := by decide +kernel
theorem const_vk : ∀ v ∈ [PyData.str "", .str "2", .str "3 /", .str "2 / neg", .str "2 / neg 0@1,0 /", .str "4 / neg 0@1,0"] ++ some2, Vk v := fun v hv => vk_by (List.all_eq_true.mp const_ok v hv)
theorem some1_vk {X v : D} (hX : Vk X) (hv : Vk v) : ∀ x ∈ some1 X v, Vk x := fun x hx => by
  have c := const_vk
  unfold some1 at hx
  simp only [List.mem_cons, List.not_mem_nil, or_false] at hx
  rcases hx with rfl | rfl | rfl | rfl | rfl | rfl | rfl | rfl | rfl | rfl
  · exact hX
  · exact .inl rfl
  · exact .inl rfl
  · exact c _ (by simp)
  · exact c _ (by simp)
  · exact c _ (by simp)
  · exact c _ (by simp)
  · exact c _ (by simp)
  · exact c _ (by simp)
  · exact hv
theorem l1_wp (X : D) (s2 s4 s5 s6 s7 s8 : Sl) : (l1E [.no, .box true, s2, .d X, s4, s5, s6, s7, s8]).wp (fun d => ∃ v, Vk v ∧ d = .list (some1 X v)) noE := by
  simp
  refine T.le odd_wp ?_
  intro v hv
  exact ⟨v, hv, rfl⟩
theorem b2_is : B2_law = (sSeq (sSet 3 (eCall 1 m_law_flow_text (aCons (eCall 1 m_law_flow (aBox 1 aNil)) aNil))) (sSeq (sSet 4 l1E) (sSeq (sFor (iArg oRng1 (aCons (eC (.int 12)) aNil)) (bName 5) B0_law) (sSeq (sSet 4 (eBin oAdd (eV 4) l2E)) (sFor (iSeq (eV 4)) (bName 6) B1_law))))) := rfl
theorem turn_of (L1 L2' : Env' → T D) (B0 B1 : Env' → T Fl) (S2 : List D) (hl1 : ∀ X s2 s4 s5 s6 s7 s8, (L1 [.no, .box true, s2, .d X, s4, s5, s6, s7, s8]).wp (fun d => ∃ v, Vk v ∧ d = .list (some1 X v)) noE) (hl2 : ∀ ρ, L2' ρ = .ret (.list S2)) (l5 : S2.length ≤ 5) (v5 : ∀ v ∈ S2, Vk v)
    (h0 : ∀ X, Tx 400 X → ∀ s2 s7 s8 (ds vs : List D) (s5 s6 : Sl), (∀ v ∈ vs, Vk v) → vs.length + 2 * ds.length ≤ 1000 → (forGo (bName 5) B0 ds [.no, .box true, s2, .d X, .d (.list vs), s5, s6, s7, s8]).wp (fun fl => ∃ us t5 t6, fl = .nx [.no, .box true, s2, .d X, .d (.list us), t5, t6, s7, s8] ∧ (∀ v ∈ us, Vk v) ∧ us.length = vs.length + 2 * ds.length) noE)
    (h1 : ∀ s2 s3 s4 s5 (vs : List D) (s6 s7 s8 : Sl), (∀ v ∈ vs, Vk v) → ∃ t6 t7 t8, forGo (bName 6) B1 vs [.no, .box true, s2, s3, s4, s5, s6, s7, s8] = .ret (.nx [.no, .box true, s2, s3, s4, s5, t6, t7, t8]))
    (s2 s3 s4 s5 s6 s7 s8 : Sl) : ((sSeq (sSet 3 (eCall 1 m_law_flow_text (aCons (eCall 1 m_law_flow (aBox 1 aNil)) aNil))) (sSeq (sSet 4 L1) (sSeq (sFor (iArg oRng1 (aCons (eC (.int 12)) aNil)) (bName 5) B0) (sSeq (sSet 4 (eBin oAdd (eV 4) L2')) (sFor (iSeq (eV 4)) (bName 6) B1))))) [.no, .box true, s2, s3, s4, s5, s6, s7, s8]).wp (fun fl => ∃ t3 t4 t5 t6 t7 t8, fl = .nx [.no, .box true, s2, t3, t4, t5, t6, t7, t8]) noE := by
  have f := flow_wp
  have r12 : oRng1 [.d (.int 12)] = .ret (rangeD 0 12) := rfl
  simp
  refine T.le f ?_
  rintro _ ⟨n, rs, rfl, h⟩
  have ft := law_flow_text_eq (flok_of h)
  have tx := flow_a h
  generalize flowD n rs = F at *
  generalize PyData.str (flowT n rs) = X at *
  simp [ft]
  refine T.le (hl1 X s2 s4 s5 s6 s7 s8) ?_
  rintro _ ⟨v, hv, rfl⟩
  simp [r12]
  have i := h0 X tx s2 s7 s8 (rangeD 0 12) (some1 X v) s5 s6 (some1_vk (.inr (tx.mono (by decide))) hv) (by rw [rangeD_len]; show 10 + 2 * 12 ≤ 1000; decide)
  refine T.le i ?_
  rintro _ ⟨us, t5, t6, rfl, hu, lu⟩
  rw [rangeD_len] at lu
  have lu : us.length = 10 + 2 * 12 := lu
  have ad := add_l (xs := us) (ys := S2) (by omega)
  obtain ⟨u6, u7, u8, g⟩ := h1 s2 (.d X) (.d (.list (us ++ S2))) t5 (us ++ S2) t6 s7 s8 (fun x hx => by
    rcases List.mem_append.mp hx with z | z
    · exact hu x z
    · exact v5 x z)
  have c : us.length + S2.length ≤ 1000000 := by omega
  simp [hl2, c, g]
theorem turn_wp (s2 s3 s4 s5 s6 s7 s8 : Sl) : (B2_law [.no, .box true, s2, s3, s4, s5, s6, s7, s8]).wp (fun fl => ∃ t3 t4 t5 t6 t7 t8, fl = .nx [.no, .box true, s2, t3, t4, t5, t6, t7, t8]) noE := by
  rw [b2_is]
  exact turn_of l1E l2E B0_law B1_law some2 l1_wp l2_eq (by decide) (fun v hv => const_vk v (List.mem_append_right _ hv)) (fun X hX s2 s7 s8 => b0_go hX s2 s7 s8) b1_go s2 s3 s4 s5 s6 s7 s8
theorem law_of (B : Env' → T Fl) (tw : ∀ s2 s3 s4 s5 s6 s7 s8, (B [.no, .box true, s2, s3, s4, s5, s6, s7, s8]).wp (fun fl => ∃ t3 t4 t5 t6 t7 t8, fl = .nx [.no, .box true, s2, t3, t4, t5, t6, t7, t8]) noE) :
    ((sSeq (sFor (iArg oRng1 (aCons (eC (.int 8)) aNil)) (bName 2) B) (sRet (eC (.bool true)))) ([Sl.no, .box true] ++ List.replicate 7 .no)).run.wp (fun d => d = .bool true) (fun _ => False) := by
  have r8 : oRng1 [.d (.int 8)] = .ret (rangeD 0 8) := rfl
  simp [r8]
  refine h_go (fun ρ => ∃ s2 s3 s4 s5 s6 s7 s8, ρ = [.no, .box true, s2, s3, s4, s5, s6, s7, s8]) _ _ ⟨_, _, _, _, _, _, _, rfl⟩ ?_ ?_
  · rintro d hd ρ ⟨s2, s3, s4, s5, s6, s7, s8, rfl⟩
    refine ⟨_, rfl, ?_⟩
    refine T.wp_mono ?_ (fun _ z => z) _ (tw (.d d) s3 s4 s5 s6 s7 s8)
    rintro _ ⟨t3, t4, t5, t6, t7, t8, rfl⟩
    exact ⟨_, _, _, _, _, _, _, rfl⟩
  · rintro ρ ⟨s2, s3, s4, s5, s6, s7, s8, rfl⟩
    simp
theorem law_true : (F_law ([Sl.no, .box true] ++ List.replicate 7 .no)).run.wp (fun d => d = .bool true) (fun _ => False) := law_of B2_law turn_wp
end Wk12
set_option Elab.async false
set_option linter.all false
set_option maxRecDepth 100000
open PySem PySem.W PyProof.Rows
set_option maxHeartbeats 0 in
theorem PySem.Challenge.cw_wirebeats_k12_other_texts_refused_holds : PySem.Challenge.rw_wirebeats_k12_other_texts_refused.Holds := by
  w_on; o_law; k_head; (case hw => w_witness2)
  k_fill
  refine Wb.walkG (l := PySem.Challenge.rw_wirebeats_k12_other_texts_refused) (n := 63) (k := 9) (x := "_law_script") (sp := fun w => Wk12.spL _) rfl (by decide) rfl ⟨rfl, by decide, by decide⟩ (fun w h Y => PySem.W.kIn_of Y) ?F (fun w H a ns hl _ hS => ⟨a, ns, rfl, hS, hl, fun _ => rfl⟩)
  case F =>
    intro w mg fa h KX G hmg
    refine' Wk12.all_mk KX G hmg ?a_is_within ?l_is_within ?c_is_within ?k_is_within ?a_is_tuple_of ?l_is_tuple_of ?c_is_tuple_of ?k_is_tuple_of ?a_is_bounded ?l_is_bounded ?c_is_bounded ?k_is_bounded ?a_has_form ?l_has_form ?c_has_form ?k_has_form ?a_are_rules ?l_are_rules ?c_are_rules ?k_are_rules ?a_read_error ?l_read_error ?c_read_error ?k_read_error ?a_rule_error ?l_rule_error ?c_rule_error ?k_rule_error ?a_flow_error ?l_flow_error ?c_flow_error ?k_flow_error ?a_parse_integer ?l_parse_integer ?c_parse_integer ?k_parse_integer ?a_parse_vector ?l_parse_vector ?c_parse_vector ?k_parse_vector ?a_parse_read ?l_parse_read ?c_parse_read ?k_parse_read ?a_parse_rule ?l_parse_rule ?c_parse_rule ?k_parse_rule ?a_parse_flow ?l_parse_flow ?c_parse_flow ?k_parse_flow ?a_law_opened ?l_law_opened ?c_law_opened ?k_law_opened ?a_law_draw ?l_law_draw ?c_law_draw ?k_law_draw ?a_law_one ?l_law_one ?c_law_one ?k_law_one ?a_law_odd ?l_law_odd ?c_law_odd ?k_law_odd ?a_law_kinds ?l_law_kinds ?c_law_kinds ?k_law_kinds ?a_law_vector ?l_law_vector ?c_law_vector ?k_law_vector ?a_law_rule ?l_law_rule ?c_law_rule ?k_law_rule ?a_law_flow ?l_law_flow ?c_law_flow ?k_law_flow ?a_law_vector_text ?l_law_vector_text ?c_law_vector_text ?k_law_vector_text ?a_law_rule_text ?l_law_rule_text ?c_law_rule_text ?k_law_rule_text ?a_law_flow_text ?l_law_flow_text ?c_law_flow_text ?k_law_flow_text ?a_law_number ?l_law_number ?c_law_number ?k_law_number ?a_law_read_of ?l_law_read_of ?c_law_read_of ?k_law_read_of ?a_law_due ?l_law_due ?c_law_due ?k_law_due ?a_law_told ?l_law_told ?c_law_told ?k_law_told ?a_law_changed ?l_law_changed ?c_law_changed ?k_law_changed ?a_law ?l_law ?c_law ?k_law ?z_abs ?z_all ?z_bool ?z_enumerate ?z_int ?z_isinstance ?z_len ?z_range ?z_repr ?z_str ?z_tuple ?v_DIGITS ?v_MAX_DIGITS ?v_MAX_DIST ?v_MAX_PLANES ?v_KINDS ?lk_KINDS ?kl_KINDS ?en_KINDS ?lo_KINDS ?a_BadBeats ?ex_BadBeats ?ty_BadBeats ?ic_BadBeats ?a_BadFlow ?ex_BadFlow ?ty_BadFlow ?ic_BadFlow ?a_BadOutside ?ex_BadOutside ?ty_BadOutside ?ic_BadOutside ?a_BadText ?ex_BadText ?ty_BadText ?ic_BadText ?a_TooLarge ?ex_TooLarge ?ty_TooLarge ?ic_TooLarge ?a_WireError ?ex_WireError ?ty_WireError ?ic_WireError ?x_BadFlow ?r_BadFlow ?sa_BadFlow ?ga_BadFlow ?gg_BadFlow ?no_BadFlow ?kc_BadFlow ?hd_BadFlow ?ii_BadFlow ?ti_BadFlow ?li_BadFlow ?ci_BadFlow ?ki_BadFlow ?x_BadText ?r_BadText ?sa_BadText ?ga_BadText ?gg_BadText ?no_BadText ?kc_BadText ?hd_BadText ?ii_BadText ?ti_BadText ?li_BadText ?ci_BadText ?ki_BadText ?s_BadFlow_WireError ?s_BadText_WireError ?on_class ?ot_class ?oa_BadFlow ?om_BadFlow ?q_BadFlow_BadBeats ?q_BadFlow_BadFlow ?q_BadFlow_BadOutside ?q_BadFlow_BadText ?q_BadFlow_TooLarge ?oa_BadText ?om_BadText ?q_BadText_BadBeats ?q_BadText_BadFlow ?q_BadText_BadOutside ?q_BadText_BadText ?q_BadText_TooLarge Wk12.law_true
    (case a_is_within => k_is)
    (case l_is_within => k_is)
    (case c_is_within => k_is)
    (case k_is_within => k_is)
    (case a_is_tuple_of => k_is)
    (case l_is_tuple_of => k_is)
    (case c_is_tuple_of => k_is)
    (case k_is_tuple_of => k_is)
    (case a_is_bounded => k_is)
    (case l_is_bounded => k_is)
    (case c_is_bounded => k_is)
    (case k_is_bounded => k_is)
    (case a_has_form => k_is)
    (case l_has_form => k_is)
    (case c_has_form => k_is)
    (case k_has_form => k_is)
    (case a_are_rules => k_is)
    (case l_are_rules => k_is)
    (case c_are_rules => k_is)
    (case k_are_rules => k_is)
    (case a_read_error => k_is)
    (case l_read_error => k_is)
    (case c_read_error => k_is)
    (case k_read_error => k_is)
    (case a_rule_error => k_is)
    (case l_rule_error => k_is)
    (case c_rule_error => k_is)
    (case k_rule_error => k_is)
    (case a_flow_error => k_is)
    (case l_flow_error => k_is)
    (case c_flow_error => k_is)
    (case k_flow_error => k_is)
    (case a_parse_integer => k_is)
    (case l_parse_integer => k_is)
    (case c_parse_integer => k_is)
    (case k_parse_integer => k_is)
    (case a_parse_vector => k_is)
    (case l_parse_vector => k_is)
    (case c_parse_vector => k_is)
    (case k_parse_vector => k_is)
    (case a_parse_read => k_is)
    (case l_parse_read => k_is)
    (case c_parse_read => k_is)
    (case k_parse_read => k_is)
    (case a_parse_rule => k_is)
    (case l_parse_rule => k_is)
    (case c_parse_rule => k_is)
    (case k_parse_rule => k_is)
    (case a_parse_flow => k_is)
    (case l_parse_flow => k_is)
    (case c_parse_flow => k_is)
    (case k_parse_flow => k_is)
    (case a_law_opened => k_is)
    (case l_law_opened => k_is)
    (case c_law_opened => k_is)
    (case k_law_opened => k_is)
    (case a_law_draw => k_is)
    (case l_law_draw => k_is)
    (case c_law_draw => k_is)
    (case k_law_draw => k_is)
    (case a_law_one => k_is)
    (case l_law_one => k_is)
    (case c_law_one => k_is)
    (case k_law_one => k_is)
    (case a_law_odd => k_is)
    (case l_law_odd => k_is)
    (case c_law_odd => k_is)
    (case k_law_odd => k_is)
    (case a_law_kinds => k_is)
    (case l_law_kinds => k_is)
    (case c_law_kinds => k_is)
    (case k_law_kinds => k_is)
    (case a_law_vector => k_is)
    (case l_law_vector => k_is)
    (case c_law_vector => k_is)
    (case k_law_vector => k_is)
    (case a_law_rule => k_is)
    (case l_law_rule => k_is)
    (case c_law_rule => k_is)
    (case k_law_rule => k_is)
    (case a_law_flow => k_is)
    (case l_law_flow => k_is)
    (case c_law_flow => k_is)
    (case k_law_flow => k_is)
    (case a_law_vector_text => k_is)
    (case l_law_vector_text => k_is)
    (case c_law_vector_text => k_is)
    (case k_law_vector_text => k_is)
    (case a_law_rule_text => k_is)
    (case l_law_rule_text => k_is)
    (case c_law_rule_text => k_is)
    (case k_law_rule_text => k_is)
    (case a_law_flow_text => k_is)
    (case l_law_flow_text => k_is)
    (case c_law_flow_text => k_is)
    (case k_law_flow_text => k_is)
    (case a_law_number => k_is)
    (case l_law_number => k_is)
    (case c_law_number => k_is)
    (case k_law_number => k_is)
    (case a_law_read_of => k_is)
    (case l_law_read_of => k_is)
    (case c_law_read_of => k_is)
    (case k_law_read_of => k_is)
    (case a_law_due => k_is)
    (case l_law_due => k_is)
    (case c_law_due => k_is)
    (case k_law_due => k_is)
    (case a_law_told => k_is)
    (case l_law_told => k_is)
    (case c_law_told => k_is)
    (case k_law_told => k_is)
    (case a_law_changed => k_is)
    (case l_law_changed => k_is)
    (case c_law_changed => k_is)
    (case k_law_changed => k_is)
    (case a_law => k_is)
    (case l_law => k_is)
    (case c_law => k_is)
    (case k_law => k_is)
    (case z_abs => k_is)
    (case z_all => k_is)
    (case z_bool => k_is)
    (case z_enumerate => k_is)
    (case z_int => k_is)
    (case z_isinstance => k_is)
    (case z_len => k_is)
    (case z_range => k_is)
    (case z_repr => k_is)
    (case z_str => k_is)
    (case z_tuple => k_is)
    (case v_DIGITS => k_is)
    (case v_MAX_DIGITS => k_is)
    (case v_MAX_DIST => k_is)
    (case v_MAX_PLANES => k_is)
    (case v_KINDS => k_is)
    (case lk_KINDS => k_is)
    (case kl_KINDS => k_keys)
    (case en_KINDS => exact ⟨⟨_, rfl⟩, ⟨_, rfl⟩, ⟨⟨_, rfl⟩, ⟨_, rfl⟩, ⟨⟨_, rfl⟩, ⟨_, rfl⟩, ⟨⟨_, rfl⟩, ⟨_, rfl⟩, ⟨⟨_, rfl⟩, ⟨_, rfl⟩, ⟨⟨_, rfl⟩, ⟨_, rfl⟩, ⟨⟨_, rfl⟩, ⟨_, rfl⟩, ⟨⟨_, rfl⟩, ⟨_, rfl⟩, trivial⟩⟩⟩⟩⟩⟩⟩⟩)
    (case lo_KINDS => decide)
    (case a_BadBeats => k_is)
    (case ex_BadBeats => k_is)
    (case ty_BadBeats => k_is)
    (case ic_BadBeats => k_is)
    (case a_BadFlow => k_is)
    (case ex_BadFlow => k_is)
    (case ty_BadFlow => k_is)
    (case ic_BadFlow => k_is)
    (case a_BadOutside => k_is)
    (case ex_BadOutside => k_is)
    (case ty_BadOutside => k_is)
    (case ic_BadOutside => k_is)
    (case a_BadText => k_is)
    (case ex_BadText => k_is)
    (case ty_BadText => k_is)
    (case ic_BadText => k_is)
    (case a_TooLarge => k_is)
    (case ex_TooLarge => k_is)
    (case ty_TooLarge => k_is)
    (case ic_TooLarge => k_is)
    (case a_WireError => k_is)
    (case ex_WireError => k_is)
    (case ty_WireError => k_is)
    (case ic_WireError => k_is)
    (case x_BadFlow => k_is)
    (case r_BadFlow => decide +kernel)
    (case sa_BadFlow => k_is)
    (case ga_BadFlow => k_is)
    (case gg_BadFlow => k_is)
    (case no_BadFlow => k_is)
    (case kc_BadFlow => k_is)
    (case hd_BadFlow => k_is)
    (case ii_BadFlow => k_is)
    (case ti_BadFlow => k_is)
    (case li_BadFlow => k_is)
    (case ci_BadFlow => k_is)
    (case ki_BadFlow => k_is)
    (case x_BadText => k_is)
    (case r_BadText => decide +kernel)
    (case sa_BadText => k_is)
    (case ga_BadText => k_is)
    (case gg_BadText => k_is)
    (case no_BadText => k_is)
    (case kc_BadText => k_is)
    (case hd_BadText => k_is)
    (case ii_BadText => k_is)
    (case ti_BadText => k_is)
    (case li_BadText => k_is)
    (case ci_BadText => k_is)
    (case ki_BadText => k_is)
    (case s_BadFlow_WireError => (first | rfl | k_is))
    (case s_BadText_WireError => (first | rfl | k_is))
    (case on_class => (first | rfl | k_is))
    (case ot_class => (first | rfl | k_is))
    (case oa_BadFlow => k_is)
    (case om_BadFlow => (first | rfl | k_is))
    (case q_BadFlow_BadBeats => (first | rfl | k_is))
    (case q_BadFlow_BadFlow => (first | rfl | k_is))
    (case q_BadFlow_BadOutside => (first | rfl | k_is))
    (case q_BadFlow_BadText => (first | rfl | k_is))
    (case q_BadFlow_TooLarge => (first | rfl | k_is))
    (case oa_BadText => k_is)
    (case om_BadText => (first | rfl | k_is))
    (case q_BadText_BadBeats => (first | rfl | k_is))
    (case q_BadText_BadFlow => (first | rfl | k_is))
    (case q_BadText_BadOutside => (first | rfl | k_is))
    (case q_BadText_BadText => (first | rfl | k_is))
    (case q_BadText_TooLarge => (first | rfl | k_is))
