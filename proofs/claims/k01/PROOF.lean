import PyProof.Rows.All
import Wide.All
import OpenK.AllK
import Wide.FinOn
import HandS.ForMost
import HandS.Exc
import HandS.ExcOwn
import HandS.ExcInit
import HandS.ExcIs
import HandS.ExcField
import HandS.IsInst
import HandS.WordsExc
import KE.KExcIs
import KE.KExcInit
import HandS.Wide
import HandS.Walk
import KE.GoesZip
import KE.GoesMore
import KE.GoesEnum
import KE.KMathG
import HandS.Zip
import HandS.Iter
import HandS.Gcd
import HandS.Text
import HandS.SetFor
import PySem.Challenge.RW_termseats_k01_houses_and_bands_judged
import HandS.Lambda
import KE.KDflt
import HandS.EndTab
import KE.KNestM
import PyProof.ReprLen
import HandS.TupAny
import HandS.TupMul
import HandS.Style
import PyProof.ListStr
import HandS.Conv
set_option Elab.async false
set_option linter.all false
set_option maxRecDepth 100000
set_option maxHeartbeats 4000000
/-! Own layer, part 1: defs that may ask repr of data. Such a def must know that no repr is under way around it (guards), which the library's FnOk does not say; so FnG says it beside. -/
namespace TSx
open PySem L2 PySem.Spec PyProof.Rows

/-- a def's promise where no repr is under way -/
structure FnG (P : Program) (w : World) (K : PySem.W.Frag) (mg : Str → Option Value) (base : Heap) (CX : CXT) (k : Nat) (f : Addr) (fd : FuncData) (ps : List Str) (sp : Sp) : Prop where
  sized : ∀ vs H Q E, sp vs H Q E → vs.length = ps.length
  go : ∀ (A : Around) (outer : List Env) (s : Shared) (H : Hp) (args : Args) (us : List Value) (vs : List V) (Q : VK) (E : XK),
    A.guards = some [] → Room k A → Env0 P w K mg base A outer s H → BindsTo s fd args (ps.zip us) → Vals vs us → sp vs H Q E →
    codeAny (model P w) A (.call (.ref f) args) (CR CX outer P w H s Q E) s

section
variable {P : Program} {w : World} {K : PySem.W.Frag} {mg : Str → Option Value} {base : Heap} {CX : CXT} {k : Nat} {f : Addr} {fd : FuncData} {ps : List Str} {sp : Sp}
theorem FnG.of (F : FnOk P w K mg base CX k f fd ps sp) : FnG P w K mg base CX k f fd ps sp :=
  ⟨F.len, fun A o s H a us vs Q E _ r e b v h => F.run A o s H a us vs Q E r e b v h⟩
theorem FnG.up {j : Nat} (F : FnG P w K mg base CX j f fd ps sp) (h : j ≤ k) : FnG P w K mg base CX k f fd ps sp :=
  ⟨F.sized, fun A o s H a us vs Q E g r e b v x => F.go A o s H a us vs Q E g (r.mono h) e b v x⟩
end

theorem guards_deeper {A : Around} (g : A.guards = some []) (env : Env) : (A.deeper env).guards = some [] := by
  unfold Around.deeper
  first
    | exact g
    | simp [Around.under, g]

/-- a def by its body, the guards known -/
theorem fnG_of {CX : CXT} {P : Program} {w : World} {K : PySem.W.Frag} {mg : Str → Option Value} {base : Heap} {k : Nat} {f : Addr} {x qual : Str} {st : Stmt} {fd : FuncData} {N ps : List Str} {sp : Sp}
    (F : L2.Fun K x qual st f fd) (S : FnScope N ps (defScope st)) (sz : ∀ vs H Q E, sp vs H Q E → vs.length = ps.length)
    (B : ∀ (cdv : Value) (A : Around) (outer : List Env) (s : Shared) (H : Hp) (vs : List V) (Q : VK) (E : XK), A.guards = some [] → Room k (A.deeper (envOfC qual (defScope st) s.heap.objs.size f cdv)) → sp vs H Q E →
      ∃ t, PSs (cxOf CX P w K mg base N qual (defScope st) f cdv A outer s H E) (defBody st) t ∧ t { nx := fun _ H' => Q .non H', rt := Q } (start N vs) H) :
    FnG P w K mg base CX (k + 1) f fd ps sp := by
  obtain ⟨oc, od, kV, doc, pm, an, cdv, ct, osl, rfl, lk, hcd⟩ := F.ex
  refine ⟨sz, fun A outer s H args us vs Q E g hr e0 hb r hsp => ?_⟩
  -- the same def, its promise cut down to this very call: then the library's rule serves
  obtain ⟨t, ht, hq⟩ := B cdv A outer s H vs Q E g (hr.deeper _) hsp
  have KX : K.In s.heap := e0.mod.kin.keeps fun b o e => (e0.bs b o e).1
  refine codeAny_call_function hr.depth (KX _ _ lk) rfl S.co S.gen rfl (PySem.W.codeRec_of KX hcd) (hb _ _ _ _ ?_)
  have kinds : ∀ y ∈ ps.zip us, (defScope st).names.lookup y.1 = some .local ∨ ((defScope st).names.lookup y.1 = some .cell ∧ ((cellsFrom (s.heap.objs.size + 1) (defScope st).names []).lookup y.1).isSome = true) := by
    intro y hy
    obtain ⟨n, v⟩ := y
    cases S.par n (List.of_mem_zip hy).1 with
    | inl q => exact Or.inl q
    | inr q => exact Or.inr ⟨q, PySem.W.cellsFrom_some _ _ _ (Or.inl q)⟩
  refine wpAny_newFunctionEnv_cells S.kind kinds fun env he s1 ic => ?_
  subst he
  have nolim : s.heap.NoLimit := e0.mod.nolimit.keeps fun b o e => (e0.bs b o e).1
  refine ⟨nolim.keeps ic.toInCall.keep, codeAny_func ?_⟩
  have J := inv_start (CX := CX) (E := E) S hr.hd e0 (sz _ _ _ _ hsp) r ic
  refine wpAny_mono (ht.run [] s1 (start N vs) H _ J hq) (fun fl s' z => ?_) fun _ _ z => z
  match fl, z with
  | .ret u, z =>
    obtain ⟨v, σ', H', I, rv, q⟩ := z
    exact ⟨v, H', I.os, I.bare, I.base, I.hok, rv, q⟩
  | .next, z =>
    obtain ⟨σ', H', I, q⟩ := z
    exact ⟨V.non, H', I.os, I.bare, I.base, I.hok, rfl, q⟩
  | .brk, z =>
    obtain ⟨_, _, _, q⟩ := z
    exact q.elim
  | .cont, z =>
    obtain ⟨_, _, _, q⟩ := z
    exact q.elim

/-- .. no exception leaves it -/
theorem fnG_of0 {P : Program} {w : World} {K : PySem.W.Frag} {mg : Str → Option Value} {base : Heap} {k : Nat} {f : Addr} {x qual : Str} {st : Stmt} {fd : FuncData} {N ps : List Str} {sp : Sp}
    (F : L2.Fun K x qual st f fd) (S : FnScope N ps (defScope st)) (sz : ∀ vs H Q E, sp vs H Q E → vs.length = ps.length)
    (B : ∀ (cdv : Value) (A : Around) (outer : List Env) (s : Shared) (H : Hp) (vs : List V) (Q : VK) (E : XK), A.guards = some [] → Room k (A.deeper (envOfC qual (defScope st) s.heap.objs.size f cdv)) → sp vs H Q E →
      ∃ t, PSs (cxOf CX0 P w K mg base N qual (defScope st) f cdv A outer s H E).nox (defBody st) t ∧ t { nx := fun _ H' => Q .non H', rt := Q } (start N vs) H) :
    FnG P w K mg base CX0 (k + 1) f fd ps sp := fnG_of F S sz fun cdv A outer s H vs Q E g hr h => by
  obtain ⟨t, h1, h2⟩ := B cdv A outer s H vs Q E g hr h
  exact ⟨t, h1.nox, h2⟩

section
variable {X : Cx} {CX : CXT} {k : Nat} {f : Addr} {fd : FuncData} {ps : List Str} {sp : Sp} {E : XK} {x : Str} {p pos : Pos} {e : Expr} {es : List Expr} {t : TA}
theorem runG {pins : List (Addr × Obj)} {σ : L2.St} {H : Hp} {s : Shared} {Q : VK} {us : List Value} {vs : List V} {EE : XK} (F : FnG X.prog X.w X.K X.mg X.base CX k f fd ps sp) (g : X.A.guards = some []) (hr : Room k X.A) (hb : Binds X.K fd ps [])
    (hx : ∀ e s', CX X.stack H s EE e s' → X.xe e s') (I : Inv X pins σ H s) (r : Vals vs us) (h : sp vs H Q EE) : wpAny (model X.prog X.w) X.A (call (.ref f) us) (EP X pins σ Q) X.xe s := by
  have hl : us.length = ps.length := by rw [← r.length]; exact F.sized _ _ _ _ h
  have bb : BindsTo s fd ⟨us, []⟩ (ps.zip us) := by
    have q := hb s us I.kIn (by rw [List.append_nil]; exact hl)
    rw [List.append_nil] at q
    exact q
  refine wpAny_call (codeAny_mono (F.go X.A X.stack s H ⟨us, []⟩ us vs Q EE g hr I.env0 bb r h) fun o s' z => ?_)
  match o, z with
  | .error y, z => exact hx y s' z
  | .ok (.ret u), z => exact I.after z
  | .ok .next, z => exact False.elim z
  | .ok .brk, z => exact False.elim z
  | .ok .cont, z => exact False.elim z
/-- f(e, ..) -/
theorem pe_callG (F : FnG X.prog X.w X.K X.mg X.base CX k f fd ps sp) (g : X.A.guards = some []) (hr : Room k X.A) (hg : Gl X x) (hm : X.mg x = some (.ref f)) (hk : PySem.W.keepIn X.K (.ref f) = true) (hb : Binds X.K fd ps []) (hx : Passes CX X E)
    (ha : PA X (e :: es) t) (hdb : (x == ("__debug__" : Str)) = false := by decide) (he : starEach (e :: es) X.env = (false, eval e X.env) :: starEach es X.env := by rfl) (hpl : (backTo pos (starEach es X.env)).any (·.1) = false := by rfl) :
    PE X (.Call (.Name x p) (e :: es) [] pos) (tCall sp [] E t) := by
  constructor
  intro pins s σ H Q I h
  refine wpAny_Call_Name_kw (ld_glob I hg hm ?_ hdb)
  refine PySem.W.callWith_K (h₀ := X.base) I.ok.mod.kin hk (thn (ha.run pos pins s σ H _ I h) fun us s1 z => ?_) he hpl
  obtain ⟨vs, H1, I1, r, q⟩ := z
  have q' : sp vs H1 Q E := by
    have := q
    rw [List.append_nil] at this
    exact this
  exact ⟨I1.kIn, runG F g hr hb (fun y s' c => hx pins σ H1 s1 y s' I1 c) I1 r q'⟩
theorem pe_callG0 (F : FnG X.prog X.w X.K X.mg X.base CX k f fd ps sp) (g : X.A.guards = some []) (hr : Room k X.A) (hg : Gl X x) (hm : X.mg x = some (.ref f)) (hk : PySem.W.keepIn X.K (.ref f) = true) (hb : Binds X.K fd ps []) (hx : Passes CX X E)
    (hdb : (x == ("__debug__" : Str)) = false := by decide) : PE X (.Call (.Name x p) [] [] pos) (tCall sp [] E tNil) := by
  constructor
  intro pins s σ H Q I h
  refine wpAny_Call_Name_kw (ld_glob I hg hm ?_ hdb)
  exact PySem.W.callWith_K0 I.kIn hk (runG (us := []) F g hr hb (fun y s' c => hx pins σ H s y s' I c) I .nil h)
end

/-! ### the law's own end: the script alone is tracked (or it stands in the written part) -/
theorem law_endG {P : Program} {w : World} {K : PySem.W.Frag} {mg mb : Str → Option Value} {CX : CXT} {k : Nat} {fa a : Addr} {fd : FuncData} {x : Str} {sp : Sp} {s₁ : Shared} {vs : List Value} {ns : List Int}
    (KX : K.In s₁.heap) (hns : s₁.heap.Ns mainGlobals mg) (hb : s₁.heap.Ns builtinsNs mb) (hbb : ∀ x : Str, x ≠ "__name__" → mb x = bootBuiltins x) (hlim : s₁.heap.NoLimit) (hg : s₁.gens = #[])
    (ha : s₁.heap.get? a = some { cls := .type "list", data := .seq vs.toArray }) (hi : IntsAre vs ns) (hl : ns.length ≤ sizeLine) (hr : Room k callerA)
    (F : ∀ base : Heap, K.In base → base.Ns mainGlobals mg → FnG P w K mg base CX k fa fd [x] sp) (hbind : ∀ (s : Shared) (u : Value), BindsTo s fd ⟨[u], []⟩ [(x, u)])
    (hsp : ∀ H : Hp, Only H → SqL K H a (ns.map V.int) → sp [.ref a] H (fun v _ => v = .bl true) fun _ _ _ => False)
    (hCX : ∀ H e s', CX [] H s₁ (fun _ _ _ => False) e s' → False) :
    codeAny (model P w) callerA (.call (.ref fa) ⟨[.ref a], []⟩) (fun r s' => r = .ok (.ret (.bool true)) ∧ OldK s₁.heap s'.heap ∧ s'.os = s₁.os ∧ AllBare s'.gens) s₁ := by
  classical
  have rv := vals_ints hi
  have size_eq : vs.length = ns.length := hi.length
  -- what is tracked
  let H : Hp := fun b => if b = a ∧ K.lookup a = none then some (.frz { cls := .type "list", data := .seq vs.toArray } (.lst (ns.map V.int))) else none
  have only_a : ∀ b, H b ≠ none → b = a ∧ K.lookup a = none := fun b hb => by
    by_cases c : b = a ∧ K.lookup a = none
    · exact c
    · exact absurd (if_neg c) hb
  have only : Only H := fun b => by
    by_cases c : b = a ∧ K.lookup a = none
    · exact Or.inr ⟨_, _, if_pos c⟩
    · exact Or.inl (if_neg c)
  have script : SqL K H a (ns.map V.int) := by
    cases hk : K.lookup a with
    | none => exact Or.inl (Or.inr ⟨_, if_pos ⟨rfl, hk⟩⟩)
    | some o =>
      have e := KX a o hk
      rw [ha] at e
      cases e
      exact Or.inr ⟨_, vs.toArray, _, hk, rfl, rfl, rfl, by rw [List.size_toArray, size_eq]; exact hl, by simpa using rv⟩
  have ok : HOk P w H s₁.heap := fun b u z => by
    have c := only_a b (by rw [z]; simp)
    have z' : H b = some _ := if_pos c
    rw [z] at z'
    cases z'
    rw [c.1]
    exact ⟨ha, by rw [List.length_map]; exact hl, vs, _, rv, ha⟩
  have shown : ∀ {b : Addr} {o : Obj}, s₁.heap.get? b = some o → H b = none → (hidT s₁.heap H).get? b = some o := fun e n => hidT_get e n
  have dicts : ∀ {b : Addr} {m : Str → Option Value}, s₁.heap.Ns b m → (hidT s₁.heap H).Ns b m := fun {b m} z => by
    obtain ⟨o, es, ep, e, d, r⟩ := z
    refine ⟨o, es, ep, shown e ?_, d, r⟩
    cases q : H b with
    | none => rfl
    | some u =>
      have c := only_a b (by rw [q]; simp)
      rw [c.1, ha] at e
      cases e
      have d' : Data.seq vs.toArray _ = Data.dict es ep := d
      cases d'
  have Kb : K.In (hidT s₁.heap H) := fun b o e => shown (KX b o e) (by
    cases q : H b with
    | none => rfl
    | some u =>
      have c := only_a b (by rw [q]; simp)
      rw [c.1, c.2] at e
      cases e)
  have M : Mod K mg (hidT s₁.heap H) := by
    refine ⟨Kb, dicts hns, ⟨mb, dicts hb, hbb⟩, ?_⟩
    obtain ⟨mc, h1, h2⟩ := hlim
    exact ⟨mc, dicts h1, h2⟩
  have E0 : Env0 P w K mg (hidT s₁.heap H) callerA [] s₁ H := {
    frames := rfl
    mod := M
    bs := fun b o e => of_hidT e
    bsz := Nat.le_of_eq (hidT_size _ _)
    funs := trivial
    frf := fun b hb => by cases hb
    hok := ok
    bare := .of_eq hg }
  refine codeAny_mono ((F _ Kb (dicts hns)).go callerA [] s₁ H ⟨[.ref a], []⟩ [.ref a] [.ref a] _ _ rfl hr E0 (hbind s₁ (.ref a)) (.cons rfl .nil) (hsp H only script)) fun r s' h => ?_
  match r, h with
  | .error e, h => exact (hCX H e s' h).elim
  | .ok .next, h => exact False.elim h
  | .ok .brk, h => exact False.elim h
  | .ok .cont, h => exact False.elim h
  | .ok (.ret u), h =>
    obtain ⟨v, H', os, bare, un, ok', rel, q⟩ := h
    have q' : v = .bl true := q
    subst q'
    obtain rfl : u = Value.bool true := rel
    refine ⟨rfl, OldK.of_keep fun b o e => ?_, os, bare⟩
    cases q : H b with
    | none => exact un.keep b o e q (fun z => by cases z) (fun z => by cases z)
    | some u =>
      have c := only_a b (by rw [q]; simp)
      have z : H b = some (.frz _ _) := if_pos c
      obtain ⟨e1, _⟩ := ok b _ z
      obtain ⟨e2, _⟩ := ok' b _ (un.frzs b _ _ z)
      rw [e] at e1
      cases e1
      exact e2
theorem walkG {l : PySem.W.OpenLaw} {n k : Nat} {q : Program} {loose : List Str} {XP : (Str → Option Value) → Heap → Prop} {YP : World → Heap → Prop} {d : DefRec} {K : Params → PySem.W.Frag} {sp : PySem.W.Frag → Sp} {x : Str}
    (hn : l.most = some n) (hn2 : n ≤ sizeLine) (hdf : d.params.defaults = []) (hr : Room k callerA)
    (hY : ∀ (w : World) (h : Heap), YP w h → (K w.params).In h)
    (F : ∀ (w : World) (mg : Str → Option Value) (fa : Addr) (h : Heap), (K w.params).In h → h.Ns mainGlobals mg → mg d.name = some (.ref fa) →
      ∃ fd : FuncData, (∀ (s : Shared) (u : Value), BindsTo s fd ⟨[u], []⟩ [(x, u)]) ∧
        ∀ base : Heap, (K w.params).In base → base.Ns mainGlobals mg → FnG l.prog w (K w.params) mg base CX0 k fa fd [x] (sp (K w.params)))
    (hsp : ∀ (w : World) (H : Hp) (a : Addr) (ns : List Int), ns.length ≤ n → Only H → SqL (K w.params) H a (ns.map V.int) → sp (K w.params) [.ref a] H (fun v _ => v = .bl true) fun _ _ _ => False) :
    PySem.W.WalkO q loose XP YP l.row.toRowW d [] (fun f vs => PySem.call f vs) := by
  refine Att.attach_call hn hdf fun w s₀ s₁ mg mb fa o pm cd doc a vs ns G Y ho hd hcd hmg hobj hints hlen hg => ?_
  obtain ⟨fd, hb, hF⟩ := F w mg fa _ (hY w _ Y) G.T.g hmg
  exact law_endG (hY w _ Y) G.T.g G.T.b G.T.builtins G.T.nolimit hg hobj hints (Nat.le_trans hlen hn2) hr hF hb (fun H hO hS => hsp w H a ns hlen hO hS) fun _ _ _ z => z
end TSx

/-! Own layer, part 2: data of any depth (exceptions among them), what evaluates to which data, repr. -/
namespace TSx
open PySem L2 PySem.Spec PyProof.Rows
abbrev Sg := L2.St

/-- data: what stands below a value, all of it -/
inductive D where
  | non | bl (b : Bool) | int (i : Int) | str (x : Str)
  | lst (xs : List D) | tup (xs : List D) | dic (kvs : List (Key × D)) | exc (C : Addr) (fs : List (Str × D))

/-- at a: an exception of the class at C, its own dict at d -/
def exq (a C d : Addr) : HO := .ext fun h => ∃ oe vs, h.get? a = some oe ∧ Zc (.ref C) (some d) oe ∧ oe.data = .fields vs

mutual
inductive Dt (K : PySem.W.Frag) (H : Hp) : V → D → Prop
  | non : Dt K H .non .non
  | bl (b : Bool) : Dt K H (.bl b) (.bl b)
  | int (i : Int) : Dt K H (.int i) (.int i)
  | str (x : Str) : Dt K H (.str x) (.str x)
  | lst {a : Addr} {xs : List V} {ds : List D} : H a = some (.lst xs) → DtA K H xs ds → Dt K H (.ref a) (.lst ds)
  | tup {a : Addr} {xs : List V} {ds : List D} : SqT K H a xs → DtA K H xs ds → Dt K H (.ref a) (.tup ds)
  | dic {a : Addr} {xs : List (Key × V)} {ds : List (Key × D)} : H a = some (.dK xs) → DtK K H xs ds → Dt K H (.ref a) (.dic ds)
  | exc {a C d : Addr} {xs : List (Str × V)} {ds : List (Str × D)} : H a = some (exq a C d) → H d = some (.xd xs) → DtF K H xs ds → Dt K H (.ref a) (.exc C ds)
inductive DtA (K : PySem.W.Frag) (H : Hp) : List V → List D → Prop
  | nil : DtA K H [] []
  | cons {v : V} {vs : List V} {d : D} {ds : List D} : Dt K H v d → DtA K H vs ds → DtA K H (v :: vs) (d :: ds)
inductive DtK (K : PySem.W.Frag) (H : Hp) : List (Key × V) → List (Key × D) → Prop
  | nil : DtK K H [] []
  | cons {k : Key} {v : V} {vs : List (Key × V)} {d : D} {ds : List (Key × D)} : Dt K H v d → DtK K H vs ds → DtK K H ((k, v) :: vs) ((k, d) :: ds)
inductive DtF (K : PySem.W.Frag) (H : Hp) : List (Str × V) → List (Str × D) → Prop
  | nil : DtF K H [] []
  | cons {k : Str} {v : V} {vs : List (Str × V)} {d : D} {ds : List (Str × D)} : Dt K H v d → DtF K H vs ds → DtF K H ((k, v) :: vs) ((k, d) :: ds)
end

/-- H' has all that H has -/
abbrev Gr (H H' : Hp) : Prop := Same H H'
theorem Gr.rfl' {H : Hp} : Gr H H := fun _ _ e => e
theorem Gr.tr {H H1 H2 : Hp} (a : Gr H H1) (b : Gr H1 H2) : Gr H H2 := fun x o e => b x o (a x o e)
theorem gr_new {H : Hp} {p : Addr} {o : HO} (n : H p = none) : Gr H (upd H p o) := fun a u e => by rw [upd_ne (ne_of_none e n)]; exact e
theorem gr_none {H H' : Hp} {p : Addr} (g : Gr H H') (n : H' p = none) : H p = none := by
  cases e : H p with
  | none => rfl
  | some o => rw [g p o e] at n; cases n
theorem gr_T {K : PySem.W.Frag} {H H' : Hp} {a : Addr} {xs : List V} (g : Gr H H') (h : SqT K H a xs) : SqT K H' a xs := by
  rcases h with (h | ⟨o, h⟩) | h
  · exact Or.inl (Or.inl (g _ _ h))
  · exact Or.inl (Or.inr ⟨o, g _ _ h⟩)
  · exact Or.inr h

section
variable {K : PySem.W.Frag} {H H' : Hp}
mutual
theorem Dt.gr (g : Gr H H') : ∀ {v : V} {d : D}, Dt K H v d → Dt K H' v d
  | _, _, .non => .non
  | _, _, .bl b => .bl b
  | _, _, .int i => .int i
  | _, _, .str x => .str x
  | _, _, .lst e a => .lst (g _ _ e) (DtA.gr g a)
  | _, _, .tup e a => .tup (gr_T g e) (DtA.gr g a)
  | _, _, .dic e a => .dic (g _ _ e) (DtK.gr g a)
  | _, _, .exc e f a => .exc (g _ _ e) (g _ _ f) (DtF.gr g a)
theorem DtA.gr (g : Gr H H') : ∀ {v : List V} {d : List D}, DtA K H v d → DtA K H' v d
  | _, _, .nil => .nil
  | _, _, .cons a b => .cons (Dt.gr g a) (DtA.gr g b)
theorem DtK.gr (g : Gr H H') : ∀ {v : List (Key × V)} {d : List (Key × D)}, DtK K H v d → DtK K H' v d
  | _, _, .nil => .nil
  | _, _, .cons a b => .cons (Dt.gr g a) (DtK.gr g b)
theorem DtF.gr (g : Gr H H') : ∀ {v : List (Str × V)} {d : List (Str × D)}, DtF K H v d → DtF K H' v d
  | _, _, .nil => .nil
  | _, _, .cons a b => .cons (Dt.gr g a) (DtF.gr g b)
end
theorem DtA.len {v : List V} {d : List D} (h : DtA K H v d) : v.length = d.length := by
  induction d generalizing v with
  | nil => cases h; rfl
  | cons x d ih => cases h with | cons a b => simp [ih b]
theorem DtA.app : ∀ {v w : List V} {d e : List D}, DtA K H v d → DtA K H w e → DtA K H (v ++ w) (d ++ e)
  | _, _, _, _, .nil, h => h
  | _, _, _, _, .cons a b, h => .cons a (DtA.app b h)
theorem DtA.at : ∀ {v : List V} {d : List D} {i : Nat} {x : V}, DtA K H v d → v[i]? = some x → ∃ y, d[i]? = some y ∧ Dt K H x y
  | _, _, i, x, .nil, e => by simp at e
  | _, _, 0, x, .cons a b, e => by simp at e; subst e; exact ⟨_, rfl, a⟩
  | _, _, i + 1, x, .cons a b, e => by
    obtain ⟨y, h1, h2⟩ := DtA.at (i := i) (x := x) b (by simpa using e)
    exact ⟨y, by simpa using h1, h2⟩
theorem DtF.look {f : Str} : ∀ {v : List (Str × V)} {d : List (Str × D)} {y : D}, DtF K H v d → d.lookup f = some y → ∃ x, v.lookup f = some x ∧ Dt K H x y
  | _, _, y, .nil, e => by simp at e
  | _, _, y, .cons (k := k) a b, e => by
    simp only [List.lookup] at e ⊢
    split at e
    · cases e; exact ⟨_, rfl, a⟩
    · exact DtF.look b e
end

/-! ### as the library's data -/
mutual
def D.py : D → PyData
  | .non => .none
  | .bl b => .bool b
  | .int i => .int i
  | .str x => .str x
  | .lst xs => .list (pyA xs)
  | .tup xs => .tuple (pyA xs)
  | .dic _ => .dict []
  | .exc _ _ => .none
def pyA : List D → List PyData
  | [] => []
  | x :: xs => x.py :: pyA xs
end
mutual
/-- no dict, no exception in it -/
def D.pl : D → Bool
  | .lst xs => plA xs
  | .tup xs => plA xs
  | .dic _ => false
  | .exc _ _ => false
  | .str x => PySem.PyData.strOk x
  | _ => true
def plA : List D → Bool
  | [] => true
  | x :: xs => x.pl && plA xs
end
section
variable {X : Cx} {pins : List (Addr × Obj)} {σ : Sg} {H : Hp} {s : Shared}
mutual
theorem Dt.dp {K : PySem.W.Frag} {H : Hp} : ∀ {v : V} {d : D}, Dt K H v d → d.pl = true → Dp K H v d.py
  | _, _, .non, _ => .non
  | _, _, .bl b, _ => .bl b
  | _, _, .int i, _ => .int i
  | _, _, .str x, _ => .str x
  | _, _, .lst e a, h => .lst (SqL.of e) (DtA.dp a h)
  | _, _, .tup e a, h => .tup e (DtA.dp a h)
  | _, _, .dic e a, h => by cases h
  | _, _, .exc e f a, h => by cases h
theorem DtA.dp {K : PySem.W.Frag} {H : Hp} : ∀ {v : List V} {d : List D}, DtA K H v d → plA d = true → DpAll K H v (pyA d)
  | _, _, .nil, _ => .nil
  | _, _, .cons a b, h => by
    simp only [plA, Bool.and_eq_true] at h
    exact .cons (Dt.dp a h.1) (DtA.dp b h.2)
end
mutual
theorem nodict : ∀ d : D, d.pl = true → d.py.hasDict = false
  | .non, _ => rfl
  | .bl _, _ => rfl
  | .int _, _ => rfl
  | .str _, _ => rfl
  | .lst xs, h => by show PyData.hasDictAll (pyA xs) = false; exact nodictA xs h
  | .tup xs, h => by show PyData.hasDictAll (pyA xs) = false; exact nodictA xs h
  | .dic _, h => by cases h
  | .exc _ _, h => by cases h
theorem nodictA : ∀ d : List D, plA d = true → PyData.hasDictAll (pyA d) = false
  | [], _ => rfl
  | x :: xs, h => by
    simp only [plA, Bool.and_eq_true] at h
    show (x.py.hasDict || PyData.hasDictAll (pyA xs)) = false
    rw [nodict x h.1, nodictA xs h.2]; rfl
end
end

/-- what repr can be asked of here: plain data that fit, or an empty dict -/
def D.rok (d : D) : Prop := (d.pl = true ∨ d = .dic []) ∧ d.py.showable = true ∧ d.py.shown.length ≤ sizeLine ∧ d.py.depth ≤ 50
/-- repr(x) -/
def rRepr (K : PySem.W.Frag) : List V → Hp → VK → Prop := fun xs H Q => ∃ v d, xs = [v] ∧ Dt K H v d ∧ d.rok ∧ Q (.str d.py.shown) H
theorem call_repr {X : Cx} (g : X.A.guards = some []) (hu : X.A.units + 64 < cLine) : CallR X (.builtin "repr") (rRepr X.K) := by
  intro pins s σ H xs us Q I r h
  obtain ⟨v, d, rfl, hd, ⟨hp, hs, hz, hdp⟩, q⟩ := h
  obtain ⟨u, rfl, ru⟩ := vals1 r
  have hu2 : X.A.units + (d.py.depth + 1) < cLine := by omega
  have fin : ∀ h' tk u', (∀ b o, s.heap.get? b = some o → h'.get? b = some o) → EP X pins σ Q (.str d.py.shown u') { s with heap := h', toks := tk } := fun h' tk u' k => ⟨.str d.py.shown, H, I.kept k, ⟨u', rfl⟩, q⟩
  have finT : EP X pins σ Q (.str d.py.shown s.toks) { s with toks := s.toks + 1 } := ⟨.str d.py.shown, H, I.tok _, ⟨_, rfl⟩, q⟩
  -- a container's repr
  have box : ∀ a : Addr, u = .ref a → (∃ as, Reads s.heap (.ref a) d.py as ∧ (d.py.hasDict = true → sysModules ∉ as)) → wpAny (model X.prog X.w) X.A (call (.builtin "repr") [u]) (EP X pins σ Q) X.xe s := fun a e z => by
    obtain ⟨as, rd, hsm⟩ := z
    subst e
    exact repr_of_reads' rd hs hsm g hu2 (fun _ _ e => e) (fun h' u tk k => fin h' tk u k) hz
  rcases hp with hp | hp
  · obtain ⟨as, rd⟩ := Dp.reads I _ _ _ (hd.dp hp) ru
    have nd := nodict d hp
    cases hd with
    | non => cases ru; exact PySem.P.repr_of_none finT
    | bl b => cases ru; exact PySem.P.repr_of_bool finT
    | int i =>
      obtain ⟨t, rfl⟩ := ru
      exact PySem.P.repr_of_int (of_decide_eq_true hs) finT
    | str x =>
      obtain ⟨t, rfl⟩ := ru
      exact PySem.P.repr_of_str finT hz
    | lst e a => exact box _ ru ⟨as, by cases ru; exact rd, fun z => by rw [nd] at z; cases z⟩
    | tup e a => exact box _ ru ⟨as, by cases ru; exact rd, fun z => by rw [nd] at z; cases z⟩
    | dic e a => cases hp
    | exc e f a => cases hp
  · subst hp
    cases hd with
    | @dic a xs ds e kk =>
      cases kk
      cases ru
      obtain ⟨_, lo, vs, rel, o, es, ep, h1, h2, h3, h4, h5, _⟩ := dk_of I.hok e
      cases rel
      have e0 : es.toList = [] := by
        generalize es.toList = l at h5
        cases h5
        rfl
      have n1 : ReadsAll s.heap (es.toList.map (·.key)) (([] : List (PyData × PyData)).map (·.1)) [] := by rw [e0]; exact .nil
      have n2 : ReadsAll s.heap (es.toList.map (·.val)) (([] : List (PyData × PyData)).map (·.2)) [] := by rw [e0]; exact .nil
      refine box a rfl ⟨a :: ([] ++ []), Reads.dict (kvs := []) h1 h2.1 h3 n1 n2, fun _ z => ?_⟩
      have z' : sysModules = a := by simpa using z
      rw [z'] at lo
      simp at lo
end TSx

/-! Own layer, part 3: exceptions with an own __init__ as values: made, read, asked for their class, caught and kept. -/
namespace TSx
open PySem L2 PySem.Spec PyProof.Rows
section
variable {X : Cx} {pins : List (Addr × Obj)} {σ : Sg} {H : Hp} {s : Shared}
theorem exq_ok {P : Program} {w : World} {h : Heap} {a C d : Addr} {oe : Obj} {fv : Array Value} (e : h.get? a = some oe) (z : Zc (.ref C) (some d) oe) (f : oe.data = .fields fv) : ObjOk P w H h a (exq a C d) :=
  ⟨⟨oe, fv, e, z, f⟩, ⟨oe, e⟩, fun _ _ y k => by
    obtain ⟨o, v, e, r⟩ := y
    exact ⟨o, v, k o e, r⟩⟩
theorem exq_at (ok : HOk X.prog X.w H s.heap) {a C d : Addr} (e : H a = some (exq a C d)) : ∃ oe fv, s.heap.get? a = some oe ∧ Zc (.ref C) (some d) oe ∧ oe.data = .fields fv := by
  have x : ObjOk X.prog X.w H s.heap a (.ext fun h => ∃ oe vs, h.get? a = some oe ∧ Zc (.ref C) (some d) oe ∧ oe.data = .fields vs) := ok a _ e
  exact x.1
/-- an object that is not of this frame, nor tracked, becomes tracked -/
theorem Inv.track {a : Addr} {o : HO} (I : L2.Inv X pins σ H s) (na : H a = none) (n0 : X.s_0.heap.get? a = none) (nL : a ≠ X.env.locals) (nC : ∀ x c, X.env.cells.lookup x = some c → c ≠ a) (nP : ∀ p ∈ X.pn ++ pins, p.1 ≠ a)
    (new : ObjOk X.prog X.w (upd H a o) s.heap a o) : L2.Inv X pins σ (upd H a o) s := by
  have old : ∀ {b : Addr} {u : HO}, H b = some u → upd H a o b = some u := fun {b u} e => by rw [upd_ne (ne_of_none e na)]; exact e
  have un : ∀ {b : Addr}, b ≠ a → H b = none → upd H a o b = none := fun {b} h e => by rw [upd_ne h]; exact e
  refine ⟨I.ok, I.os, I.bare, ⟨fun b u e n hb hx => I.base.keep b u e n hb hx, fun b u e n hb hx => I.base.slot b u e n hb hx, fun b u e n hx => un (fun z => by rw [z, n0] at e; cases e) (I.base.free b u e n hx), I.base.there,
    fun b xs e => old (I.base.tups b xs e), fun b u v e => old (I.base.frzs b u v e), fun b ps e => ?_⟩, I.loc, I.cell, un (Ne.symm nL) I.free, fun x c e => un (nC x c e) (I.freeC x c e), fun p hp => ?_, fun b u e => ?_, I.len⟩
  · obtain ⟨m, e1⟩ := I.base.tbls b ps e
    exact ⟨m, old e1⟩
  · obtain ⟨h1, h2, h3⟩ := I.pin p hp
    exact ⟨h1, un (nP p hp) h2, h3⟩
  · by_cases hb : b = a
    · subst hb
      rw [upd_same] at e
      cases e
      exact new
    · rw [upd_ne hb] at e
      exact (I.hok b u e).stay (fun _ _ _ q => q) (fun _ q => old q) fun _ _ q => old q
/-- another description of a tracked thing, of those that may change -/
theorem Inv.retell {a : Addr} {o u : HO} (I : L2.Inv X pins σ H s) (e : H a = some u) (mu : Mut (some u)) (new : ObjOk X.prog X.w (upd H a o) s.heap a o) : L2.Inv X pins σ (upd H a o) s := by
  have m : Mut (H a) := by rw [e]; exact mu
  have th : ∃ ob, s.heap.get? a = some ob := by
    have q := I.hok a u e
    exact objOk_get q
  have J := I.write (h' := s.heap) (t' := s.toks) (x := a) (e := a) (o := o) m (Or.inl rfl) (fun _ _ _ q => q) th new
  exact J
end

/-- what the written part says of the class: how it is made, read, asked -/
structure XC (K : PySem.W.Frag) (C : Addr) : Prop where
  o : OexC K C
  a : ExcC K C
section
variable {X : Cx} {CX : CXT} {x : Str} {C fI : Addr} {k : Nat} {fd : FuncData} {ps : List Str} {sp : Sp} {p pos : Pos} {e : Expr} {es : List Expr} {ta : TA}
/-- C(e, ..) as a value -/
def tMkX (C : Addr) (sp : Sp) (ta : TA) : TE := fun σ H Q => ta σ H fun vs H1 => vs.length ≤ 1000 ∧ ∀ a, H1 a = none → sp (.ref a :: vs) (upd H1 a (exo a C none))
  (fun v H2 => v = .non ∧ ∃ (d : Addr) (fs : List (Str × V)), H2 a = some (exo a C (some d)) ∧ H2 d = some (exd d fs) ∧ Q (.ref a) (upd (upd H2 a (exq a C d)) d (.xd fs))) (fun _ _ _ => False)
theorem made {pins : List (Addr × Obj)} {σ : Sg} {H1 : Hp} {s : Shared} {Q : VK} {us : List Value} {vs : List V} (T : OexC X.K C) (iC : PySem.W.findIn X.K (.ref C) "__init__" = some (some (.ref fI))) (tI : PySem.W.typeIn X.K (.ref fI) = some (.type "function"))
    (F1 : FnOk X.prog X.w X.K X.mg X.base CX k fI fd ps sp) (hr : Room (k + 1) X.A) (hb : Binds X.K fd ps []) (hx : Passes CX X (fun _ _ _ => False)) (I1 : L2.Inv X pins σ H1 s) (r1 : Vals vs us) (hz : vs.length ≤ 1000)
    (q1 : ∀ a, H1 a = none → sp (.ref a :: vs) (upd H1 a (exo a C none)) (fun v H2 => v = .non ∧ ∃ (d : Addr) (fs : List (Str × V)), H2 a = some (exo a C (some d)) ∧ H2 d = some (exd d fs) ∧ Q (.ref a) (upd (upd H2 a (exq a C d)) d (.xd fs))) (fun _ _ _ => False)) :
    wpAny (model X.prog X.w) X.A (call (.ref C) us) (EP X pins σ Q) X.xe s := by
  obtain ⟨nm, q, N, bs, bm, sn, sub, ab, col, dd, k0, k1, k2, k3, k5, hC, hbm⟩ := T.cls
  obtain ⟨hp, g, dr, tk, os⟩ := s
  have nw : H1 (hp.objs.size + 1) = none := I1.hok.fresh (Nat.le_succ _)
  have want := q1 _ nw
  have keep2 : ∀ b o, hp.get? b = some o → ((hp.push (PySem.W.kdv_tup us)).push (PySem.HandSPX.excO C hp.objs.size)).get? b = some o := by
    intro b o e
    exact Heap.get?_push_of_some _ (Heap.get?_push_of_some _ e)
  have there : ((hp.push (PySem.W.kdv_tup us)).push (PySem.HandSPX.excO C hp.objs.size)).get? (hp.objs.size + 1) = some (PySem.HandSPX.excO C hp.objs.size) := by heap_get
  have I2 : L2.Inv X pins σ (upd H1 (hp.objs.size + 1) (exo (hp.objs.size + 1) C none)) ⟨(hp.push (PySem.W.kdv_tup us)).push (PySem.HandSPX.excO C hp.objs.size), g, dr, tk, os⟩ :=
    I1.laid (t' := tk) keep2 (Nat.le_succ _) (exo_ok there)
  have r2 : Vals (V.ref (hp.objs.size + 1) :: vs) (Value.ref (hp.objs.size + 1) :: us) := .cons rfl r1
  have cnt : (Value.ref (hp.objs.size + 1) :: us).length = ps.length := by rw [← r2.length]; exact F1.len _ _ _ _ want
  have few : us.length ≤ sizeLine := by
    have := Paired.length r1
    rw [sizeLine_eq]
    omega
  have bd := hb _ (Value.ref (hp.objs.size + 1) :: us) I2.kIn (by rw [List.append_nil]; exact cnt)
  rw [List.append_nil] at bd
  refine wpAny_call (PySem.HandSPX.call_own F.excBase_ValueError (fun Y => PySem.HandSPX.refsVE_contains Y bm hbm) (I1.kIn _ _ hC) (PySem.W.looks_findIn I1.kIn iC) (fun self => PySem.W.bind_fn I1.kIn self tI) few ?_)
  refine codeAny_mono (F1.run _ X.stack _ _ ⟨Value.ref (hp.objs.size + 1) :: us, []⟩ (Value.ref (hp.objs.size + 1) :: us) _ _ (fun _ _ _ => False) (hr.make C us []) (I2.env0.make C us []) bd r2 want) fun o s' z => ?_
  match o, z with
  | .error er, z => exact hx pins σ _ _ er s' I2 z
  | .ok .next, z => exact False.elim z
  | .ok .brk, z => exact False.elim z
  | .ok .cont, z => exact False.elim z
  | .ok (.ret u), z =>
    obtain ⟨v, H2, os2, bare2, un2, ok2, rv, ev, d, fs, ea, ed, qq⟩ := z
    subst ev
    refine ⟨rv, ?_⟩
    obtain ⟨h2, g2, d2, t2, os'⟩ := s'
    have os2' : os' = os := os2
    subst os2'
    have J : L2.Inv X pins σ H2 ⟨h2, g2, d2, t2, os'⟩ := I2.call (h' := h2) (g' := g2) (d' := d2) (t' := t2) (ch := []) un2 ok2 bare2 (fun b z => absurd z (by simp))
    obtain ⟨t0, hoe⟩ := exo_at J.hok ea
    obtain ⟨mA, hns, rel⟩ := exd_at J.hok ed
    have nd : d ≠ hp.objs.size + 1 := fun z => by
      obtain ⟨o, es', ep, e1, e2, _⟩ := hns
      rw [z] at e1
      have e3 := hoe.symm.trans e1
      cases e3
      cases e2
    have J2 := Inv.retell (o := exq (hp.objs.size + 1) C d) J ea True.intro (exq_ok hoe ⟨rfl, rfl⟩ rfl)
    have J3 := Inv.retell (o := .xd fs) (u := exd d fs) J2 (by rw [upd_ne nd]; exact ed) True.intro ⟨mA, hns, rel⟩
    exact ⟨.ref _, _, J3, rfl, qq⟩
theorem pe_mkX (T : OexC X.K C) (iC : PySem.W.findIn X.K (.ref C) "__init__" = some (some (.ref fI))) (tI : PySem.W.typeIn X.K (.ref fI) = some (.type "function"))
    (F1 : FnOk X.prog X.w X.K X.mg X.base CX k fI fd ps sp) (hr : Room (k + 1) X.A) (hb : Binds X.K fd ps []) (hx : Passes CX X (fun _ _ _ => False)) (hm : X.mg x = some (.ref C)) (ha : PA X (e :: es) ta) (hg : Gl X x := by rfl)
    (hdb : (x == ("__debug__" : Str)) = false := by decide) (he : starEach (e :: es) X.env = (false, eval e X.env) :: starEach es X.env := by rfl) (hpl : (backTo pos (starEach es X.env)).any (·.1) = false := by rfl) :
    PE X (.Call (.Name x p) (e :: es) [] pos) (tMkX C sp ta) := by
  constructor
  intro pins s σ H Q I h
  refine wpAny_Call_Name_kw (ld_glob I hg hm ?_ hdb)
  refine PySem.W.callWith_K (h₀ := X.base) I.ok.mod.kin T.kC (thn (ha.run pos pins s σ H _ I h) fun us s1 z => ?_) he hpl
  obtain ⟨vs, H1, I1, r1, hz, q1⟩ := z
  exact ⟨I1.kIn, made T iC tI F1 hr hb hx I1 r1 hz q1⟩
/-- e.f, e an exception that is tracked -/
def tXa (K : PySem.W.Frag) (f : Str) (te : TE) : TE := fun σ H Q => te σ H fun v H1 => ∃ (a C d : Addr) (fs : List (Str × V)) (y : V), v = .ref a ∧ H1 a = some (exq a C d) ∧ H1 d = some (.xd fs) ∧ ExcC K C ∧ PySem.W.findIn K (.ref C) f = some none ∧ fs.lookup f = some y ∧ Q y H1
theorem pe_xa {te : TE} {f : Str} (he : PE X e te) (hb : attributeBase e f X.env (eval e X.env) = eval e X.env := by rfl) : PE X (.Attribute e f pos) (tXa X.K f te) := by
  constructor
  intro pins s σ H Q I h
  refine attr_of hb (thn (he.run pins s σ H _ I h) fun u s1 z => ?_)
  obtain ⟨v, H1, I1, rv, a, C, d, fs, y, rfl, ea, ed, T, hno, l, q⟩ := z
  obtain rfl : u = Value.ref a := rv
  obtain ⟨oe, fv, h1, hz, hf⟩ := exq_at I1.hok ea
  have hx : ObjOk X.prog X.w H1 s1.heap d (.xd fs) := I1.hok d _ ed
  obtain ⟨mA, hns, rel⟩ := hx
  obtain ⟨od, ho, hl⟩ := lookIn_ns hns
  obtain ⟨u, hu, ru⟩ := RelO.some_of (v := y) (o := mA f) (by rw [← l]; exact rel f)
  have J : PySem.W.InstAt s1.heap a oe C (some od) := { at_ := h1, cls := hz.1, no := by unfold PySem.W.notCls; rw [hf] <;> rfl, dict := by rw [hz.2]; exact ho }
  exact HandSPX.exc_get I1.kIn J T.hg T.hk T.hs (PySem.W.findObj_own T.hd hno rfl (by rw [hl, hu])) (handed_of ru) ⟨y, H1, I1.tok _, ru, q⟩
end
end TSx

/-! Own layer, part 3k: an exception class called by keywords. -/
namespace TSx
open PySem PySem.HandSPX PySem.Spec Builtin Builtin.ObjectAttr
section
variable {prog : Program} {w : World} {A : Around} {E : Value → Shared → Prop} {R : Result → Shared → Prop} {h : Heap} {g : Array GenState} {d : Drawn} {t : Nat} {os : OsState}
variable {nm q : Str} {C N : Addr} {bs bm bmB : List Value} {sn : List Str} {sub : List Value} {ab : Bool} {col : Option Bool} {dd : Option Addr} {k0 k1 k2 k3 k5 : Option Value} {B newId initId : String} {kw : List (Str × Value)}
theorem kw_check_new {M : Model} (F : ExcBaseFacts B newId initId bmB) (hT : ∀ X : String, bm.contains (.type X) = bmB.contains (.type X)) {Q : Unit → Shared → Prop}
    (hC : h.get? C = some (excClassObj nm q C N bs bm true sn sub ab col dd k0 k1 k2 k3 k5 newId)) (hq : Q () ⟨h, g, d, t, os⟩) :
    wpAny M A (checkBuiltinCall newId ⟨[.ref C], kw⟩) Q E ⟨h, g, d, t, os⟩ := by
  have c1 : (Value.ref C :: bm).contains (.type B) = true := by rw [List.contains_cons, hT, F.hasB, Bool.or_true]
  have c2 := F.noStar
  simp only [checkBuiltinCall, F.newKind, F.newSplit, F.newRow]
  repeat (first
    | refine wpAny_loadPart_at hC ?_
    | (refine wpAny_isSubtype_exc hC ?_; rw [c1])
    | refine wpAny_staticBase_exc hC ?_
    | refine wpAny_madeBy_exc hC ?_
    | simp only [bne_self_eq_false, Bool.false_eq_true, if_false]
    | wp_step)
  exact hq
theorem kw_new (F : ExcBaseFacts B newId initId bmB) (hT : ∀ X : String, bm.contains (.type X) = bmB.contains (.type X))
    (hC : h.get? C = some (excClassObj nm q C N bs bm true sn sub ab col dd k0 k1 k2 k3 k5 newId))
    (hq : R (.ok (.ret (.ref (h.objs.size + 1)))) ⟨(h.push (W.kdv_tup [])).push (excO C h.objs.size), g, d, t, os⟩) :
    codeAny (model prog w) A (.builtin newId ⟨[.ref C], kw⟩) R ⟨h, g, d, t, os⟩ := by
  have e1 := F.ends
  have c1 : (Value.ref C :: bm).contains (.type B) = true := by rw [List.contains_cons, hT, F.hasB, Bool.or_true]
  have c2 : (Value.ref C :: bm).contains (.type "AttributeError") = false := by rw [List.contains_cons, hT, F.noAttr]; rfl
  have c3 : (Value.ref C :: bm).contains (.type "NameError") = false := by rw [List.contains_cons, hT, F.noName]; rfl
  have few : ([] : List Value).length ≤ sizeLine := Nat.zero_le _
  refine codeAny_builtinAt F.entry ?_
  unfold Builtin.«BaseException.__new__»
  refine wpAt_bind ?_
  show wpAt _ _ _ (stack >>= _) _ _ _
  refine wpAt_bind (wpAt_stack fun p below => wpAt_of_wpAny ?_)
  wp_walk
  refine wpAt_of_wpAny ?_
  rw [F.owner]
  repeat (first
    | with_reducible refine wpAny_madeHere_exc F.canon hC ?_
    | with_reducible refine wpAny_loadPart_at hC ?_
    | (with_reducible refine wpAny_isSubtype_exc hC ?_; first | rw [c1] | rw [c2] | rw [c3])
    | wp_step)
  show R _ _
  rw [Heap.size_push]
  exact hq
theorem kw_type_call (F : ExcBaseFacts B newId initId bmB) (hT : ∀ X : String, bm.contains (.type X) = bmB.contains (.type X)) {fI : Addr} {Q : Fin → Shared → Prop}
    (hC : h.get? C = some (excClassObj nm q C N bs bm true sn sub ab col dd k0 k1 k2 k3 k5 newId))
    (hi : W.Looks (model prog w) h (typeLookup (.ref C) "__init__") (some (.ref fI))) (hb : ∀ self, W.Looks (model prog w) h (bindSpecial (.ref fI) self) (.ref fI, [self]))
    (hq : codeAny (model prog w) A (.call (.ref fI) ⟨[.ref (h.objs.size + 1)], kw⟩)
      (fun r s' => match r with | .ok (.ret v) => v = .none ∧ Q (.done (.ret (.ref (h.objs.size + 1)))) s' | .ok _ => False | .error e => E e s')
      ⟨(h.push (W.kdv_tup [])).push (excO C h.objs.size), g, d, t, os⟩) :
    wpAny (model prog w) A (Builtin.«type.__call__» ⟨[.ref C], kw⟩) Q E ⟨h, g, d, t, os⟩ := by
  repeat (first
    | with_reducible refine wpAny_loadPart_at hC ?_
    | with_reducible refine wpAny_madeBy_exc hC ?_
    | wp_step)
  refine codeAny_call_builtin_code (Code.quiet_builtin _ F.quiet) (kw_check_new F hT hC ?_)
  refine kw_new F hT hC ?_
  show wpAny _ _ _ _ _ _
  have k : ∀ b o, h.get? b = some o → ((h.push (W.kdv_tup [])).push (excO C h.objs.size)).get? b = some o := fun b o e => Heap.get?_push_of_some _ (Heap.get?_push_of_some _ e)
  have hC1 := k _ _ hC
  have at1 : ((h.push (W.kdv_tup [])).push (excO C h.objs.size)).get? (h.objs.size + 1) = some (excO C h.objs.size) := by heap_get
  have own : (Value.ref C :: bm).contains (.ref C) = true := by simp
  have i1 := hi.keeps k
  have b1 := (hb (.ref (h.objs.size + 1))).keeps k
  unfold isInstance
  repeat (first
    | with_reducible refine wpAny_loadPart_at at1 ?_
    | (with_reducible refine wpAny_isSubtype_exc hC1 ?_; rw [own])
    | wp_step)
  show wpAny _ _ (typeLookup (.ref C) _) _ _ _
  refine i1.at (wpAny_holding (wpAny_bind (b1.at (wpAny_bind (wpAny_call (codeAny_mono hq fun r s' z => ?_))))))
  match r, z with
  | .error _, z => exact z
  | .ok .next, z => exact z.elim
  | .ok .brk, z => exact z.elim
  | .ok .cont, z => exact z.elim
  | .ok (.ret v), z =>
    obtain ⟨rfl, z⟩ := z
    first
      | exact wpAny_pure (wpAny_pure z)
      | (wp_walk; exact z)
theorem kw_check_call {M : Model} {Q : Unit → Shared → Prop} (hC : h.get? C = some (excClassObj nm q C N bs bm true sn sub ab col dd k0 k1 k2 k3 k5 newId)) (hq : Q () ⟨h, g, d, t, os⟩) :
    wpAny M A (checkBuiltinCall "type.__call__" ⟨[.ref C], kw⟩) Q E ⟨h, g, d, t, os⟩ := by
  have f3 := tc_sub
  have ty : (⟨h, g, d, t, os⟩ : Shared).TypeIs (.ref C) "type" := ⟨_, hC, rfl⟩
  simp only [checkBuiltinCall, tc_kind, tc_split]
  repeat (any_goals (first
    | assumption
    | with_reducible refine wpAny_loadPart_at hC ?_
    | with_reducible refine wpAny_onRaise ?_
    | with_reducible refine wpAny_map ?_
    | wp_step))
theorem kw_call (F : ExcBaseFacts B newId initId bmB) (hT : ∀ X : String, bm.contains (.type X) = bmB.contains (.type X)) {fI : Addr}
    (hC : h.get? C = some (excClassObj nm q C N bs bm true sn sub ab col dd k0 k1 k2 k3 k5 newId))
    (hi : W.Looks (model prog w) h (typeLookup (.ref C) "__init__") (some (.ref fI))) (hb : ∀ self, W.Looks (model prog w) h (bindSpecial (.ref fI) self) (.ref fI, [self]))
    (hq : codeAny (model prog w) (A.under (.builtin "type.__call__" ⟨[.ref C], kw⟩)) (.call (.ref fI) ⟨[.ref (h.objs.size + 1)], kw⟩) (W.InitBack (h.objs.size + 1) R)
      ⟨(h.push (W.kdv_tup [])).push (excO C h.objs.size), g, d, t, os⟩) :
    codeAny (model prog w) A (.call (.ref C) ⟨[], kw⟩) R ⟨h, g, d, t, os⟩ := by
  have f1 := tc_lookup
  have f2 := tc_bind (.ref C)
  have ty : (⟨h, g, d, t, os⟩ : Shared).TypeIs (.ref C) "type" := ⟨_, hC, rfl⟩
  refine codeAny_of_tree ?_
  show wpAny _ _ (callAny (.ref C) _) _ _ _
  repeat (any_goals (first
    | assumption
    | with_reducible refine wpAny_loadPart_at hC ?_
    | wp_step))
  refine ⟨rfl, ?_⟩
  refine codeAny_call_builtin_at (Code.quiet_builtin _ (by decide +kernel)) entry_typeCall (kw_check_call hC (kw_type_call F hT hC hi hb ?_))
  refine codeAny_mono hq fun r s' z => ?_
  rcases r with e | (v | _ | _ | _) <;> exact z
end
end TSx

/-! Own layer, part 4: exceptions by keywords, isinstance of them, a try that keeps what it caught. -/
namespace TSx
open PySem L2 PySem.Spec PyProof.Rows
/-- how keywords alone bind behind self -/
structure KwB (fd : FuncData) (ps ks : List Str) (g : List Value → List Value) (gV : List V → List V) : Prop where
  to : ∀ (s : Shared) (self : Value) (ws : List Value), ws.length = ks.length → BindsTo s fd ⟨[self], ks.zip ws⟩ (ps.zip (self :: g ws))
  rel : ∀ {zs : List V} {ws : List Value}, Vals zs ws → Vals (gV zs) (g ws)
section
variable {X : Cx} {CX : CXT} {x : Str} {C fI : Addr} {k : Nat} {fd : FuncData} {ps ks : List Str} {sp : Sp} {p pos : Pos} {kws : List Keyword} {tk : TA} {g : List Value → List Value} {gV : List V → List V}
/-- C(f = e, ..) as a value -/
def tMkK (C : Addr) (m : Nat) (sp : Sp) (gV : List V → List V) (tk : TA) : TE := fun σ H Q => tk σ H fun zs H1 => zs.length = m ∧ ∀ a, H1 a = none → sp (.ref a :: gV zs) (upd H1 a (exo a C none))
  (fun v H2 => v = .non ∧ ∃ (d : Addr) (fs : List (Str × V)), H2 a = some (exo a C (some d)) ∧ H2 d = some (exd d fs) ∧ Q (.ref a) (upd (upd H2 a (exq a C d)) d (.xd fs))) (fun _ _ _ => False)
theorem madeK {pins : List (Addr × Obj)} {σ : Sg} {H1 : Hp} {s : Shared} {Q : VK} {ws : List Value} {zs : List V} (T : OexC X.K C) (iC : PySem.W.findIn X.K (.ref C) "__init__" = some (some (.ref fI))) (tI : PySem.W.typeIn X.K (.ref fI) = some (.type "function"))
    (F1 : FnOk X.prog X.w X.K X.mg X.base CX k fI fd ps sp) (hr : Room (k + 1) X.A) (hb : KwB fd ps ks g gV) (hx : Passes CX X (fun _ _ _ => False)) (I1 : L2.Inv X pins σ H1 s) (r1 : Vals zs ws) (hz : zs.length = ks.length)
    (q1 : ∀ a, H1 a = none → sp (.ref a :: gV zs) (upd H1 a (exo a C none)) (fun v H2 => v = .non ∧ ∃ (d : Addr) (fs : List (Str × V)), H2 a = some (exo a C (some d)) ∧ H2 d = some (exd d fs) ∧ Q (.ref a) (upd (upd H2 a (exq a C d)) d (.xd fs))) (fun _ _ _ => False)) :
    wpAny (model X.prog X.w) X.A (call (.ref C) [] (ks.zip ws)) (EP X pins σ Q) X.xe s := by
  obtain ⟨nm, q, N, bs, bm, sn, sub, ab, col, dd, k0, k1, k2, k3, k5, hC, hbm⟩ := T.cls
  obtain ⟨hp, gs, dr, tk, os⟩ := s
  have nw : H1 (hp.objs.size + 1) = none := I1.hok.fresh (Nat.le_succ _)
  have want := q1 _ nw
  have keep2 : ∀ b o, hp.get? b = some o → ((hp.push (PySem.W.kdv_tup [])).push (PySem.HandSPX.excO C hp.objs.size)).get? b = some o := by
    intro b o e
    exact Heap.get?_push_of_some _ (Heap.get?_push_of_some _ e)
  have there : ((hp.push (PySem.W.kdv_tup [])).push (PySem.HandSPX.excO C hp.objs.size)).get? (hp.objs.size + 1) = some (PySem.HandSPX.excO C hp.objs.size) := by heap_get
  have I2 : L2.Inv X pins σ (upd H1 (hp.objs.size + 1) (exo (hp.objs.size + 1) C none)) ⟨(hp.push (PySem.W.kdv_tup [])).push (PySem.HandSPX.excO C hp.objs.size), gs, dr, tk, os⟩ :=
    I1.laid (t' := tk) keep2 (Nat.le_succ _) (exo_ok there)
  have r2 : Vals (V.ref (hp.objs.size + 1) :: gV zs) (Value.ref (hp.objs.size + 1) :: g ws) := .cons rfl (hb.rel r1)
  have bd := hb.to ⟨(hp.push (PySem.W.kdv_tup [])).push (PySem.HandSPX.excO C hp.objs.size), gs, dr, tk, os⟩ (Value.ref (hp.objs.size + 1)) ws (by rw [← r1.length]; exact hz)
  refine wpAny_call (kw_call F.excBase_ValueError (fun Y => PySem.HandSPX.refsVE_contains Y bm hbm) (I1.kIn _ _ hC) (PySem.W.looks_findIn I1.kIn iC) (fun self => PySem.W.bind_fn I1.kIn self tI) ?_)
  refine codeAny_mono (F1.run _ X.stack _ _ ⟨[Value.ref (hp.objs.size + 1)], ks.zip ws⟩ (Value.ref (hp.objs.size + 1) :: g ws) _ _ (fun _ _ _ => False) (hr.make C [] (ks.zip ws)) (I2.env0.make C [] (ks.zip ws)) bd r2 want) fun o s' z => ?_
  match o, z with
  | .error er, z => exact hx pins σ _ _ er s' I2 z
  | .ok .next, z => exact False.elim z
  | .ok .brk, z => exact False.elim z
  | .ok .cont, z => exact False.elim z
  | .ok (.ret u), z =>
    obtain ⟨v, H2, os2, bare2, un2, ok2, rv, ev, d, fs, ea, ed, qq⟩ := z
    subst ev
    refine ⟨rv, ?_⟩
    obtain ⟨h2, g2, d2, t2, os'⟩ := s'
    have os2' : os' = os := os2
    subst os2'
    have J : L2.Inv X pins σ H2 ⟨h2, g2, d2, t2, os'⟩ := I2.call (h' := h2) (g' := g2) (d' := d2) (t' := t2) (ch := []) un2 ok2 bare2 (fun b z => absurd z (by simp))
    obtain ⟨t0, hoe⟩ := exo_at J.hok ea
    obtain ⟨mA, hns, rel⟩ := exd_at J.hok ed
    have nd : d ≠ hp.objs.size + 1 := fun z => by
      obtain ⟨o, es', ep, e1, e2, _⟩ := hns
      rw [z] at e1
      have e3 := hoe.symm.trans e1
      cases e3
      cases e2
    have J2 := Inv.retell (o := exq (hp.objs.size + 1) C d) J ea True.intro (exq_ok hoe ⟨rfl, rfl⟩ rfl)
    have J3 := Inv.retell (o := .xd fs) (u := exd d fs) J2 (by rw [upd_ne nd]; exact ed) True.intro ⟨mA, hns, rel⟩
    exact ⟨.ref _, _, J3, rfl, qq⟩
theorem pe_mkK (T : OexC X.K C) (iC : PySem.W.findIn X.K (.ref C) "__init__" = some (some (.ref fI))) (tI : PySem.W.typeIn X.K (.ref fI) = some (.type "function"))
    (F1 : FnOk X.prog X.w X.K X.mg X.base CX k fI fd ps sp) (hr : Room (k + 1) X.A) (hb : KwB fd ps ks g gV) (hx : Passes CX X (fun _ _ _ => False)) (hm : X.mg x = some (.ref C)) (hkw : PK X kws tk) (hg : Gl X x := by rfl)
    (hall : (backToKw pos (keywordEach kws X.env)).all (·.1.isSome) = true := by rfl) (hks : (backToKw pos (keywordEach kws X.env)).filterMap (·.1) = ks := by rfl) (hdb : (x == ("__debug__" : Str)) = false := by decide)
    (hpl : ((backTo pos (starEach [] X.env)).any (·.1) || (backToKw pos (keywordEach kws X.env)).any (·.1.isNone)) = false := by rfl) :
    PE X (.Call (.Name x p) [] kws pos) (tMkK C ks.length sp gV tk) := by
  constructor
  intro pins s σ H Q I h
  refine wpAny_Call_Name_kw (ld_glob I hg hm ?_ hdb)
  refine PySem.W.callWith_KW0 (h₀ := X.base) I.ok.mod.kin T.kC hall ?_ hpl
  refine thn (hkw.run pos pins s σ H _ I h) fun ws s2 z => ?_
  obtain ⟨zs, H2, I2, rz, l, q2⟩ := z
  refine ⟨I2.kIn, ?_⟩
  rw [hks]
  exact madeK T iC tI F1 hr hb hx I2 rz l q2
end

/-- isinstance(e, c), e a tracked exception -/
def rIsX (K : PySem.W.Frag) : List V → Hp → VK → Prop := fun xs H Q => ∃ (a C d : Addr) (fs : List (Str × V)) (c : V) (cv : Value) (b : Bool), xs = [.ref a, c] ∧ H a = some (exq a C d) ∧ H d = some (.xd fs) ∧ ExcC K C ∧ (∀ u, RelV c u → u = cv) ∧ PySem.W.kitOne K (.ref C) cv = some b ∧ Q (.bl b) H
theorem call_isX {X : Cx} : CallR X (.builtin "isinstance") (rIsX X.K) := by
  intro pins s σ H xs us Q I r h
  obtain ⟨a, C, d, fs, c, cv, b, rfl, ea, ed, T, hc, e, q⟩ := h
  obtain ⟨u1, u2, rfl, r1, r2⟩ := vals2 r
  cases (show u1 = Value.ref a from r1)
  have e2 := hc _ r2
  subst e2
  obtain ⟨oe, fv, h1, hz, hf⟩ := exq_at I.hok ea
  have hx : ObjOk X.prog X.w H s.heap d (.xd fs) := I.hok d _ ed
  obtain ⟨mA, hns, rel⟩ := hx
  obtain ⟨od, ho, hl⟩ := lookIn_ns hns
  have J : PySem.W.InstAt s.heap a oe C (some od) := { at_ := h1, cls := hz.1, no := by unfold PySem.W.notCls; rw [hf] <;> rfl, dict := by rw [hz.2]; exact ho }
  have isC : (PySem.W.clsIn X.K C).isSome = true := by
    obtain ⟨cd, hcd, _⟩ := PySem.W.any_some T.hd
    rw [hcd]
    rfl
  exact PySem.W.kia_one (PySem.W.kitx_exc isC T.hg T.hk T.hs T.ha T.hn T.ht T.hm) I.kIn J e (fun z => nomatch z) fun tk => ⟨.bl b, H, I.kept (t' := tk) fun _ _ z => z, rfl, q⟩
end TSx

/-! Own layer, part 5: try .. except C as n: the caught exception stays tracked behind the suite. -/
namespace TSx
open PySem L2 PySem.Spec PyProof.Rows
/-- what the clauses wish of an exception of the body: (class, slot of the name, suite) one after the other -/
def wT (K : PySem.W.Frag) (Wout : WX) (D : Ends) : List (Value × Nat × TS) → WX
  | [] => Wout
  | (c, i, ts) :: r => fun cls d σ H => ∃ b, PySem.W.exmOne K cls c = some b ∧
      (b = true → ∃ (C dd : Addr), cls = .ref C ∧ d = some dd ∧ ∀ a, H a = none → ts { nx := fun σ' H' => D.nx (σ'.set i none) H', rt := D.rt, bk := fun σ' H' => D.bk (σ'.set i none) H', ct := fun σ' H' => D.ct (σ'.set i none) H' } (σ.set i (some (.ref a))) (upd H a (exq a C dd))) ∧
      (b = false → wT K Wout D r cls d σ H)
inductive Hds (X : Cx) : List ExceptHandler → List (Value × Nat × TS) → Prop
  | nil : Hds X [] []
  | cons {x n : Str} {c : Value} {i : Nat} {ts : TS} {b₀ : Stmt} {suite : List Stmt} {np pos' : Pos} {hds : List ExceptHandler} {l : List (Value × Nat × TS)} (hc : Names X x c) (hi : X.N[i]? = some n) (hln : X.env.kindOf n = some .local)
      (hsu : ∀ (a : Addr) (pn : List (Addr × Obj)), PSs (X.suite a pn) (b₀ :: suite) ts) (r : Hds X hds l) :
      Hds X (.ExceptHandler (some (.Name x np)) (some n) (b₀ :: suite) pos' :: hds) ((c, i, ts) :: l)
theorem suite_in {X : Cx} {pins : List (Addr × Obj)} {σ : Sg} {H : Hp} {s : Shared} (I : L2.Inv X pins σ H s) (a : Addr) : L2.Inv (X.suite a (X.pn ++ pins)) [] σ H s :=
  ⟨I.ok.suite _ _, I.os, I.bare, I.base, I.loc, I.cell, I.free, I.freeC, fun p hp => I.pin p (by rw [List.append_nil] at hp; exact hp), I.hok, I.len⟩
theorem suite_out {X : Cx} {pins pn' : List (Addr × Obj)} {σ : Sg} {H : Hp} {s : Shared} {a : Addr} (I : L2.Inv (X.suite a (X.pn ++ pins)) pn' σ H s) (ok : X.Ok) : L2.Inv X pins σ H s :=
  ⟨ok, I.os, I.bare, I.base, I.loc, I.cell, I.free, I.freeC, fun p hp => I.pin p (List.mem_append_left _ hp), I.hok, I.len⟩
section
variable {X : Cx} {body : List Stmt} {h₀ : ExceptHandler} {hds : List ExceptHandler} {l : List (Value × Nat × TS)} {pos : Pos} {tb : WX → TS} {Wout : WX}
theorem ps_tryT (hs : X.stack = X.env :: X.outer) (hf : X.env.frame = some X.env.locals) (hN : X.N.Nodup) (hex : X.ex = []) (tk : Takes X Wout)
    (hb : ∀ (W : WX) (pn : List (Addr × Obj)) (xe : Value → Shared → Prop), Takes (X.tr pn xe) W → PassesOwn (model X.prog X.w) X.A X.env xe → PSs (X.tr pn xe) body (tb W))
    (hh : Hds X (h₀ :: hds) l) : PS X (.Try body (h₀ :: hds) [] [] pos) (fun D σ H => tb (wT X.K Wout D l) D σ H) := by
  constructor
  intro pins s σ H D I h
  have ok := I.ok
  have fr : X.A.frames = some (X.env :: X.outer) := by rw [ok.frames, hs]
  refine wpAny_Try_except ?_
  refine wpAny_mono ((hb (wT X.K Wout D l) (X.pn ++ pins) (fun e s₁ => wpAny (model X.prog X.w) X.A (noteFrame e X.env) (fun _ s₂ => wpAny (model X.prog X.w) X.A (setFlight e none) (fun _ s₃ =>
    wpAny (model X.prog X.w) X.A (handleBy e X.env (h₀ :: hds)) (SP X pins D) X.xe s₃) X.xe s₂) X.xe s₁) (fun u s' xx => ?_) PassesOwn.looking).run [] s σ H D (I.toTry _) h) (fun f s1 hsp => ?_) (fun e s1 he => he)
  · obtain ⟨a, B, sI, pins', σ', H', cls, d, rfl, J', nb, up, sky, na, os, ag, w⟩ := xx
    have J : L2.Inv X pins σ' H' sI := J'.ofTry ok
    have sky2 : Sky B (X.env :: X.outer) a (Zc cls d) X.env.locals s'.heap := by rw [← hs]; exact sky
    show wpAny (model X.prog X.w) X.A (noteFrame (.ref a) X.env) _ _ _
    refine Sky.land Zc.steady fr hf sky2 fun h3 fl3 up3 => ?_
    have J3 : L2.Inv X pins σ' H' { s' with heap := h3 } := J.landed nb fl3.1 (up.trans up3) os ag
    obtain ⟨oe3, vs3, he3, hz3, hd3⟩ := fl3.there
    have nfr : a ∉ frs (X.env :: X.outer) := fun hm => by
      obtain ⟨_, o', e', hnf⟩ := fl3.2.2.1.mem hm
      rw [he3] at e'
      cases e'
      exact hnf _ hd3
    have nL : a ≠ X.env.locals := fun z => nfr (List.mem_filterMap.mpr ⟨X.env, List.mem_cons_self, by rw [hf, z]⟩)
    have nI : sI.heap.get? a = none := by
      cases q : sI.heap.get? a with
      | none => rfl
      | some o =>
        have z := nb a o q (by rw [hs]; exact nfr)
        rw [fl3.2.1] at z
        cases z
    have n0 : X.s_0.heap.get? a = none := by
      cases q : X.s_0.heap.get? a with
      | none => rfl
      | some o =>
        obtain ⟨o', z⟩ := J.base.there a o q (by rw [hex]; simp)
        rw [nI] at z
        cases z
    have nP : ∀ p ∈ X.pn ++ pins, p.1 ≠ a := fun p hp z => by
      have q := (J.pin p hp).1
      rw [z, nI] at q
      cases q
    have S3 := suite_in J3 a
    have go : ∀ {hds' : List ExceptHandler} {l' : List (Value × Nat × TS)}, Hds X hds' l' → wT X.K Wout D l' cls d σ' H' →
        wpAny (model X.prog X.w) X.A (handleBy (.ref a) X.env hds') (SP X pins D) X.xe { s' with heap := h3 } := by
      intro hds' l' hk
      induction hk with
      | nil =>
        intro w
        refine wpAny_handleBy_nil ?_
        obtain ⟨k1, k2, k3, oe, vs, T, oT, ts', he, hz, hd, h1, hr⟩ := id fl3
        unfold PySem.passOn
        refine wpAny_bind (wpAny_field he hd h1 ?_)
        rw [if_neg (show ¬ ((Value.ref T == Value.none) = true) from by simp)]
        have last : wpAny (model X.prog X.w) X.A (setFlight (.ref a) X.env.frame) (fun _ s4 => wpAny (model X.prog X.w) X.A (throw (.ref a) : Sem Flow) (SP X pins D) X.xe s4) X.xe { s' with heap := h3 } := by
          rw [hf]
          refine HandSPX.setFlight_upZ fl3 fun h4 hh4 up4 => wpAny_throw (tk _ _ ?_)
          exact ⟨a, B, sI, pins, σ', H', cls, d, rfl, J, nb, (up.trans up3).trans up4, .inr (.inr (by rw [hs]; exact hh4)), na, os, ag, w⟩
        first
          | exact wpAny_bind (wpAny_pure (wpAny_bind last))
          | exact wpAny_bind last
      | @cons x n c i ts b₀ suite np pos' hds2 l2 hc hi hln hsu r ih =>
        intro w
        obtain ⟨b, hb1, hyes, hno⟩ := w
        refine wpAny_handleBy_cons (codeAny_handlers_test ?_) (by intro q; cases q)
        have LT : PySem.W.Looks (model X.prog X.w) h3 (typeOf (.ref a)) cls := fun A Q E s k q => wpAny_typeOf_ref (k _ _ he3) (by rw [hz3.1]; exact q)
        have LM := PySem.W.exm_one (M := model X.prog X.w) (J3.kIn) LT hb1
        have ask : ∀ {Q : Value → Shared → Prop} {E : Value → Shared → Prop}, Q c { s' with heap := h3 } → wpAny (model X.prog X.w) (X.A.mark (some (.ref a))) (eval (.Name x np) X.env) Q E { s' with heap := h3 } := fun {Q E} q => by
          obtain ⟨hg, hdbg, hm | ⟨hm, hv, hnn⟩⟩ := hc
          · exact ld_glob (X := X.suite a (X.pn ++ pins)) S3 hg hm q hdbg
          · exact ld_blt (X := X.suite a (X.pn ++ pins)) S3 hg hm hv q hnn hdbg
        refine ask (LM.here ?_)
        cases b with
        | true =>
          obtain ⟨C, dd, rfl, rfl, want⟩ := hyes rfl
          refine codeAny_handlers_suite_as ?_
          refine HandSPX.lands_againZ fl3 fun h4 fl4 up4 => ?_
          have J4 : L2.Inv X pins σ' H' { s' with heap := h4 } := J.landed nb fl4.1 ((up.trans up3).trans up4) os ag
          obtain ⟨oe4, vs4, he4, hz4, hd4⟩ := fl4.there
          have nC : ∀ y c', X.env.cells.lookup y = some c' → c' ≠ a := fun y c' e z => by
            obtain ⟨v, o, ho, hdat⟩ := J4.cell y c' e
            rw [z] at ho
            have ho' : h4.get? a = some o := ho
            rw [he4] at ho'
            cases ho'
            rw [hd4] at hdat
            cases hdat
          have J5 := Inv.track J4 na n0 nL nC nP (exq_ok (C := C) (d := dd) he4 hz4 hd4)
          have S5 := suite_in J5 a
          refine store_ok (X := X.suite a (X.pn ++ pins)) (v := .ref a) S5 hN hi (.inl hln) rfl (fun s6 S6 => ?_) (.inr hln)
          refine wpAny_mono ((hsu a (X.pn ++ pins)).run [] s6 _ _ _ S6 (want a na)) (fun f s7 hsp => ?_) (fun _ _ z => False.elim z)
          have close : ∀ {σ7 : Sg} {H7 : Hp} {Q : Shared → Prop}, L2.Inv (X.suite a (X.pn ++ pins)) [] σ7 H7 s7 → (∀ s8, L2.Inv X pins (σ7.set i none) H7 s8 → Q s8) →
              wpAny (model X.prog X.w) X.A (do bindName X.env n .none; unbindBehindTheSuite X.env n pos') (fun _ s8 => Q s8) X.xe s7 := fun {σ7 H7 Q} S7 hq => gone_ok (suite_out S7 ok) hN hi hln hq
          cases f with
          | next =>
            obtain ⟨σ7, H7, S7, q7⟩ := hsp
            exact close S7 fun s8 J8 => ⟨_, _, J8, q7⟩
          | brk =>
            obtain ⟨σ7, H7, S7, q7⟩ := hsp
            exact close S7 fun s8 J8 => ⟨_, _, J8, q7⟩
          | cont =>
            obtain ⟨σ7, H7, S7, q7⟩ := hsp
            exact close S7 fun s8 J8 => ⟨_, _, J8, q7⟩
          | ret u =>
            obtain ⟨v7, σ7, H7, S7, r7, q7⟩ := hsp
            exact close S7 fun s8 J8 => ⟨_, _, _, J8, r7, q7⟩
        | false =>
          show wpAny _ X.A (handleBy (.ref a) X.env hds2) _ _ _
          exact ih (hno rfl)
    exact go hh w
  · cases f with
    | next =>
      obtain ⟨σ', H', J', q⟩ := hsp
      exact wpAny_execs_nil ⟨σ', H', J'.ofTry ok, q⟩
    | brk =>
      obtain ⟨σ', H', J', q⟩ := hsp
      exact ⟨σ', H', J'.ofTry ok, q⟩
    | cont =>
      obtain ⟨σ', H', J', q⟩ := hsp
      exact ⟨σ', H', J'.ofTry ok, q⟩
    | ret u =>
      obtain ⟨v, σ', H', J', r, q⟩ := hsp
      exact ⟨v, σ', H', J'.ofTry ok, r, q⟩
end
end TSx

/-! Own layer, part 6: repr of data among which dicts stand (their values without parts). -/
namespace TSx
open PySem L2 PySem.Spec PyProof.Rows
/-- a thing without parts, as the library's data -/
def D.s0 : D → PyData
  | .bl b => .bool b
  | .int i => .int i
  | .str x => .str x
  | _ => .none
def pdKey : Key → PyData
  | .inl i => .int i
  | .inr x => .str x
mutual
def D.pd : D → PyData
  | .non => .none
  | .bl b => .bool b
  | .int i => .int i
  | .str x => .str x
  | .lst xs => .list (pdA xs)
  | .tup xs => .tuple (pdA xs)
  | .dic kvs => .dict (kvs.map fun p => (pdKey p.1, p.2.s0))
  | .exc _ _ => .none
def pdA : List D → List PyData
  | [] => []
  | x :: xs => x.pd :: pdA xs
end
def D.flat : D → Bool
  | .non => true
  | .bl _ => true
  | .int _ => true
  | .str _ => true
  | _ => false
mutual
/-- no exception in it, dicts hold things without parts -/
def D.sh : D → Bool
  | .lst xs => shA xs
  | .tup xs => shA xs
  | .dic kvs => kvs.all fun p => p.2.flat
  | .exc _ _ => false
  | _ => true
def shA : List D → Bool
  | [] => true
  | x :: xs => x.sh && shA xs
end
section
variable {P : Program} {w : World} {h : Heap}
/-- the value reads as p and shows as p -/
def Rp (P : Program) (w : World) (h : Heap) (u : Value) (p : PyData) : Prop := (∃ as, Reads h u p as) ∧ ∃ bs, ReadAtMost h p.depth bs ∧ ReprK P w bs h p.depth u p.shown
def RpA (P : Program) (w : World) (h : Heap) (us : List Value) (ps : List PyData) : Prop := (∃ as, ReadsAll h us ps as) ∧ ∃ bs, ReadAtMost h (PyData.depthAll ps) bs ∧ ReprAllK P w bs h (PyData.depthAll ps) us (PyData.shownAll ps)
theorem rpA_nil : RpA P w h [] [] := ⟨⟨_, .nil⟩, [], (fun _ z => nomatch z), by simp only [PyData.shownAll]; exact .nil⟩
theorem rpA_cons {u : Value} {us : List Value} {p : PyData} {ps : List PyData} (a : Rp P w h u p) (b : RpA P w h us ps) : RpA P w h (u :: us) (p :: ps) := by
  obtain ⟨⟨_, r1⟩, xs, m1, k1⟩ := a
  obtain ⟨⟨_, r2⟩, ys, m2, k2⟩ := b
  have e : PyData.depthAll (p :: ps) = max p.depth (PyData.depthAll ps) := by simp only [PyData.depthAll]
  have e2 : PyData.shownAll (p :: ps) = p.shown :: PyData.shownAll ps := by simp only [PyData.shownAll]
  unfold RpA
  rw [e, e2]
  exact ⟨⟨_, .cons r1 r2⟩, xs ++ ys, (m1.mono (Nat.le_max_left ..)).append (m2.mono (Nat.le_max_right ..)), .cons ((k1.more fun b hb => List.mem_append_left _ hb).level_le (Nat.le_max_left ..)) (k2.more_le (fun b hb => List.mem_append_right _ hb) (Nat.le_max_right ..))⟩
/-- what a list's (tuple's, dict's) node wants of its parts -/
theorem rp_node {a : Addr} {p : PyData} {n : Nat} (r : ∃ as, Reads h (.ref a) p as) (e : p.depth = n + 1) {bs : List Addr} (m : ReadAtMost h n bs) : a ∉ bs ∧ ReadAtMost h p.depth (a :: bs) := by
  obtain ⟨_, r⟩ := r
  exact ⟨not_mem_of_deeper r (by rw [e]; exact Nat.lt_succ_self _) m, ReadAtMost.cons r (by rw [e]; exact Nat.le_succ _) m⟩
theorem rp_list {a : Addr} {o : Obj} {its : List Value} {n : Nat} {ps : List PyData} (h1 : h.get? a = some o) (h2 : o.cls = .type "list") (h3 : o.data = .seq its.toArray n) (q : RpA P w h its ps) : Rp P w h (.ref a) (.list ps) := by
  obtain ⟨⟨_, ra⟩, bs, m, k⟩ := q
  have r : ∃ as, Reads h (.ref a) (.list ps) as := ⟨_, .list h1 h2 h3 (by simpa using ra)⟩
  obtain ⟨hn, hm⟩ := rp_node r (by simp only [PyData.depth]) m
  refine ⟨r, a :: bs, hm, ?_⟩
  simp only [PyData.depth, PyData.shown]
  cases its with
  | nil =>
    cases ra
    simp only [PyData.shownAll, listText_nil]
    exact ReprK.listEmpty h1 h2 h3
  | cons x l => exact ReprK.list h1 h2 h3 hn (by have := k.length_eq; simpa using this) fun i y e => k.item i y (by simpa using e)
theorem rp_tuple {a : Addr} {o : Obj} {its : List Value} {n : Nat} {ps : List PyData} (h1 : h.get? a = some o) (h2 : o.cls = .type "tuple") (h3 : o.data = .seq its.toArray n) (q : RpA P w h its ps) : Rp P w h (.ref a) (.tuple ps) := by
  obtain ⟨⟨_, ra⟩, bs, m, k⟩ := q
  have r : ∃ as, Reads h (.ref a) (.tuple ps) as := ⟨_, .tuple h1 h2 h3 (by simpa using ra)⟩
  obtain ⟨hn, hm⟩ := rp_node r (by simp only [PyData.depth]) m
  refine ⟨r, a :: bs, hm, ?_⟩
  simp only [PyData.depth, PyData.shown]
  exact ReprK.tuple h1 h2 h3 hn (by simpa using k)
/-- a dict's entries, keys and values one by one -/
structure RpD (P : Program) (w : World) (h : Heap) (es : List DictEntry) (kvs : List (PyData × PyData)) : Prop where
  r1 : ∃ as, ReadsAll h (es.map (·.key)) (kvs.map (·.1)) as
  r2 : ∃ as, ReadsAll h (es.map (·.val)) (kvs.map (·.2)) as
  k : ∃ bs, ReadAtMost h (PyData.depthKv kvs) bs ∧ ReprEntriesK P w bs h (PyData.depthKv kvs) es (PyData.shownKv kvs)
theorem rpD_nil : RpD P w h [] [] := ⟨⟨_, .nil⟩, ⟨_, .nil⟩, [], (fun _ z => nomatch z), by simp only [PyData.shownKv]; exact .nil⟩
theorem rp_dict {a : Addr} {o : Obj} {es : Array DictEntry} {n : Nat} {kvs : List (PyData × PyData)} (h1 : h.get? a = some o) (h2 : o.cls = .type "dict") (h3 : o.data = .dict es n) (hs : (a == sysModules) = false) (q : RpD P w h es.toList kvs) : Rp P w h (.ref a) (.dict kvs) := by
  obtain ⟨⟨_, r1⟩, ⟨_, r2⟩, bs, m, k⟩ := q
  have r : ∃ as, Reads h (.ref a) (.dict kvs) as := ⟨_, .dict h1 h2 h3 r1 r2⟩
  obtain ⟨hn, hm⟩ := rp_node r (by simp only [PyData.depth]) m
  refine ⟨r, a :: bs, hm, ?_⟩
  simp only [PyData.depth, PyData.shown]
  exact ReprK.dict h1 h2 h3 hs hn k
theorem rp_flat {p : PyData} {u : Value} (r : Reads h u p []) (k : ReprK P w [] h 0 u p.shown) : Rp P w h u p := ⟨⟨_, r⟩, [], (fun _ z => nomatch z), k.level_le (Nat.zero_le _)⟩
end
section
variable {X : Cx} {pins : List (Addr × Obj)} {σ : Sg} {H : Hp} {s : Shared}
theorem rp_non : Rp X.prog X.w s.heap .none .none := rp_flat .none (by simp only [PyData.shown]; exact .of_is ReprIs.none _ _ _)
theorem rp_bl (b : Bool) : Rp X.prog X.w s.heap (.bool b) (.bool b) := rp_flat (.bool b) (by simp only [PyData.shown]; exact .of_is (ReprIs.bool b) _ _ _)
theorem rp_int (i : Int) (t : Tok) (z : (PyData.int i).showable = true) : Rp X.prog X.w s.heap (.int i t) (.int i) := rp_flat (.int i t) (by simp only [PyData.shown]; exact .of_is (ReprIs.int t (by simpa [PyData.showable] using z)) _ _ _)
theorem rp_str (x : Str) (t : Tok) (z : (PyData.str x).shown.length ≤ sizeLine) : Rp X.prog X.w s.heap (.str x t) (.str x) := rp_flat (.str x t) (by simp only [PyData.shown]; exact .of_is (ReprIs.str x t (by simpa only [PyData.shown] using z)) _ _ _)
theorem rp_s0 {d : D} {v : V} {u : Value} (hd : Dt X.K H v d) (r : RelV v u) (f : d.flat = true) (z : d.s0.showable = true) (l : d.s0.shown.length ≤ sizeLine) : Rp X.prog X.w s.heap u d.s0 := by
  cases hd with
  | non => cases r; exact rp_non
  | bl b => cases r; exact rp_bl b
  | int i => obtain ⟨t, rfl⟩ := r; exact rp_int i t z
  | str x => obtain ⟨t, rfl⟩ := r; exact rp_str x t l
  | lst _ _ => cases f
  | tup _ _ => cases f
  | dic _ _ => cases f
  | exc _ _ _ => cases f
theorem rp_key {k : Key} {u : Value} (r : (mixKind X.prog X.w).is k u = true) (z : (pdKey k).showable = true) (l : (pdKey k).shown.length ≤ sizeLine) : Rp X.prog X.w s.heap u (pdKey k) := by
  rcases keyIs_shape (k := k) (v := u) r with ⟨i, t, rfl, rfl⟩ | ⟨x, t, rfl, rfl⟩
  · exact rp_int i t z
  · exact rp_str x t l
theorem rp_ents : ∀ (ds : List (Key × D)) (xs : List (Key × V)) (vs : List (Key × Value)) (es : List DictEntry), DtK X.K H xs ds → KV xs vs → Pairs (mixKind X.prog X.w) es vs → ds.all (fun p => p.2.flat) = true →
    PyData.showableKv (ds.map fun p => (pdKey p.1, p.2.s0)) = true → (∀ t ∈ PyData.shownKv (ds.map fun p => (pdKey p.1, p.2.s0)), t.length ≤ sizeLine) → RpD X.prog X.w s.heap es (ds.map fun p => (pdKey p.1, p.2.s0))
  | [], _, _, _, a, b, c, _, _, _ => by
    cases a
    cases b
    cases c
    exact rpD_nil
  | (k, d) :: ds, _, _, _, a, b, c, f, z, l => by
    cases a with
    | @cons _ v xs _ _ ad ak =>
    cases b with
    | @cons _ y _ ys bd bk =>
    obtain ⟨y1, y2⟩ := y
    obtain ⟨rfl, ry⟩ := bd
    cases c with
    | @cons e _ es _ ck cv cr =>
    simp only [List.all_cons, Bool.and_eq_true] at f
    simp only [List.map_cons, PyData.showableKv, Bool.and_eq_true] at z
    simp only [List.map_cons, PyData.shownKv, List.mem_cons, forall_eq_or_imp] at l
    have lt : ((pdKey k).shown ++ ": " ++ d.s0.shown).length = (pdKey k).shown.length + 2 + d.s0.shown.length := by rw [strLen_append, strLen_append]; rfl
    have l1 : (pdKey k).shown.length ≤ sizeLine := by have := l.1; omega
    have l2 : d.s0.shown.length ≤ sizeLine := by have := l.1; omega
    obtain ⟨⟨_, p1⟩, b1, m1, k1⟩ := rp_key (s := s) (k := k) ck z.1.1 l1
    obtain ⟨⟨_, p2⟩, b2, m2, k2⟩ := rp_s0 (s := s) (u := e.val) ad (by rw [cv]; exact ry) f.1 z.1.2 l2
    obtain ⟨⟨_, r1⟩, ⟨_, r2⟩, b3, m3, k3⟩ := rp_ents ds xs ys es ak bk cr f.2 z.2 l.2
    have dp : PyData.depthKv ((pdKey k, d.s0) :: ds.map fun p => (pdKey p.1, p.2.s0)) = max (max (pdKey k).depth d.s0.depth) (PyData.depthKv (ds.map fun p => (pdKey p.1, p.2.s0))) := by simp only [PyData.depthKv]
    refine ⟨⟨_, .cons p1 r1⟩, ⟨_, .cons p2 r2⟩, b1 ++ (b2 ++ b3), ?_, ?_⟩
    · show ReadAtMost _ (PyData.depthKv ((pdKey k, d.s0) :: ds.map fun p => (pdKey p.1, p.2.s0))) _
      rw [dp]
      exact (m1.mono (by omega)).append ((m2.mono (by omega)).append (m3.mono (by omega)))
    · show ReprEntriesK _ _ _ _ (PyData.depthKv ((pdKey k, d.s0) :: ds.map fun p => (pdKey p.1, p.2.s0))) _ (PyData.shownKv ((pdKey k, d.s0) :: ds.map fun p => (pdKey p.1, p.2.s0)))
      rw [dp]
      simp only [PyData.shownKv]
      refine .cons ((k1.more fun b hb => List.mem_append_left _ hb).level_le (by omega)) ((k2.more fun b hb => List.mem_append_right _ (List.mem_append_left _ hb)).level_le (by omega)) ?_
      have up : ∀ {es : List DictEntry} {ps : List Str}, ReprEntriesK X.prog X.w b3 s.heap (PyData.depthKv (ds.map fun p => (pdKey p.1, p.2.s0))) es ps → ReprEntriesK X.prog X.w (b1 ++ (b2 ++ b3)) s.heap (max (max (pdKey k).depth d.s0.depth) (PyData.depthKv (ds.map fun p => (pdKey p.1, p.2.s0)))) es ps := by
        intro es ps q
        induction q with
        | nil => exact .nil
        | cons x y _ ih => exact .cons ((x.more fun b hb => List.mem_append_right _ (List.mem_append_right _ hb)).level_le (by omega)) ((y.more fun b hb => List.mem_append_right _ (List.mem_append_right _ hb)).level_le (by omega)) ih
      exact up k3
mutual
theorem rpDt (I : L2.Inv X pins σ H s) : ∀ (d : D) (v : V) (u : Value), Dt X.K H v d → RelV v u → d.sh = true → d.pd.showable = true → d.pd.shown.length ≤ sizeLine → Rp X.prog X.w s.heap u d.pd
  | .non, _, _, h, r, _, _, _ => by cases h; cases r; exact rp_non
  | .bl b, _, _, h, r, _, _, _ => by cases h; cases r; exact rp_bl b
  | .int i, _, _, h, r, _, z, _ => by cases h; obtain ⟨t, rfl⟩ := r; exact rp_int i t z
  | .str x, _, _, h, r, _, _, l => by cases h; obtain ⟨t, rfl⟩ := r; exact rp_str x t l
  | .exc _ _, _, _, _, _, f, _, _ => by cases f
  | .lst ds, _, _, h, r, f, z, l => by
    cases h with
    | @lst a xs _ e aa =>
    cases r
    obtain ⟨its, rv, ⟨o, n, ho, hc, _, hd⟩, _⟩ := I.list (SqL.of e)
    have l' : (listText (PyData.shownAll (pdA ds))).length ≤ sizeLine := l
    exact rp_list ho hc hd (rpDtA I ds xs its aa rv f z fun t ht => Nat.le_trans (listText_mem_le ht) l')
  | .tup ds, _, _, h, r, f, z, l => by
    cases h with
    | @tup a xs _ e aa =>
    cases r
    obtain ⟨its, rv, ⟨o, ho, hc, n, hd⟩, _⟩ := I.tuple e
    have l' : (tupleText (PyData.shownAll (pdA ds))).length ≤ sizeLine := l
    exact rp_tuple ho hc hd (rpDtA I ds xs its aa rv f z fun t ht => Nat.le_trans (tupleText_mem_le ht) l')
  | .dic ds, _, _, h, r, f, z, l => by
    cases h with
    | @dic a xs _ e aa =>
    cases r
    obtain ⟨_, lo, vs, rel, o, es, ep, h1, h2, h3, h4, h5, _⟩ := dk_of I.hok e
    have l' : (dictText (PyData.shownKv (ds.map fun p => (pdKey p.1, p.2.s0)))).length ≤ sizeLine := l
    exact rp_dict h1 h2.1 h3 lo (rp_ents ds xs vs es.toList aa rel h5 f z fun t ht => Nat.le_trans (dictText_mem_le ht) l')
theorem rpDtA (I : L2.Inv X pins σ H s) : ∀ (ds : List D) (vs : List V) (us : List Value), DtA X.K H vs ds → Vals vs us → shA ds = true → PyData.showableAll (pdA ds) = true → (∀ t ∈ PyData.shownAll (pdA ds), t.length ≤ sizeLine) → RpA X.prog X.w s.heap us (pdA ds)
  | [], _, _, h, r, _, _, _ => by cases h; cases r; exact rpA_nil
  | d :: ds, _, _, h, r, f, z, l => by
    cases h with
    | cons h1 h2 =>
    cases r with
    | cons r1 r2 =>
    simp only [shA, Bool.and_eq_true] at f
    simp only [pdA, PyData.showableAll, Bool.and_eq_true] at z
    simp only [pdA, PyData.shownAll, List.mem_cons, forall_eq_or_imp] at l
    exact rpA_cons (rpDt I d _ _ h1 r1 f.1 z.1 l.1) (rpDtA I ds _ _ h2 r2 f.2 z.2 l.2)
end
end
/-- what repr can be asked of -/
def D.rd (d : D) : Prop := d.sh = true ∧ d.pd.showable = true ∧ d.pd.shown.length ≤ sizeLine ∧ d.pd.depth ≤ 50
def rReprD (K : PySem.W.Frag) : List V → Hp → VK → Prop := fun xs H Q => ∃ v d, xs = [v] ∧ Dt K H v d ∧ d.rd ∧ Q (.str d.pd.shown) H
theorem call_reprD {X : Cx} (g : X.A.guards = some []) (hu : X.A.units + 64 < cLine) : CallR X (.builtin "repr") (rReprD X.K) := by
  intro pins s σ H xs us Q I r h
  obtain ⟨v, d, rfl, hd, ⟨hp, hs, hz, hdp⟩, q⟩ := h
  obtain ⟨u, rfl, ru⟩ := vals1 r
  have hu2 : X.A.units + (d.pd.depth + 1) < cLine := by omega
  have fin : ∀ h' tk u', (∀ b o, s.heap.get? b = some o → h'.get? b = some o) → EP X pins σ Q (.str d.pd.shown u') { s with heap := h', toks := tk } := fun h' tk u' k => ⟨.str d.pd.shown, H, I.kept k, ⟨u', rfl⟩, q⟩
  have finT : EP X pins σ Q (.str d.pd.shown s.toks) { s with toks := s.toks + 1 } := ⟨.str d.pd.shown, H, I.tok _, ⟨_, rfl⟩, q⟩
  cases hd with
  | non => cases ru; exact PySem.P.repr_of_none finT
  | bl b => cases ru; exact PySem.P.repr_of_bool finT
  | int i =>
    obtain ⟨t, rfl⟩ := ru
    exact PySem.P.repr_of_int (of_decide_eq_true hs) finT
  | str x =>
    obtain ⟨t, rfl⟩ := ru
    exact PySem.P.repr_of_str finT hz
  | @lst a xs ds e aa =>
    cases ru
    obtain ⟨its, rv, ⟨o, n, ho, hc, _, hdt⟩, _⟩ := I.list (SqL.of e)
    have l' : (listText (PyData.shownAll (pdA ds))).length ≤ sizeLine := hz
    obtain ⟨⟨_, ra⟩, bs, m, k⟩ := rpDtA I ds xs its aa rv hp hs fun t ht => Nat.le_trans (listText_mem_le ht) l'
    have rr : ∃ as, Reads s.heap (.ref a) (.list (pdA ds)) as := ⟨_, .list ho hc hdt (by simpa using ra)⟩
    obtain ⟨hn, _⟩ := rp_node rr (by simp only [PyData.depth]) m
    have hu3 : X.A.units + (PyData.depthAll (pdA ds) + 1 + 1) < cLine := hu2
    refine call_repr_slot (by omega) ⟨o, ho, hc⟩ PySem.F.slot_list_repr.toG ?_
    cases its with
    | nil =>
      have e0 : ds = [] := by
        cases ds with
        | nil => rfl
        | cons x y => cases aa with | cons _ _ => cases rv
      subst e0
      exact call_list_repr_empty ⟨o, ho, hc⟩ ho hdt ⟨_, _, rfl, fin s.heap _ _ fun _ _ e => e⟩
    | cons x l =>
      exact call_list_reprK ho hc hdt hn (by have := k.length_eq; simpa using this) (fun i y e => k.item i y (by simpa using e)) g (fun b _ => Clear.nil b) (show X.A.units + 1 + (PyData.depthAll (pdA ds) + 1) < cLine by omega) (fun _ _ e => e) (fun h' u tk kk => ⟨_, _, rfl, fin h' tk u kk⟩) l'
  | @tup a xs ds e aa =>
    cases ru
    obtain ⟨its, rv, ⟨o, ho, hc, n, hdt⟩, _⟩ := I.tuple e
    have l' : (tupleText (PyData.shownAll (pdA ds))).length ≤ sizeLine := hz
    obtain ⟨⟨_, ra⟩, bs, m, k⟩ := rpDtA I ds xs its aa rv hp hs fun t ht => Nat.le_trans (tupleText_mem_le ht) l'
    have rr : ∃ as, Reads s.heap (.ref a) (.tuple (pdA ds)) as := ⟨_, .tuple ho hc hdt (by simpa using ra)⟩
    obtain ⟨hn, _⟩ := rp_node rr (by simp only [PyData.depth]) m
    have hu3 : X.A.units + (PyData.depthAll (pdA ds) + 1 + 1) < cLine := hu2
    refine call_repr_slot (by omega) ⟨o, ho, hc⟩ PySem.F.slot_tuple_repr ?_
    exact call_tuple_reprK ho hc hdt hn (by simpa using k) g (fun b _ => Clear.nil b) (show X.A.units + 1 + (PyData.depthAll (pdA ds) + 1) < cLine by omega) (fun _ _ e => e) (fun h' u tk kk => ⟨_, _, rfl, fin h' tk u kk⟩) l'
  | @dic a xs ds e aa =>
    cases ru
    obtain ⟨_, lo, vs, rel, o, es, ep, h1, h2, h3, h4, h5, _⟩ := dk_of I.hok e
    have l' : (dictText (PyData.shownKv (ds.map fun p => (pdKey p.1, p.2.s0)))).length ≤ sizeLine := hz
    obtain ⟨⟨_, r1⟩, ⟨_, r2⟩, bs, m, k⟩ := rp_ents (s := s) ds xs vs es.toList aa rel h5 hp hs fun t ht => Nat.le_trans (dictText_mem_le ht) l'
    have rr : ∃ as, Reads s.heap (.ref a) (.dict (ds.map fun p => (pdKey p.1, p.2.s0))) as := ⟨_, .dict h1 h2.1 h3 r1 r2⟩
    obtain ⟨hn, _⟩ := rp_node rr (by simp only [PyData.depth]) m
    have hu3 : X.A.units + (PyData.depthKv (ds.map fun p => (pdKey p.1, p.2.s0)) + 1 + 1) < cLine := hu2
    refine call_repr_slot (by omega) ⟨o, h1, h2.1⟩ PySem.F.slot_dict_repr ?_
    exact call_dict_reprK h1 h2.1 h3 lo hn k g (fun b _ => Clear.nil b) (show X.A.units + 1 + (PyData.depthKv (ds.map fun p => (pdKey p.1, p.2.s0)) + 1) < cLine by omega) (fun _ _ e => e) (fun h' u tk kk => ⟨_, _, rfl, fin h' tk u kk⟩) l'
  | exc _ _ _ => cases hp
end TSx

/-! Own layer, part 7: an own class over OverflowError, made as a value. -/
namespace TSx
open PySem L2 PySem.Spec PyProof.Rows
abbrev ofTail : List Value := [.type "OverflowError", .type "ArithmeticError", .type "Exception", .type "BaseException", .type "object"]
structure OofC (K : PySem.W.Frag) (C : Addr) : Prop where
  cls : ∃ nm q N bs bm sn sub ab col dd k0 k1 k2 k3 k5, K.lookup C = some (excClassObj nm q C N bs bm true sn sub ab col dd k0 k1 k2 k3 k5 "OverflowError.__new__") ∧ PySem.W.excTail ofTail bm = true
  sa : PySem.W.findIn K (.ref C) "__setattr__" = some (some (.builtin "object.__setattr__"))
  kC : PySem.W.keepIn K (.ref C) = true
section
open Builtin Builtin.ObjectAttr
variable {prog : Program} {w : World} {A : Around} {R : Result → Shared → Prop} {hp : Heap} {g : Array GenState} {d : Drawn} {t : Nat} {os : OsState}
theorem of_store {K : PySem.W.Frag} {f : Str} {tk : Tok} {u : Value} {x C : Addr} {fv : Array Value} (T : OofC K C) (X : K.In hp) (at1 : hp.get? x = some { cls := .ref C, data := .fields fv }) (no : PySem.W.findIn K (.ref C) f = some none)
    (k : ∀ h' tk' dx, (∀ b o, b ≠ x → hp.get? b = some o → h'.get? b = some o) → hp.objs.size ≤ dx → dx ≠ x → h'.get? x = some { cls := .ref C, dict := some dx, data := .fields fv } →
      h'.Ns1 dx (fun y => if y = f then some u else none) → R (.ok (.ret .none)) ⟨h', g, d, tk', os⟩) :
    codeAny (model prog w) A (.call (.builtin "object.__setattr__") ⟨[.ref x, .str f tk, u], []⟩) R ⟨hp, g, d, t, os⟩ := by
  obtain ⟨nm, q, N, bs, bm, sn, sub, ab, col, dd, k0, k1, k2, k3, k5, hC, hbm⟩ := T.cls
  have hcl : PySem.W.clsIn K C = some { name := nm, bases := bs, mro := .ref C :: bm, ns := N, qualname := q, hasDict := true, slotNames := sn, subclasses := sub, abstract := ab, collection := col, hasDel := false } := by unfold PySem.W.clsIn; rw [hC] <;> rfl
  have over : PySem.W.excOver K C ofTail = true := by
    unfold PySem.W.excOver
    rw [hcl]
    show (C == C && PySem.W.excTail ofTail bm) = true
    rw [hbm, beq_self_eq_true]
    rfl
  have I : PySem.W.InstAt hp x { cls := .ref C, data := .fields fv } C none := ⟨at1, rfl, rfl, trivial⟩
  have look : PySem.W.Looks (model prog w) hp (classData C) _ := PySem.W.looks_clsIn X hcl
  have ne : x ≠ hp.objs.size := Nat.ne_of_lt (Heap.lt_size at1)
  refine PySem.W.osa_openX PySem.F.store_OverflowError X I over (r := none) (by unfold PySem.W.takerIn; rw [no]; rfl) fun b => ?_
  show wpAny _ _ (storeInOwnDict (.ref x) (.ref C) (.str f tk) f u b) _ _ _
  unfold storeInOwnDict ownDictForStores
  cases b
  all_goals
    repeat (first
      | with_reducible refine PySem.HandSPX.store_in_new ?_ ?_
      | with_reducible refine wpAny_loadPart_at at1 ?_
      | with_reducible refine look.at ?_
      | wp_step)
  all_goals first
    | exact ⟨_, #[], _, (Heap.get?_update_ne _ _ _ _ ne.symm).trans (Heap.get?_push_at rfl rfl), rfl, fun e he => absurd he (by simp), fun _ => rfl⟩
    | (intro h' tk' hn' hs
       have a2 : (hp.push { cls := .type "dict", data := .dict #[] }).get? x = some { cls := .ref C, data := .fields fv } := Heap.get?_push_of_some _ at1
       refine k h' tk' hp.objs.size (fun b o hb ho => ?_) (Nat.le_refl _) ne.symm ?_ hn'
       · exact (hs.2 b (Nat.ne_of_lt (Heap.lt_size ho))).trans ((Heap.get?_update_ne _ _ _ _ hb).trans (Heap.get?_push_of_some _ ho))
       · exact (hs.2 x ne).trans (Heap.get?_update_self _ a2 rfl))
end
section
variable {X : Cx} {pins : List (Addr × Obj)} {σ : Sg} {H : Hp} {s : Shared} {a C dx : Addr} {f : Str} {y : V} {u : Value} {fs : List (Str × V)} {Q : Unit → Shared → Prop} {E : Value → Shared → Prop} {A : Around}
/-- self.f = y, the first field -/
theorem of_new (T : OofC X.K C) (I : L2.Inv X pins σ H s) (e : H a = some (exo a C none)) (no : PySem.W.findIn X.K (.ref C) f = some none) (ry : RelV y u)
    (k : ∀ dx s', H dx = none → dx ≠ a → L2.Inv X pins σ (upd (upd H dx (exd dx [(f, y)])) a (exo a C (some dx))) s' → Q () s') : wpAny (model X.prog X.w) A (setAttr (.ref a) f u) Q E s := by
  obtain ⟨t1, ho⟩ := exo_at I.hok e
  obtain ⟨hp, g, d, t, os⟩ := s
  refine PySem.W.set_plain I.kIn (ox := { cls := .ref C, dict := none, data := .fields #[.ref t1, .none, .none, .none, .bool false, .none] }) (od := none) ⟨ho, rfl, rfl, trivial⟩ T.sa ?_
  refine of_store T I.kIn ho no fun h' tk' dx keep dn dne hx hn => ?_
  have free : H dx = none := I.hok.fresh dn
  have far : ∀ {b : Addr} {o : Obj}, hp.get? b = some o → b ≠ dx := fun {b o} q => Nat.ne_of_lt (Nat.lt_of_lt_of_le (Heap.lt_size q) dn)
  have away : ∀ {b : Addr}, H b = none → b ≠ a := fun {b} n z => by rw [z, e] at n; cases n
  have U : Un X.fs [] H (upd (upd H dx (exd dx [(f, y)])) a (exo a C (some dx))) hp h' := {
    keep := fun b o q n _ _ => keep b o (away n) q
    slot := fun b o q n _ _ => ⟨o.slots, keep b o (away n) q⟩
    free := fun b o q n _ => by rw [upd_ne (away n), upd_ne (far q)]; exact n
    there := fun b o q _ => by
      by_cases hb : b = a
      · rw [hb]; exact ⟨_, hx⟩
      · exact ⟨o, keep b o hb q⟩
    tups := fun b xs q => by rw [upd_ne (at_ne e q exo_tup), upd_ne (ne_of_none q free)]; exact q
    frzs := fun b o v q => by rw [upd_ne (at_ne e q exo_frz), upd_ne (ne_of_none q free)]; exact q
    tbls := fun b ps q => ⟨#[], by rw [upd_ne (at_ne e q exo_tbl), upd_ne (ne_of_none q free), q]; simp⟩ }
  refine k dx _ free dne (I.un (t' := tk') U fun b o q => ?_)
  by_cases hb : b = a
  · subst hb
    rw [upd_same] at q
    cases q
    exact exo_ok hx
  rw [upd_ne hb] at q
  by_cases hd : b = dx
  · subst hd
    rw [upd_same] at q
    cases q
    exact exd_ok hn (relO_put (fs := []) ry fun g => True.intro)
  rw [upd_ne hd] at q
  refine (I.hok b o q).stay (fun c v hc z => keep c v ?_ z) (fun c hc => ?_) (fun c xs hc => ?_)
  · rcases hc with hc | hc
    · rw [hc]; exact hb
    · exact at_ne e hc exo_own
  · rw [upd_ne (at_ne e hc exo_own), upd_ne (ne_of_none hc free)]; exact hc
  · rw [upd_ne (at_ne e hc exo_tup), upd_ne (ne_of_none hc free)]; exact hc
end
/-- self.f = e in such a class's __init__ -/
def tOfS (K : PySem.W.Frag) (f : Str) (to te : TE) : TS := fun D σ H => te σ H fun y H1 => to σ H1 fun x H2 => ∃ a C : Addr, x = .ref a ∧ OofC K C ∧ PySem.W.findIn K (.ref C) f = some none ∧
  H2 a = some (exo a C none) ∧ ∀ dx, H2 dx = none → dx ≠ a → D.nx σ (upd (upd H2 dx (exd dx [(f, y)])) a (exo a C (some dx)))
section
variable {X : Cx} {CX : CXT} {x : Str} {C fI : Addr} {k : Nat} {fd : FuncData} {ps : List Str} {sp : Sp} {p p' pos : Pos} {o e : Expr} {es : List Expr} {ta : TA} {to te : TE} {f : Str}
theorem ps_ofS (ho : PE X o to) (he : PE X e te) (hs : swapsWith e (some (.Attribute o f p')) pos.line X.env = pure false := by rfl) : PS X (.Assign [.Attribute o f p'] e pos) (tOfS X.K f to te) := by
  constructor
  intro pins s σ H D I h
  refine plainObj_wpAny_Assign_Attribute (thn (he.run pins s σ H _ I h) fun v s1 z => ?_) hs
  obtain ⟨y, H1, I1, r1, q1⟩ := z
  refine thn (ho.run pins s1 σ H1 _ I1 q1) fun u s2 z => ?_
  obtain ⟨x, H2, I2, r2, a, C, ex, T, no, ea, q⟩ := z
  subst ex
  obtain rfl : u = Value.ref a := r2
  exact of_new T I2 ea no r1 fun dx s' n ne J => ⟨σ, _, J, q dx n ne⟩
theorem madeO {pins : List (Addr × Obj)} {σ : Sg} {H1 : Hp} {s : Shared} {Q : VK} {us : List Value} {vs : List V} (T : OofC X.K C) (iC : PySem.W.findIn X.K (.ref C) "__init__" = some (some (.ref fI))) (tI : PySem.W.typeIn X.K (.ref fI) = some (.type "function"))
    (F1 : FnOk X.prog X.w X.K X.mg X.base CX k fI fd ps sp) (hr : Room (k + 1) X.A) (hb : Binds X.K fd ps []) (hx : Passes CX X (fun _ _ _ => False)) (I1 : L2.Inv X pins σ H1 s) (r1 : Vals vs us) (hz : vs.length ≤ 1000)
    (q1 : ∀ a, H1 a = none → sp (.ref a :: vs) (upd H1 a (exo a C none)) (fun v H2 => v = .non ∧ ∃ (d : Addr) (fs : List (Str × V)), H2 a = some (exo a C (some d)) ∧ H2 d = some (exd d fs) ∧ Q (.ref a) (upd (upd H2 a (exq a C d)) d (.xd fs))) (fun _ _ _ => False)) :
    wpAny (model X.prog X.w) X.A (call (.ref C) us) (EP X pins σ Q) X.xe s := by
  obtain ⟨nm, q, N, bs, bm, sn, sub, ab, col, dd, k0, k1, k2, k3, k5, hC, hbm⟩ := T.cls
  obtain ⟨hp, g, dr, tk, os⟩ := s
  have nw : H1 (hp.objs.size + 1) = none := I1.hok.fresh (Nat.le_succ _)
  have want := q1 _ nw
  have keep2 : ∀ b o, hp.get? b = some o → ((hp.push (PySem.W.kdv_tup us)).push (PySem.HandSPX.excO C hp.objs.size)).get? b = some o := by
    intro b o e
    exact Heap.get?_push_of_some _ (Heap.get?_push_of_some _ e)
  have there : ((hp.push (PySem.W.kdv_tup us)).push (PySem.HandSPX.excO C hp.objs.size)).get? (hp.objs.size + 1) = some (PySem.HandSPX.excO C hp.objs.size) := by heap_get
  have I2 : L2.Inv X pins σ (upd H1 (hp.objs.size + 1) (exo (hp.objs.size + 1) C none)) ⟨(hp.push (PySem.W.kdv_tup us)).push (PySem.HandSPX.excO C hp.objs.size), g, dr, tk, os⟩ :=
    I1.laid (t' := tk) keep2 (Nat.le_succ _) (exo_ok there)
  have r2 : Vals (V.ref (hp.objs.size + 1) :: vs) (Value.ref (hp.objs.size + 1) :: us) := .cons rfl r1
  have cnt : (Value.ref (hp.objs.size + 1) :: us).length = ps.length := by rw [← r2.length]; exact F1.len _ _ _ _ want
  have few : us.length ≤ sizeLine := by
    have := Paired.length r1
    rw [sizeLine_eq]
    omega
  have bd := hb _ (Value.ref (hp.objs.size + 1) :: us) I2.kIn (by rw [List.append_nil]; exact cnt)
  rw [List.append_nil] at bd
  refine wpAny_call (PySem.HandSPX.call_own PySem.F.excBase_OverflowError (fun Y => PySem.W.excTail_contains Y bm hbm) (I1.kIn _ _ hC) (PySem.W.looks_findIn I1.kIn iC) (fun self => PySem.W.bind_fn I1.kIn self tI) few ?_)
  refine codeAny_mono (F1.run _ X.stack _ _ ⟨Value.ref (hp.objs.size + 1) :: us, []⟩ (Value.ref (hp.objs.size + 1) :: us) _ _ (fun _ _ _ => False) (hr.make C us []) (I2.env0.make C us []) bd r2 want) fun o s' z => ?_
  match o, z with
  | .error er, z => exact hx pins σ _ _ er s' I2 z
  | .ok .next, z => exact False.elim z
  | .ok .brk, z => exact False.elim z
  | .ok .cont, z => exact False.elim z
  | .ok (.ret u), z =>
    obtain ⟨v, H2, os2, bare2, un2, ok2, rv, ev, d, fs, ea, ed, qq⟩ := z
    subst ev
    refine ⟨rv, ?_⟩
    obtain ⟨h2, g2, d2, t2, os'⟩ := s'
    have os2' : os' = os := os2
    subst os2'
    have J : L2.Inv X pins σ H2 ⟨h2, g2, d2, t2, os'⟩ := I2.call (h' := h2) (g' := g2) (d' := d2) (t' := t2) (ch := []) un2 ok2 bare2 (fun b z => absurd z (by simp))
    obtain ⟨t0, hoe⟩ := exo_at J.hok ea
    obtain ⟨mA, hns, rel⟩ := exd_at J.hok ed
    have nd : d ≠ hp.objs.size + 1 := fun z => by
      obtain ⟨o, es', ep, e1, e2, _⟩ := hns
      rw [z] at e1
      have e3 := hoe.symm.trans e1
      cases e3
      cases e2
    have J2 := Inv.retell (o := exq (hp.objs.size + 1) C d) J ea True.intro (exq_ok hoe ⟨rfl, rfl⟩ rfl)
    have J3 := Inv.retell (o := .xd fs) (u := exd d fs) J2 (by rw [upd_ne nd]; exact ed) True.intro ⟨mA, hns, rel⟩
    exact ⟨.ref _, _, J3, rfl, qq⟩
theorem pe_mkO (T : OofC X.K C) (iC : PySem.W.findIn X.K (.ref C) "__init__" = some (some (.ref fI))) (tI : PySem.W.typeIn X.K (.ref fI) = some (.type "function"))
    (F1 : FnOk X.prog X.w X.K X.mg X.base CX k fI fd ps sp) (hr : Room (k + 1) X.A) (hb : Binds X.K fd ps []) (hx : Passes CX X (fun _ _ _ => False)) (hm : X.mg x = some (.ref C)) (ha : PA X (e :: es) ta) (hg : Gl X x := by rfl)
    (hdb : (x == ("__debug__" : Str)) = false := by decide) (he : starEach (e :: es) X.env = (false, eval e X.env) :: starEach es X.env := by rfl) (hpl : (backTo pos (starEach es X.env)).any (·.1) = false := by rfl) :
    PE X (.Call (.Name x p) (e :: es) [] pos) (tMkX C sp ta) := by
  constructor
  intro pins s σ H Q I h
  refine wpAny_Call_Name_kw (ld_glob I hg hm ?_ hdb)
  refine PySem.W.callWith_K (h₀ := X.base) I.ok.mod.kin T.kC (thn (ha.run pos pins s σ H _ I h) fun us s1 z => ?_) he hpl
  obtain ⟨vs, H1, I1, r1, hz, q1⟩ := z
  exact ⟨I1.kIn, madeO T iC tI F1 hr hb hx I1 r1 hz q1⟩
end
end TSx

/-! Own layer, part R: one step of a reading each, by name. -/
namespace TSx
open PySem L2
section
variable {σ : Sg} {H : Hp} {Q : VK} {ta tb : TE} {v : V} {i j : Int} {n : Nat}
theorem r_v (h : σ[n]? = some (some v)) (q : Q v H) : tVar n σ H Q := ⟨v, h, q⟩
theorem r_c (q : Q v H) : tC v σ H Q := q
theorem r_op {r : R2} (q : ta σ H fun x H1 => tb σ H1 fun y H2 => r x y H2 Q) : tOp r ta tb σ H Q := q
theorem r_I {C : Int → Int → Prop} {g : Int → Int → V} (hc : C i j) (q : Q (g i j) H) : rI C g (.int i) (.int j) H Q := ⟨i, j, rfl, rfl, hc, q⟩
theorem r_I0 {g : Int → Int → V} (q : Q (g i j) H) : rI0 g (.int i) (.int j) H Q := ⟨i, j, rfl, rfl, q⟩
theorem r_cb {r : List V → Hp → VK → Prop} {t : TA} (q : t σ H fun vs H1 => r vs H1 Q) : tCB r t σ H Q := q
theorem r_nil {Q : List V → Hp → Prop} (q : Q [] H) : tNil σ H Q := q
theorem r_cons {Q : List V → Hp → Prop} {tr : TA} (q : ta σ H fun x H1 => tr σ H1 fun xs H2 => Q (x :: xs) H2) : tCons ta tr σ H Q := q
theorem r_seq {t u : TS} {D : Ends} (q : t { D with nx := u D } σ H) : tSeq t u D σ H := q
theorem r_next {D : Ends} (q : D.nx σ H) : tNext D σ H := q
theorem r_asg {D : Ends} {te : TE} {g : TG} (q : te σ H fun x H1 => g x σ H1 D.nx) : tAsg te g D σ H := q
theorem r_name {Q : Sg → Hp → Prop} (q : Q (σ.set n (some v)) H) : gName n v σ H Q := q
theorem r_ret {D : Ends} {te : TE} (q : te σ H D.rt) : tRet te D σ H := q
theorem r_drop {D : Ends} {te : TE} (q : te σ H fun _ H1 => D.nx σ H1) : tDrop te D σ H := q
theorem r_if {D : Ends} {c : TT} {t u : TS} (q : c σ H fun b H1 => if b = true then t D σ H1 else u D σ H1) : tIfS c t u D σ H := q
theorem r_test {Q : Bool → Hp → Prop} {te : TE} (q : te σ H fun x H' => ∃ k, x = .bl k ∧ Q k H') : tTest te σ H Q := q
theorem r_tb {Q : Bool → Hp → Prop} {te : TE} (q : te σ H fun x H' => ∃ k, x = .bl k ∧ Q k H') : tB te σ H Q := q
theorem r_tup {t : TA} (q : t σ H fun xs H1 => xs.length ≤ sizeLine ∧ ∀ p, H1 p = none → Q (.ref p) (upd H1 p (.tup xs))) : tTup t σ H Q := q
theorem r_lst {t : TA} (q : t σ H fun xs H1 => xs.length ≤ sizeLine ∧ ∀ p, H1 p = none → Q (.ref p) (upd H1 p (.lst xs))) : tLst t σ H Q := q
theorem r_bl {b : Bool} {P : Bool → Prop} (q : P b) : ∃ k, V.bl b = .bl k ∧ P k := ⟨b, rfl, q⟩
theorem r_call {sp : Sp} {E : XK} {t : TA} (q : t σ H fun vs H1 => sp (vs ++ []) H1 Q E) : tCall sp [] E t σ H Q := q
theorem r_int_ (q : Q (.int i) H) : (∃ k, [V.int i] = [.int k] ∧ Q (.int k) H) ∨ ∃ k, [V.int i] = [.bl k] ∧ Q (.int (if k then 1 else 0)) H := Or.inl ⟨i, rfl, q⟩
end
theorem r_yes {σ : Sg} {H : Hp} {A B : Bool → Hp → Prop} (q : A true H) : tYes σ H (fun b H3 => if b = true then A b H3 else B b H3) := by
  show if true = true then A true H else B true H
  exact iteT q
theorem r_ixL {K : PySem.W.Frag} {p : Addr} {xs : List V} {i : Int} {v : V} {H : Hp} {Q : VK} (h : H p = some (.lst xs)) (a : atI xs i = some v) (q : Q v H) : rIxL K (.ref p) (.int i) H Q := ⟨p, xs, i, v, rfl, rfl, SqL.of h, a, q⟩
theorem r_setL {p : Addr} {xs : List V} {i : Int} {j : Nat} {v : V} {H : Hp} {Q : Hp → Prop} (h : H p = some (.lst xs)) (a : ixN xs.length i = some j) (q : Q (upd H p (.lst (xs.set j v)))) : rSetL (.ref p) (.int i) v H Q := ⟨p, xs, i, j, rfl, rfl, h, a, q⟩
theorem r_sub {to ti : TE} {t : TSet} {v : V} {σ : Sg} {H : Hp} {Q : Sg → Hp → Prop} (q : to σ H fun o H1 => ti σ H1 fun i H2 => t o i v H2 fun H3 => Q σ H3) : gSub to ti t v σ H Q := q
/-- int(i), i an int -/
def rInt : List V → Hp → VK → Prop := fun xs H Q => ∃ i, xs = [.int i] ∧ Q (.int i) H
theorem call_intI {X : Cx} : CallR X (.type "int") rInt := fun pins s σ H xs us Q I r h => by
  obtain ⟨i, e, q⟩ := h
  exact call_int1 pins s σ H xs us Q I r (Or.inl ⟨i, e, q⟩)
theorem r_int1 {H : Hp} {Q : VK} {i : Int} (q : Q (.int i) H) : rInt [.int i] H Q := ⟨i, rfl, q⟩
theorem r_mul {i j : Int} {g : Int → Int → V} {H : Hp} {Q : VK} (h : CMul i j) (q : Q (g i j) H) : rI CMul g (.int i) (.int j) H Q := ⟨i, j, rfl, rfl, h, q⟩
theorem r_div {i j : Int} {g : Int → Int → V} {H : Hp} {Q : VK} (h : CDiv i j) (q : Q (g i j) H) : rI CDiv g (.int i) (.int j) H Q := ⟨i, j, rfl, rfl, h, q⟩
theorem r_mod {i j : Int} {g : Int → Int → V} {H : Hp} {Q : VK} (h : 0 < j) (q : Q (g i j) H) : rI (fun _ j => 0 < j) g (.int i) (.int j) H Q := ⟨i, j, rfl, rfl, h, q⟩
theorem r_pow {i j : Int} {g : Int → Int → V} {H : Hp} {Q : VK} (h : CPow i j) (q : Q (g i j) H) : rI CPow g (.int i) (.int j) H Q := ⟨i, j, rfl, rfl, h, q⟩
theorem cmL {i j : Int} (h1 : -(2 ^ 64) < i) (h2 : i < 2 ^ 64) : CMul i j := Or.inl ⟨h1, h2⟩
theorem cmR {i j : Int} (h1 : -(2 ^ 64) < j) (h2 : j < 2 ^ 64) : CMul i j := Or.inr ⟨h1, h2⟩
theorem cdv {i j : Int} (h1 : 0 < j) (h2 : j < 1073741824) : CDiv i j := ⟨h1, h2⟩
theorem sz1 {n : Nat} (h : n ≤ 100000) : n ≤ sizeLine := Nat.le_trans h (by decide)
theorem sz2 {n : Nat} (h : n < 100000) : n < sizeLine := Nat.lt_of_lt_of_le h (by decide)
end TSx

/-! Own layer, part R2: the law's drawn state: a dict with two lists of ints and a count. -/
namespace TSx
open PySem L2
/-- 64 ints, each below the great number -/
structure Cells (cs : List Int) : Prop where
  len : cs.length = 64
  low : ∀ c ∈ cs, 0 ≤ c ∧ c < 2147483647
theorem Cells.set {cs : List Int} (h : Cells cs) (i : Nat) {x : Int} (h0 : 0 ≤ x) (h1 : x < 2147483647) : Cells (cs.set i x) := ⟨by rw [List.length_set]; exact h.len, fun c hc => by
  rcases List.mem_or_eq_of_mem_set hc with z | z
  · exact h.low c z
  · subst z; exact ⟨h0, h1⟩⟩
theorem map_set {cs : List Int} {i : Nat} {x : Int} : (cs.map V.int).set i (.int x) = (cs.set i x).map V.int := by rw [List.map_set]
theorem at_int {cs : List Int} {i : Nat} (h : i < cs.length) : ∃ c, c ∈ cs ∧ atI (cs.map V.int) (i : Int) = some (.int c) := by
  refine ⟨cs[i], List.getElem_mem h, atI_nat ?_⟩
  rw [List.getElem?_map, List.getElem?_eq_getElem h]
  rfl
theorem ixN_int {n i : Nat} (h : i < n) : ixN n (i : Int) = some i := by
  unfold ixN
  rw [if_pos (by omega), if_pos (by omega)]
  simp
theorem same_new {H : Hp} {p : Addr} {o : HO} (n : H p = none) : Same H (upd H p o) := gr_new n
theorem same_mut {H H' : Hp} {p : Addr} {o : HO} (s : Same H H') (n : H p = none) : Same H (upd H' p o) := fun b u e => by rw [upd_ne (ne_of_none e n)]; exact s b u e

def kvM (c g : Addr) (n : Int) : List (Key × V) := [(Sum.inr "cells", .ref c), (Sum.inr "great", .ref g), (Sum.inr "spot", .int n)]
theorem kvM_cells {c g : Addr} {n : Int} : valV (kvM c g n) (Sum.inr "cells") = some (.ref c) := by rfl
theorem kvM_great {c g : Addr} {n : Int} : valV (kvM c g n) (Sum.inr "great") = some (.ref g) := by rfl
theorem kvM_spot {c g : Addr} {n : Int} : valV (kvM c g n) (Sum.inr "spot") = some (.int n) := by rfl
theorem kvM_put {c g : Addr} {n k : Int} : putK (kvM c g n) (Sum.inr "spot") (.int k) = kvM c g k := by rfl
/-- at m the law's state: r draws may come yet -/
structure MAt (m c g : Addr) (H : Hp) (r : Nat) : Prop where
  ex : ∃ (n : Nat) (cs gs : List Int), H m = some (.dK (kvM c g n)) ∧ H c = some (.lst (cs.map V.int)) ∧ H g = some (.lst (gs.map V.int)) ∧ Cells cs ∧ gs.length ≤ 63 ∧ n + r ≤ 536870912
  ne : c ≠ g
/-- all but m and g stays -/
def Kp (m g : Addr) (H H' : Hp) : Prop := ∀ b o, b ≠ m → b ≠ g → H b = some o → H' b = some o
theorem Kp.rf {m g : Addr} {H : Hp} : Kp m g H H := fun _ _ _ _ e => e
theorem Kp.tr {m g : Addr} {H H1 H2 : Hp} (a : Kp m g H H1) (b : Kp m g H1 H2) : Kp m g H H2 := fun x o h1 h2 e => b x o h1 h2 (a x o h1 h2 e)
theorem Kp.of {m g : Addr} {H H' : Hp} (a : Same H H') : Kp m g H H' := fun b o _ _ e => a b o e
theorem MAt.same {m c g : Addr} {H H' : Hp} {r : Nat} (h : MAt m c g H r) (s : Same H H') : MAt m c g H' r := by
  obtain ⟨⟨n, cs, gs, h1, h2, h3, h4⟩, ne⟩ := h
  exact ⟨⟨n, cs, gs, s _ _ h1, s _ _ h2, s _ _ h3, h4⟩, ne⟩
theorem MAt.less {m c g : Addr} {H : Hp} {r q : Nat} (h : MAt m c g H r) (l : q ≤ r) : MAt m c g H q := by
  obtain ⟨⟨n, cs, gs, h1, h2, h3, h4, h5, h6⟩, ne⟩ := h
  exact ⟨⟨n, cs, gs, h1, h2, h3, h4, h5, by omega⟩, ne⟩
theorem r_dget {td ty : TE} {σ : Sg} {H : Hp} {Q : VK} (q : td σ H fun x H1 => ty σ H1 fun y H2 => ∃ a v, x = .ref a ∧ DGet H2 a y (some v) ∧ Q v H2) : tDGet td ty σ H Q := q
theorem r_dg {a : Addr} {y v : V} {H : Hp} {Q : VK} (h : DGet H a y (some v)) (q : Q v H) : ∃ b u, V.ref a = .ref b ∧ DGet H b y (some u) ∧ Q u H := ⟨a, v, rfl, h, q⟩
theorem r_len {K : PySem.W.Frag} {p : Addr} {xs : List V} {H : Hp} {Q : VK} (h : H p = some (.lst xs)) (q : Q (.int xs.length) H) : ∃ b ys, [V.ref p] = [.ref b] ∧ (SqL K H b ys ∨ SqT K H b ys) ∧ Q (.int ys.length) H := ⟨p, xs, rfl, Or.inl (SqL.of h), q⟩
theorem r_dput {td ty tv : TE} {D : Ends} {σ : Sg} {H : Hp} (q : tv σ H fun v H1 => td σ H1 fun x H2 => ty σ H2 fun y H3 => ∃ a H4, x = .ref a ∧ DPut H3 a y v H4 ∧ D.nx σ H4) : sDPut td ty tv D σ H := q
theorem r_ifT {A B : Prop} {b : Bool} (h : b = true) (q : A) : if b = true then A else B := by rw [if_pos h]; exact q
theorem r_ifF {A B : Prop} {b : Bool} (h : b = false) (q : B) : if b = true then A else B := by rw [h]; exact iteF q
theorem dg_cells {m c g : Addr} {n : Int} {H : Hp} (h : H m = some (.dK (kvM c g n))) : DGet H m (.str "cells") (some (.ref c)) := by rw [← kvM_cells (c := c) (g := g) (n := n)]; exact DGet.k (k := Sum.inr "cells") h
theorem dg_great {m c g : Addr} {n : Int} {H : Hp} (h : H m = some (.dK (kvM c g n))) : DGet H m (.str "great") (some (.ref g)) := by rw [← kvM_great (c := c) (g := g) (n := n)]; exact DGet.k (k := Sum.inr "great") h
theorem dg_spot {m c g : Addr} {n : Int} {H : Hp} (h : H m = some (.dK (kvM c g n))) : DGet H m (.str "spot") (some (.int n)) := by rw [← kvM_spot (c := c) (g := g) (n := n)]; exact DGet.k (k := Sum.inr "spot") h
theorem dp_spot {m c g : Addr} {n k : Int} {H : Hp} (h : H m = some (.dK (kvM c g n))) : DPut H m (.str "spot") (.int k) (upd H m (.dK (kvM c g k))) := by
  rw [← kvM_put (c := c) (g := g) (n := n) (k := k)]
  exact DPut.k (k := Sum.inr "spot") h (show 3 < sizeLine by decide)
/-- a draw below a limit -/
def spDraw : Sp := fun vs H Q _ => ∃ (m c g : Addr) (r : Nat) (limit : Int), vs = [.ref m, .int limit] ∧ 0 < limit ∧ limit < 1073741824 ∧ MAt m c g H (r + 1) ∧
  ∀ (v : Int) (H' : Hp), 0 ≤ v → v < limit → MAt m c g H' r → Kp m g H H' → Q (.int v) H'
def spMixed : Sp := fun vs H Q _ => ∃ c n : Int, vs = [.int c, .int n] ∧ 0 ≤ c ∧ c < 2 ^ 40 ∧ 0 ≤ n ∧ n < 2 ^ 30 ∧ ∀ v : Int, 0 ≤ v → v < 2 ^ 31 → Q (.int v) H
def spFolded (K : PySem.W.Frag) : Sp := fun vs H Q _ => ∃ (a : Addr) (ns : List Int), vs = [.ref a] ∧ SqL K H a (ns.map V.int) ∧ ns.length ≤ 63 ∧
  ∀ (H' : Hp) (p : Addr) (cs : List Int), H p = none → Same H H' → Cells cs → H' p = some (.lst (cs.map V.int)) → Q (.ref p) H'
def spBegun (K : PySem.W.Frag) : Sp := fun vs H Q _ => ∃ (a : Addr) (ns : List Int), vs = [.ref a] ∧ SqL K H a (ns.map V.int) ∧ ns.length ≤ 63 ∧
  ∀ (H' : Hp) (m c g : Addr), Same H H' → H m = none → H c = none → H g = none → MAt m c g H' 536870912 → Q (.ref m) H'
/-- names of the built-ins that the prelude calls, none of them stored over -/
structure Blt (mg : Str → Option Value) : Prop where
  int : mg "int" = none
  len : mg "len" = none
  range : mg "range" = none
  enumerate : mg "enumerate" = none
  repr : mg "repr" = none
  isinstance : mg "isinstance" = none
  list : mg "list" = none
/-- what == finds of a list of ints and the empty one -/
theorem eqv_nil (gs : List Int) : PyData.eqv (.list (pyA (gs.map D.int))) (.list []) = gs.isEmpty := by
  cases gs with
  | nil => rfl
  | cons a l => rfl
theorem dts {K : PySem.W.Frag} {H : Hp} : ∀ gs : List Int, DtA K H (gs.map V.int) (gs.map D.int)
  | [] => .nil
  | n :: l => .cons (.int n) (dts l)
theorem pl_ints : ∀ gs : List Int, plA (gs.map D.int) = true
  | [] => rfl
  | n :: l => pl_ints l
mutual
theorem lay_pl : ∀ d : D, d.pl = true → d.py.canLay0 = true
  | .non, _ => rfl
  | .bl _, _ => rfl
  | .int _, _ => rfl
  | .str _, h => h
  | .lst xs, h => layA_pl xs h
  | .tup xs, h => layA_pl xs h
  | .dic _, h => by cases h
  | .exc _ _, h => by cases h
theorem layA_pl : ∀ d : List D, plA d = true → PyData.canLayAll0 (pyA d) = true
  | [], _ => rfl
  | x :: xs, h => by
    simp only [plA, Bool.and_eq_true] at h
    show (x.py.canLay0 && PyData.canLayAll0 (pyA xs)) = true
    rw [lay_pl x h.1, layA_pl xs h.2]; rfl
end
theorem shaped_pl (d : D) (h : d.pl = true) (z : d.py.depth ≤ 64) : SeqAt.shaped d.py = true := by
  unfold SeqAt.shaped
  rw [lay_pl d h, decide_eq_true z]
  rfl
theorem depth_ints : ∀ gs : List Int, (D.lst (gs.map D.int)).py.depth ≤ 64 := fun gs => by
  have h : ∀ gs : List Int, PyData.depthAll (pyA (gs.map D.int)) = 0 := fun gs => by
    induction gs with
    | nil => rfl
    | cons a l ih => show max 0 (PyData.depthAll (pyA (l.map D.int))) = 0; rw [ih]; rfl
  show PyData.depthAll (pyA (gs.map D.int)) + 1 ≤ 64
  rw [h gs]
  decide
theorem r_neD {K : PySem.W.Frag} {H : Hp} {x y : V} {d e : D} {Q : VK} (hx : Dt K H x d) (hy : Dt K H y e) (px : d.pl = true) (py : e.pl = true) (zx : d.py.depth ≤ 64) (zy : e.py.depth ≤ 64) (q : Q (.bl (!PyData.eqv d.py e.py)) H) : rNeD K x y H Q :=
  ⟨_, _, hx.dp px, hy.dp py, shaped_pl d px zx, shaped_pl e py zy, q⟩
theorem r_eqD {K : PySem.W.Frag} {H : Hp} {x y : V} {d e : D} {Q : VK} (hx : Dt K H x d) (hy : Dt K H y e) (px : d.pl = true) (py : e.pl = true) (zx : d.py.depth ≤ 64) (zy : e.py.depth ≤ 64) (q : Q (.bl (PyData.eqv d.py e.py)) H) : rEqD K x y H Q :=
  ⟨_, _, hx.dp px, hy.dp py, shaped_pl d px zx, shaped_pl e py zy, q⟩
end TSx

/-! Own layer, part R3: what makes which data, the heap only growing. -/
namespace TSx
open PySem L2
def Mk (K : PySem.W.Frag) (te : TE) (σ : Sg) (H : Hp) (d : D) : Prop := ∀ H1, Same H H1 → ∀ Q : VK, (∀ v H2, Same H1 H2 → Dt K H2 v d → Q v H2) → te σ H1 Q
def MkA (K : PySem.W.Frag) (ta : TA) (σ : Sg) (H : Hp) (ds : List D) : Prop := ∀ H1, Same H H1 → ∀ Q : List V → Hp → Prop, (∀ vs H2, Same H1 H2 → DtA K H2 vs ds → Q vs H2) → ta σ H1 Q
section
variable {K : PySem.W.Frag} {σ : Sg} {H : Hp} {te ta tb : TE} {t : TA} {d : D} {ds es : List D}
theorem Mk.mono {H' : Hp} (h : Mk K te σ H d) (s : Same H H') : Mk K te σ H' d := fun H1 s1 => h H1 (s.trans s1)
theorem mk_non : Mk K (tC .non) σ H .non := fun H1 _ Q q => q _ H1 Gr.rfl' .non
theorem mk_int {i : Int} : Mk K (tC (.int i)) σ H (.int i) := fun H1 _ Q q => q _ H1 Gr.rfl' (.int i)
theorem mk_str {x : Str} : Mk K (tC (.str x)) σ H (.str x) := fun H1 _ Q q => q _ H1 Gr.rfl' (.str x)
theorem mk_bl {b : Bool} : Mk K (tC (.bl b)) σ H (.bl b) := fun H1 _ Q q => q _ H1 Gr.rfl' (.bl b)
theorem mk_var {n : Nat} {v : V} (h : σ[n]? = some (some v)) (a : Dt K H v d) : Mk K (tVar n) σ H d := fun H1 s Q q => ⟨v, h, q v H1 Gr.rfl' (a.gr s)⟩
theorem mk_neg {i : Int} (h : Mk K ta σ H (.int i)) : Mk K (tUn (rU fun i => .int (-i)) ta) σ H (.int (-i)) := fun H1 s Q q => h H1 s _ fun v H2 s2 a => by
  cases a
  exact ⟨i, rfl, q _ H2 s2 (.int _)⟩
theorem mk_I0 {i j : Int} {g : Int → Int → Int} (h : Mk K ta σ H (.int i)) (h2 : Mk K tb σ H (.int j)) : Mk K (tOp (rI0 fun i j => .int (g i j)) ta tb) σ H (.int (g i j)) := fun H1 s Q q => h H1 s _ fun v H2 s2 a => h2 H2 (s.trans s2) _ fun u H3 s3 b => by
  cases a
  cases b
  exact ⟨i, j, rfl, rfl, q _ H3 (s2.trans s3) (.int _)⟩
theorem mk_I0b {i j : Int} {g : Int → Int → Bool} (h : Mk K ta σ H (.int i)) (h2 : Mk K tb σ H (.int j)) : Mk K (tOp (rI0 fun i j => .bl (g i j)) ta tb) σ H (.bl (g i j)) := fun H1 s Q q => h H1 s _ fun v H2 s2 a => h2 H2 (s.trans s2) _ fun u H3 s3 b => by
  cases a
  cases b
  exact ⟨i, j, rfl, rfl, q _ H3 (s2.trans s3) (.bl _)⟩
theorem mk_I {i j : Int} {C : Int → Int → Prop} {g : Int → Int → Int} (h : Mk K ta σ H (.int i)) (h2 : Mk K tb σ H (.int j)) (c : C i j) : Mk K (tOp (rI C fun i j => .int (g i j)) ta tb) σ H (.int (g i j)) := fun H1 s Q q => h H1 s _ fun v H2 s2 a => h2 H2 (s.trans s2) _ fun u H3 s3 b => by
  cases a
  cases b
  exact ⟨i, j, rfl, rfl, c, q _ H3 (s2.trans s3) (.int _)⟩
theorem mka_nil : MkA K tNil σ H [] := fun H1 _ Q q => q _ H1 Gr.rfl' .nil
theorem mka_cons (h : Mk K ta σ H d) (r : MkA K t σ H ds) : MkA K (tCons ta t) σ H (d :: ds) := fun H1 s Q q => h H1 s _ fun v H2 s2 a => r H2 (s.trans s2) _ fun vs H3 s3 b => q _ H3 (s2.trans s3) (.cons (a.gr s3) b)
theorem mk_tup (h : MkA K t σ H ds) (z : ds.length ≤ 100000) : Mk K (tTup t) σ H (.tup ds) := fun H1 s Q q => h H1 s _ fun vs H2 s2 a => by
  refine ⟨by rw [a.len]; exact sz1 z, fun p np => ?_⟩
  exact q _ _ (s2.trans (same_new np)) (.tup (SqT.of upd_same) (a.gr (same_new np)))
theorem mk_lst (h : MkA K t σ H ds) (z : ds.length ≤ 100000) : Mk K (tLst t) σ H (.lst ds) := fun H1 s Q q => h H1 s _ fun vs H2 s2 a => by
  refine ⟨by rw [a.len]; exact sz1 z, fun p np => ?_⟩
  exact q _ _ (s2.trans (same_new np)) (.lst upd_same (a.gr (same_new np)))
theorem mk_dic : Mk K tDNewK σ H (.dic []) := fun H1 s Q q p np => q _ _ (same_new np) (.dic upd_same .nil)
theorem mk_cat (h : Mk K ta σ H (.lst ds)) (h2 : Mk K tb σ H (.lst es)) (z : ds.length + es.length ≤ 100000) : Mk K (tOp rCat ta tb) σ H (.lst (ds ++ es)) := fun H1 s Q q => h H1 s _ fun v H2 s2 a => h2 H2 (s.trans s2) _ fun u H3 s3 b => by
  cases a with
  | @lst p xs ds ea aa =>
    cases b with
    | @lst r ys es eb bb =>
      refine ⟨p, r, xs, ys, rfl, rfl, s3 _ _ ea, eb, by rw [aa.len, bb.len]; exact sz1 z, fun w nw => ?_⟩
      exact q _ _ ((s2.trans s3).trans (same_new nw)) (.lst upd_same (((aa.gr s3).app bb).gr (same_new nw)))
/-- list(xs), xs a tuple or a list -/
theorem mk_listT (h : Mk K ta σ H (.tup ds)) : Mk K (tCB (fun xs H Q => ∃ p ys, xs = [.ref p] ∧ (SqL K H p ys ∨ SqT K H p ys) ∧ ∀ l, H l = none → Q (.ref l) (upd H l (.lst ys))) (tCons ta tNil)) σ H (.lst ds) := fun H1 s Q q => h H1 s _ fun v H2 s2 a => by
  cases a with
  | @tup p xs ds e aa => exact ⟨p, xs, rfl, Or.inr e, fun l nl => q _ _ (s2.trans (same_new nl)) (.lst upd_same (aa.gr (same_new nl)))⟩
theorem mk_neD (h : Mk K ta σ H d) {e : D} (h2 : Mk K tb σ H e) (pd : d.pl = true) (pe : e.pl = true) (zd : d.py.depth ≤ 64) (ze : e.py.depth ≤ 64) : Mk K (tOp (rNeD K) ta tb) σ H (.bl (!PyData.eqv d.py e.py)) := fun H1 s Q q => h H1 s _ fun v H2 s2 a => h2 H2 (s.trans s2) _ fun u H3 s3 b =>
  r_neD (a.gr s3) b pd pe zd ze (q _ H3 (s2.trans s3) (.bl _))
theorem mk_eqD (h : Mk K ta σ H d) {e : D} (h2 : Mk K tb σ H e) (pd : d.pl = true) (pe : e.pl = true) (zd : d.py.depth ≤ 64) (ze : e.py.depth ≤ 64) : Mk K (tOp (rEqD K) ta tb) σ H (.bl (PyData.eqv d.py e.py)) := fun H1 s Q q => h H1 s _ fun v H2 s2 a => h2 H2 (s.trans s2) _ fun u H3 s3 b =>
  r_eqD (a.gr s3) b pd pe zd ze (q _ H3 (s2.trans s3) (.bl _))
/-- len of a list -/
theorem mk_len (h : Mk K ta σ H (.lst ds)) : Mk K (tCB (fun xs H Q => ∃ p ys, xs = [.ref p] ∧ (SqL K H p ys ∨ SqT K H p ys) ∧ Q (.int ys.length) H) (tCons ta tNil)) σ H (.int ds.length) := fun H1 s Q q => h H1 s _ fun v H2 s2 a => by
  cases a with
  | @lst p xs ds e aa =>
    refine ⟨p, xs, rfl, Or.inl (SqL.of e), ?_⟩
    have l := aa.len
    rw [l]
    exact q _ H2 s2 (.int _)
theorem mk_neI {i j : Int} (h : Mk K ta σ H (.int i)) (h2 : Mk K tb σ H (.int j)) : Mk K (tOp rNe ta tb) σ H (.bl (!decide (i = j))) := fun H1 s Q q => h H1 s _ fun v H2 s2 b => h2 H2 (s.trans s2) _ fun u H3 s3 c => by
  cases b
  cases c
  refine ⟨rfl, ?_⟩
  have e : decide (V.int i = V.int j) = decide (i = j) := by
    by_cases z : i = j
    · subst z; rw [decide_eq_true rfl, decide_eq_true rfl]
    · rw [decide_eq_false z, decide_eq_false fun y => z (V.int.inj y)]
  rw [e]
  exact q _ H3 (s2.trans s3) (.bl _)
theorem mk_eqI {i j : Int} (h : Mk K ta σ H (.int i)) (h2 : Mk K tb σ H (.int j)) : Mk K (tOp rEq ta tb) σ H (.bl (decide (i = j))) := fun H1 s Q q => h H1 s _ fun v H2 s2 b => h2 H2 (s.trans s2) _ fun u H3 s3 c => by
  cases b
  cases c
  refine ⟨rfl, ?_⟩
  have e : decide (V.int i = V.int j) = decide (i = j) := by
    by_cases z : i = j
    · subst z; rw [decide_eq_true rfl, decide_eq_true rfl]
    · rw [decide_eq_false z, decide_eq_false fun y => z (V.int.inj y)]
  rw [e]
  exact q _ H3 (s2.trans s3) (.bl _)
/-- a test that is known -/
def MkT (tt : TT) (σ : Sg) (H : Hp) (b : Bool) : Prop := ∀ H1, Same H H1 → ∀ Q : Bool → Hp → Prop, (∀ H2, Same H1 H2 → Q b H2) → tt σ H1 Q
theorem mt_test {b : Bool} (h : Mk K te σ H (.bl b)) : MkT (tTest te) σ H b := fun H1 s Q q => h H1 s _ fun v H2 s2 a => by
  cases a
  exact ⟨b, rfl, q H2 s2⟩
theorem mt_not {b : Bool} {tt : TT} (h : MkT tt σ H b) : MkT (tNot tt) σ H (!b) := fun H1 s Q q => h H1 s _ fun H2 s2 => q H2 s2
theorem mt_B {b : Bool} (h : Mk K te σ H (.bl b)) : MkT (tB te) σ H b := fun H1 s Q q => h H1 s _ fun v H2 s2 a => by
  cases a
  exact ⟨b, rfl, q H2 s2⟩
end
end TSx

/-! Own layer, part R4: exceptions among the data; what is known of a def and of a class. -/
namespace TSx
open PySem L2
/-- an own __init__ with one field -/
def spIni (C : Addr) (f : Str) : Sp := fun vs H Q _ => ∃ (a : Addr) (x : V), vs = [.ref a, x] ∧ H a = some (exo a C none) ∧ ∀ d, H d = none → d ≠ a → Q .non (upd (upd H d (exd d [(f, x)])) a (exo a C (some d)))
/-- an own exception class of the text, its one field -/
structure Xc (P : Program) (w : World) (K : PySem.W.Frag) (mg : Str → Option Value) (base : Heap) (nm fld : Str) (C fI : Addr) (fd : FuncData) : Prop where
  o : OexC K C
  a : ExcC K C
  iC : PySem.W.findIn K (.ref C) "__init__" = some (some (.ref fI))
  tI : PySem.W.typeIn K (.ref fI) = some (.type "function")
  F : FnOk P w K mg base CX0 1 fI fd ["self", fld] (spIni C fld)
  b : Binds K fd ["self", fld] []
  kw : KwB fd ["self", fld] [fld] id id
  g : mg nm = some (.ref C)
  no : PySem.W.findIn K (.ref C) fld = some none
/-- a def that is ready to be called -/
structure Dok (P : Program) (w : World) (K : PySem.W.Frag) (mg : Str → Option Value) (base : Heap) (k : Nat) (nm : Str) (ps : List Str) (sp : Sp) (f : Addr) (fd : FuncData) : Prop where
  G : FnOk P w K mg base CX0 k f fd ps sp
  g : mg nm = some (.ref f)
  k : PySem.W.keepIn K (.ref f) = true
  b : Binds K fd ps []
structure DoX (P : Program) (w : World) (K : PySem.W.Frag) (mg : Str → Option Value) (base : Heap) (k : Nat) (nm : Str) (ps : List Str) (sp : Sp) (f : Addr) (fd : FuncData) : Prop where
  G : FnOk P w K mg base (L2.CX P w) k f fd ps sp
  g : mg nm = some (.ref f)
  k : PySem.W.keepIn K (.ref f) = true
  b : Binds K fd ps []
structure DoG (P : Program) (w : World) (K : PySem.W.Frag) (mg : Str → Option Value) (base : Heap) (k : Nat) (nm : Str) (ps : List Str) (sp : Sp) (f : Addr) (fd : FuncData) : Prop where
  G : FnG P w K mg base CX0 k f fd ps sp
  g : mg nm = some (.ref f)
  k : PySem.W.keepIn K (.ref f) = true
  b : Binds K fd ps []
section
variable {K : PySem.W.Frag} {σ : Sg} {H : Hp} {te ta tb : TE} {t : TA} {d : D} {ds es : List D} {C : Addr} {f : Str}
/-- the heap behind a made exception -/
theorem made_gr {H1 : Hp} {a dd : Addr} {x : V} (na : H1 a = none) (nd : (upd H1 a (exo a C none)) dd = none) (ne : dd ≠ a) :
    Same H1 (upd (upd (upd (upd (upd H1 a (exo a C none)) dd (exd dd [(f, x)])) a (exo a C (some dd))) a (exq a C dd)) dd (.xd [(f, x)])) := fun b o e => by
  have hb : b ≠ a := ne_of_none e na
  have hd : b ≠ dd := fun z => by rw [z] at e; rw [upd_ne ne, e] at nd; cases nd
  rw [upd_ne hd, upd_ne hb, upd_ne hb, upd_ne hd, upd_ne hb]
  exact e
theorem mk_mkX (h : Mk K ta σ H d) : Mk K (tMkX C (spIni C f) (tCons ta tNil)) σ H (.exc C [(f, d)]) := fun H1 s Q q => h H1 s _ fun v H2 s2 a => by
  refine ⟨(show 1 ≤ 1000 by decide), fun p np => ⟨p, v, rfl, upd_same, fun dd nd ne => ⟨rfl, dd, [(f, v)], upd_same, ?_, ?_⟩⟩⟩
  · rw [upd_ne ne, upd_same]
  · have g := made_gr (C := C) (f := f) (x := v) np nd ne
    refine q _ _ (s2.trans g) (.exc (d := dd) (xs := [(f, v)]) ?_ upd_same (.cons (a.gr g) .nil))
    rw [upd_ne (Ne.symm ne), upd_same]
theorem mk_mkK (h : Mk K ta σ H d) : Mk K (tMkK C 1 (spIni C f) id (tCons ta tNil)) σ H (.exc C [(f, d)]) := fun H1 s Q q => h H1 s _ fun v H2 s2 a => by
  refine ⟨rfl, fun p np => ⟨p, v, rfl, upd_same, fun dd nd ne => ⟨rfl, dd, [(f, v)], upd_same, ?_, ?_⟩⟩⟩
  · rw [upd_ne ne, upd_same]
  · have g := made_gr (C := C) (f := f) (x := v) np nd ne
    refine q _ _ (s2.trans g) (.exc (d := dd) (xs := [(f, v)]) ?_ upd_same (.cons (a.gr g) .nil))
    rw [upd_ne (Ne.symm ne), upd_same]
theorem mk_xa {fs : List (Str × D)} (h : Mk K ta σ H (.exc C fs)) (T : ExcC K C) (no : PySem.W.findIn K (.ref C) f = some none) (l : fs.lookup f = some d) : Mk K (tXa K f ta) σ H d := fun H1 s Q q => h H1 s _ fun v H2 s2 a => by
  cases a with
  | @exc p C dd xs ds e1 e2 e3 =>
    obtain ⟨y, hy, ay⟩ := e3.look l
    exact ⟨p, C, dd, xs, y, rfl, e1, e2, T, no, hy, q y H2 s2 ay⟩
theorem mk_isX {fs : List (Str × D)} {c : V} {cv : Value} {b : Bool} (h : Mk K ta σ H (.exc C fs)) (T : ExcC K C) (hk : PySem.W.kitOne K (.ref C) cv = some b) (hc : ∀ u, RelV c u → u = cv) : Mk K (tCB (rIsX K) (tCons ta (tCons (tC c) tNil))) σ H (.bl b) := fun H1 s Q q => h H1 s _ fun v H2 s2 a => by
  cases a with
  | @exc p C dd xs ds e1 e2 e3 => exact ⟨p, C, dd, xs, c, cv, b, rfl, e1, e2, T, hc, hk, q _ H2 s2 (.bl b)⟩
end
/-- a class (or a def) of the text, by its name -/
theorem pe_cls {X : Cx} {x : Str} {C : Addr} {pos : Pos} (hg : Gl X x) (hm : X.mg x = some (.ref C)) (hd : (x == ("__debug__" : Str)) = false := by decide) : PE X (.Name x pos) (tC (.ref C)) := pe_glob hg hm rfl hd
/-- a thing without parts -/
def D.sc : D → Bool
  | .non => true
  | .bl _ => true
  | .int _ => true
  | .str _ => true
  | _ => false
theorem Dt.any {K : PySem.W.Frag} {H H' : Hp} {v : V} {d : D} (h : Dt K H v d) (s : d.sc = true) : Dt K H' v d := by
  cases h with
  | non => exact .non
  | bl b => exact .bl b
  | int i => exact .int i
  | str x => exact .str x
  | lst _ _ => cases s
  | tup _ _ => cases s
  | dic _ _ => cases s
  | exc _ _ _ => cases s
theorem DtA.any {K : PySem.W.Frag} {H H' : Hp} : ∀ {v : List V} {d : List D}, DtA K H v d → (∀ x ∈ d, x.sc = true) → DtA K H' v d
  | _, _, .nil, _ => .nil
  | _, _, .cons a b, h => .cons (a.any (h _ (List.mem_cons_self ..))) (b.any fun x hx => h x (List.mem_cons_of_mem _ hx))
/-- [e for k in range(n)], n written, e without parts -/
theorem mk_lcR {K : PySem.W.Frag} {σ : Sg} {H : Hp} {te : TE} {i n : Nat} {f : Nat → D} (hn : n ≤ 100000) (hs : ∀ k, (f k).sc = true) (h : ∀ k, k < n → ∀ H1, Same H H1 → Mk K te ((σ.set i none).set i (some (.int (k : Int)))) H1 (f k)) :
    Mk K (tLc (iRng1 (tCons (tC (.int (n : Int))) tNil)) (gName i) tYes te [i]) σ H (.lst ((List.range n).map f)) := fun H1 s Q q => by
  have flat : ∀ j, ∀ x ∈ (List.range j).map f, x.sc = true := fun j x hx => by
    obtain ⟨k, _, rfl⟩ := List.mem_map.mp hx
    exact hs k
  refine ⟨(n : Int), rfl, by omega, by omega, fun p np => lc_range (lo := 0) (n := n) (fun j H' => ∃ xs : List V, H' p = some (.lst xs) ∧ xs.length = j ∧ Same H1 H' ∧ DtA K H' xs ((List.range j).map f)) ⟨[], upd_same, rfl, same_new np, .nil⟩ ?_ ?_⟩
  · rintro j H' hj ⟨xs, e, l, s', a⟩
    have hk := h j hj H' (s.trans s') H' Gr.rfl'
    have w : (wipe σ [i]).set i (some (V.int (0 + (j : Int)))) = (σ.set i none).set i (some (.int (j : Int))) := by rw [Int.zero_add]; rfl
    refine ⟨?_, ?_⟩
    · rw [w]
      show ((σ.set i none).set i (some (.int (j : Int)))).set i none = σ.set i none
      rw [List.set_set, List.set_set]
    · rw [w]
      refine r_yes ?_
      refine hk _ fun v H2 s2 b => ⟨xs, s2 _ _ e, by rw [l]; exact sz2 (by omega), xs ++ [v], upd_same, by rw [List.length_append, l]; rfl, same_mut (s'.trans s2) np, ?_⟩
      rw [List.range_succ, List.map_append]
      exact (a.any (flat j)).app (.cons (b.any (hs j)) .nil)
  · rintro H' ⟨xs, e, l, s', a⟩
    exact q _ _ s' (.lst e a)
theorem ini_reading {K : PySem.W.Frag} {C : Addr} {f : Str} {H : Hp} {Q : VK} {vs : List V} {E : XK} (T : OexC K C) (no : PySem.W.findIn K (.ref C) f = some none) (h : spIni C f vs H Q E) :
    tOst K f (tVar 0) (tVar 1) { nx := fun _ H' => Q .non H', rt := Q } (L2.start ["self", f] vs) H := by
  obtain ⟨a, x, rfl, e, k⟩ := h
  exact ⟨x, rfl, .ref a, rfl, a, C, rfl, T, no, Or.inl ⟨e, fun d n ne => k d n ne⟩⟩
end TSx

/-! Own layer, part R5: data that stand apart from some addresses. -/
namespace TSx
open PySem L2
/-- the heap without the addresses of B -/
def wo (B : Addr → Bool) (H : Hp) : Hp := fun b => if B b = true then none else H b
def dom (H : Hp) : Addr → Bool := fun b => (H b).isSome
theorem wo_le {B : Addr → Bool} {H : Hp} : Same (wo B H) H := fun b o e => by
  unfold wo at e
  by_cases h : B b = true
  · rw [if_pos h] at e; cases e
  · rw [if_neg h] at e; exact e
theorem wo_at {B : Addr → Bool} {H : Hp} {b : Addr} (h : B b = false) : wo B H b = H b := by
  unfold wo
  rw [h]
  rfl
theorem wo_same {B : Addr → Bool} {H H' : Hp} (s : Same H H') : Same (wo B H) (wo B H') := fun b o e => by
  unfold wo at e ⊢
  by_cases h : B b = true
  · rw [if_pos h] at e; cases e
  · rw [if_neg h] at e ⊢; exact s b o e
theorem wo_kp {B : Addr → Bool} {H H' : Hp} {m g : Addr} (s : Kp m g H H') (hm : B m = true) (hg : B g = true) : Same (wo B H) (wo B H') := fun b o e => by
  unfold wo at e ⊢
  by_cases h : B b = true
  · rw [if_pos h] at e; cases e
  · rw [if_neg h] at e ⊢
    exact s b o (fun z => h (by rw [z]; exact hm)) (fun z => h (by rw [z]; exact hg)) e
theorem dom_of {H : Hp} {b : Addr} {o : HO} (h : H b = some o) : dom H b = true := by unfold dom; rw [h]; rfl
theorem dom_no {H : Hp} {b : Addr} (h : H b = none) : dom H b = false := by unfold dom; rw [h]; rfl
/-- te makes the data d, apart from B -/
def MkB (K : PySem.W.Frag) (B : Addr → Bool) (te : TE) (σ : Sg) (H : Hp) (d : D) : Prop := ∀ H1, Same H H1 → ∀ Q : VK, (∀ v H2, Same H1 H2 → Dt K (wo B H2) v d → Q v H2) → te σ H1 Q
def MkBA (K : PySem.W.Frag) (B : Addr → Bool) (ta : TA) (σ : Sg) (H : Hp) (ds : List D) : Prop := ∀ H1, Same H H1 → ∀ Q : List V → Hp → Prop, (∀ vs H2, Same H1 H2 → DtA K (wo B H2) vs ds → Q vs H2) → ta σ H1 Q
section
variable {K : PySem.W.Frag} {B : Addr → Bool} {σ : Sg} {H : Hp} {te ta tb : TE} {t : TA} {d : D} {ds es : List D}
theorem kb_non : MkB K B (tC .non) σ H .non := fun H1 _ Q q => q _ H1 Gr.rfl' .non
theorem kb_int {i : Int} : MkB K B (tC (.int i)) σ H (.int i) := fun H1 _ Q q => q _ H1 Gr.rfl' (.int i)
theorem kb_str {x : Str} : MkB K B (tC (.str x)) σ H (.str x) := fun H1 _ Q q => q _ H1 Gr.rfl' (.str x)
theorem kb_bl {b : Bool} : MkB K B (tC (.bl b)) σ H (.bl b) := fun H1 _ Q q => q _ H1 Gr.rfl' (.bl b)
theorem kb_var {n : Nat} {v : V} (h : σ[n]? = some (some v)) (a : Dt K (wo B H) v d) : MkB K B (tVar n) σ H d := fun H1 s Q q => ⟨v, h, q v H1 Gr.rfl' (a.gr (wo_same s))⟩
theorem kb_neg {i : Int} (h : MkB K B ta σ H (.int i)) : MkB K B (tUn (rU fun i => .int (-i)) ta) σ H (.int (-i)) := fun H1 s Q q => h H1 s _ fun v H2 s2 a => by
  cases a
  exact ⟨i, rfl, q _ H2 s2 (.int _)⟩
theorem kb_I {i j : Int} {C : Int → Int → Prop} {g : Int → Int → Int} (h : MkB K B ta σ H (.int i)) (h2 : MkB K B tb σ H (.int j)) (c : C i j) : MkB K B (tOp (rI C fun i j => .int (g i j)) ta tb) σ H (.int (g i j)) := fun H1 s Q q => h H1 s _ fun v H2 s2 a => h2 H2 (s.trans s2) _ fun u H3 s3 b => by
  cases a
  cases b
  exact ⟨i, j, rfl, rfl, c, q _ H3 (s2.trans s3) (.int _)⟩
theorem kba_nil : MkBA K B tNil σ H [] := fun H1 _ Q q => q _ H1 Gr.rfl' .nil
theorem kba_cons (h : MkB K B ta σ H d) (r : MkBA K B t σ H ds) : MkBA K B (tCons ta t) σ H (d :: ds) := fun H1 s Q q => h H1 s _ fun v H2 s2 a => r H2 (s.trans s2) _ fun vs H3 s3 b => q _ H3 (s2.trans s3) (.cons (a.gr (wo_same s3)) b)
/-- a free place is none of B's, where B's are all taken -/
theorem apart {H1 : Hp} {p : Addr} (hB : ∀ b, B b = true → H b ≠ none) (s : Same H H1) (n : H1 p = none) : B p = false := by
  cases e : B p with
  | false => rfl
  | true => exact absurd (gr_none s n) (hB p e)
theorem kb_tup (hB : ∀ b, B b = true → H b ≠ none) (h : MkBA K B t σ H ds) (z : ds.length ≤ 100000) : MkB K B (tTup t) σ H (.tup ds) := fun H1 s Q q => h H1 s _ fun vs H2 s2 a => by
  refine ⟨by rw [a.len]; exact sz1 z, fun p np => ?_⟩
  refine q _ _ (s2.trans (same_new np)) (.tup (SqT.of ?_) (a.gr (wo_same (same_new np))))
  rw [wo_at (apart hB (s.trans s2) np), upd_same]
theorem kb_lst (hB : ∀ b, B b = true → H b ≠ none) (h : MkBA K B t σ H ds) (z : ds.length ≤ 100000) : MkB K B (tLst t) σ H (.lst ds) := fun H1 s Q q => h H1 s _ fun vs H2 s2 a => by
  refine ⟨by rw [a.len]; exact sz1 z, fun p np => ?_⟩
  refine q _ _ (s2.trans (same_new np)) (.lst ?_ (a.gr (wo_same (same_new np))))
  rw [wo_at (apart hB (s.trans s2) np), upd_same]
theorem kb_dic (hB : ∀ b, B b = true → H b ≠ none) : MkB K B tDNewK σ H (.dic []) := fun H1 s Q q p np => q _ _ (same_new np) (.dic (by rw [wo_at (apart hB s np), upd_same]) .nil)
theorem kb_cat (hB : ∀ b, B b = true → H b ≠ none) (h : MkB K B ta σ H (.lst ds)) (h2 : MkB K B tb σ H (.lst es)) (z : ds.length + es.length ≤ 100000) : MkB K B (tOp rCat ta tb) σ H (.lst (ds ++ es)) := fun H1 s Q q => h H1 s _ fun v H2 s2 a => h2 H2 (s.trans s2) _ fun u H3 s3 b => by
  cases a with
  | @lst p xs ds ea aa =>
    cases b with
    | @lst r ys es eb bb =>
      refine ⟨p, r, xs, ys, rfl, rfl, s3 _ _ (wo_le _ _ ea), wo_le _ _ eb, by rw [aa.len, bb.len]; exact sz1 z, fun w nw => ?_⟩
      refine q _ _ ((s2.trans s3).trans (same_new nw)) (.lst ?_ (((aa.gr (wo_same s3)).app bb).gr (wo_same (same_new nw))))
      rw [wo_at (apart hB ((s.trans s2).trans s3) nw), upd_same]
end
end TSx

/-! Own layer, part R6: classes over OverflowError, two fields, lists times a number, a list's place, a comprehension over pairs. -/
namespace TSx
open PySem L2
/-- an own __init__ with two fields -/
def spIni2 (C : Addr) (f g : Str) : Sp := fun vs H Q _ => ∃ (a : Addr) (x y : V), vs = [.ref a, x, y] ∧ H a = some (exo a C none) ∧ ∀ d, H d = none → d ≠ a → Q .non (upd (upd (upd H d (exd d [(f, x)])) a (exo a C (some d))) d (exd d [(g, y), (f, x)]))
structure Xo (P : Program) (w : World) (K : PySem.W.Frag) (mg : Str → Option Value) (base : Heap) (nm fld : Str) (C fI : Addr) (fd : FuncData) : Prop where
  o : OofC K C
  a : ExcC K C
  iC : PySem.W.findIn K (.ref C) "__init__" = some (some (.ref fI))
  tI : PySem.W.typeIn K (.ref fI) = some (.type "function")
  F : FnOk P w K mg base CX0 1 fI fd ["self", fld] (spIni C fld)
  b : Binds K fd ["self", fld] []
  g : mg nm = some (.ref C)
  no : PySem.W.findIn K (.ref C) fld = some none
def swp {α : Type} : List α → List α
  | [x, y] => [y, x]
  | l => l
theorem swp_rel {zs : List V} {ws : List Value} (r : Vals zs ws) : Vals (swp zs) (swp ws) := by
  cases r with
  | nil => exact .nil
  | cons a r =>
    cases r with
    | nil => exact .cons a .nil
    | cons b r =>
      cases r with
      | nil => exact .cons b (.cons a .nil)
      | cons c r => exact .cons a (.cons b (.cons c r))
structure Xt (P : Program) (w : World) (K : PySem.W.Frag) (mg : Str → Option Value) (base : Heap) (nm f1 f2 : Str) (C fI : Addr) (fd : FuncData) : Prop where
  o : OexC K C
  a : ExcC K C
  iC : PySem.W.findIn K (.ref C) "__init__" = some (some (.ref fI))
  tI : PySem.W.typeIn K (.ref fI) = some (.type "function")
  F : FnOk P w K mg base CX0 1 fI fd ["self", f1, f2] (spIni2 C f1 f2)
  b : Binds K fd ["self", f1, f2] []
  kw : KwB fd ["self", f1, f2] [f2, f1] swp swp
  g : mg nm = some (.ref C)
  no1 : PySem.W.findIn K (.ref C) f1 = some none
  no2 : PySem.W.findIn K (.ref C) f2 = some none
section
variable {K : PySem.W.Frag} {σ : Sg} {H : Hp} {te ta tb : TE} {t : TA} {d d1 d2 : D} {ds es : List D} {C : Addr} {f g : Str}
theorem ofi_reading {Q : VK} {vs : List V} {E : XK} (T : OofC K C) (no : PySem.W.findIn K (.ref C) f = some none) (h : spIni C f vs H Q E) :
    tOfS K f (tVar 0) (tVar 1) { nx := fun _ H' => Q .non H', rt := Q } (L2.start ["self", f] vs) H := by
  obtain ⟨a, x, rfl, e, k⟩ := h
  exact ⟨x, rfl, .ref a, rfl, a, C, rfl, T, no, e, fun d n ne => k d n ne⟩
theorem ini2_reading {Q : VK} {vs : List V} {E : XK} (T : OexC K C) (no1 : PySem.W.findIn K (.ref C) f = some none) (no2 : PySem.W.findIn K (.ref C) g = some none) (h : spIni2 C f g vs H Q E) :
    tSeq (tOst K f (tVar 0) (tVar 1)) (tOst K g (tVar 0) (tVar 2)) { nx := fun _ H' => Q .non H', rt := Q } (L2.start ["self", f, g] vs) H := by
  obtain ⟨a, x, y, rfl, e, k⟩ := h
  refine ⟨x, rfl, .ref a, rfl, a, C, rfl, T, no1, Or.inl ⟨e, fun d n ne => ?_⟩⟩
  refine ⟨y, rfl, .ref a, rfl, a, C, rfl, T, no2, Or.inr ⟨d, [(f, x)], upd_same, ?_, (show 1 ≤ 900 by decide), k d n ne⟩⟩
  rw [upd_ne ne, upd_same]
theorem made_gr2 {H1 : Hp} {a dd : Addr} {x y : V} (na : H1 a = none) (nd : (upd H1 a (exo a C none)) dd = none) (ne : dd ≠ a) :
    Same H1 (upd (upd (upd (upd (upd (upd H1 a (exo a C none)) dd (exd dd [(f, x)])) a (exo a C (some dd))) dd (exd dd [(g, y), (f, x)])) a (exq a C dd)) dd (.xd [(g, y), (f, x)])) := fun b o e => by
  have hb : b ≠ a := ne_of_none e na
  have hd : b ≠ dd := fun z => by rw [z] at e; rw [upd_ne ne, e] at nd; cases nd
  rw [upd_ne hd, upd_ne hb, upd_ne hd, upd_ne hb, upd_ne hd, upd_ne hb]
  exact e
theorem mk_mkX2 (h : Mk K ta σ H d1) (h2 : Mk K tb σ H d2) : Mk K (tMkX C (spIni2 C f g) (tCons ta (tCons tb tNil))) σ H (.exc C [(g, d2), (f, d1)]) := fun H1 s Q q => h H1 s _ fun v H2 s2 a => h2 H2 (s.trans s2) _ fun u H3 s3 b => by
  refine ⟨(show 2 ≤ 1000 by decide), fun p np => ⟨p, v, u, rfl, upd_same, fun dd nd ne => ⟨rfl, dd, [(g, u), (f, v)], ?_, upd_same, ?_⟩⟩⟩
  · rw [upd_ne (Ne.symm ne), upd_same]
  · have gg := made_gr2 (C := C) (f := f) (g := g) (x := v) (y := u) np nd ne
    refine q _ _ ((s2.trans s3).trans gg) (.exc (d := dd) (xs := [(g, u), (f, v)]) ?_ upd_same (.cons (b.gr gg) (.cons ((a.gr s3).gr gg) .nil)))
    rw [upd_ne (Ne.symm ne), upd_same]
theorem mk_mkK2 (h : Mk K ta σ H d2) (h2 : Mk K tb σ H d1) : Mk K (tMkK C 2 (spIni2 C f g) swp (tCons ta (tCons tb tNil))) σ H (.exc C [(g, d2), (f, d1)]) := fun H1 s Q q => h H1 s _ fun u H2 s2 b => h2 H2 (s.trans s2) _ fun v H3 s3 a => by
  refine ⟨rfl, fun p np => ⟨p, v, u, rfl, upd_same, fun dd nd ne => ⟨rfl, dd, [(g, u), (f, v)], ?_, upd_same, ?_⟩⟩⟩
  · rw [upd_ne (Ne.symm ne), upd_same]
  · have gg := made_gr2 (C := C) (f := f) (g := g) (x := v) (y := u) np nd ne
    refine q _ _ ((s2.trans s3).trans gg) (.exc (d := dd) (xs := [(g, u), (f, v)]) ?_ upd_same (.cons ((b.gr s3).gr gg) (.cons (a.gr gg) .nil)))
    rw [upd_ne (Ne.symm ne), upd_same]
theorem DtA.rep {vs : List V} (h : DtA K H vs ds) : ∀ n : Nat, DtA K H (List.replicate n vs).flatten (List.replicate n ds).flatten
  | 0 => .nil
  | n + 1 => by
    rw [List.replicate_succ, List.replicate_succ, List.flatten_cons, List.flatten_cons]
    exact h.app (DtA.rep h n)
theorem mk_rep {k : Int} (h : Mk K ta σ H (.lst ds)) (h2 : Mk K tb σ H (.int k)) (k0 : 0 ≤ k) (k1 : k < 1000) (z : ds.length ≤ 100) : Mk K (tOp rRep ta tb) σ H (.lst (List.replicate k.toNat ds).flatten) := fun H1 s Q q => h H1 s _ fun v H2 s2 a => h2 H2 (s.trans s2) _ fun u H3 s3 b => by
  cases b
  cases a with
  | @lst p xs _ e aa =>
    refine ⟨p, k, xs, rfl, rfl, s3 _ _ e, by omega, by omega, ?_, fun w nw => q _ _ ((s2.trans s3).trans (same_new nw)) (.lst upd_same (((aa.gr s3).rep _).gr (same_new nw)))⟩
    refine sz1 (Nat.le_trans (Nat.mul_le_mul (show xs.length ≤ 100 by rw [aa.len]; exact z) (show k.toNat ≤ 1000 by omega)) (by decide))
theorem DtA.nth {vs : List V} {i : Nat} {y : D} (h : DtA K H vs ds) (e : ds[i]? = some y) : ∃ x, vs[i]? = some x ∧ Dt K H x y := by
  induction ds generalizing vs i with
  | nil => simp at e
  | cons z l ih =>
    cases h with
    | @cons v ws _ _ a b =>
    cases i with
    | zero => simp at e; subst e; exact ⟨v, rfl, a⟩
    | succ i =>
      obtain ⟨x, h1, h2⟩ := ih b (by simpa using e)
      exact ⟨x, by simpa using h1, h2⟩
theorem mk_ixL {i : Nat} (h : Mk K ta σ H (.lst ds)) (h2 : Mk K tb σ H (.int (i : Int))) (e : ds[i]? = some d) : Mk K (tOp (rIxL K) ta tb) σ H d := fun H1 s Q q => h H1 s _ fun v H2 s2 a => h2 H2 (s.trans s2) _ fun u H3 s3 b => by
  cases b
  cases a with
  | @lst p xs _ el aa =>
    obtain ⟨x, hx, ax⟩ := aa.nth e
    exact ⟨p, xs, (i : Int), x, rfl, rfl, SqL.of (s3 _ _ el), atI_nat hx, q x _ (s2.trans s3) (ax.gr s3)⟩
end
def rowD (p : Str × Bool) : D := .tup [.str p.1, .bl p.2]
theorem mk_lcT {K : PySem.W.Frag} {H : Hp} {ti : TE} {a b c d : Option V} (rows : List (Str × Bool)) (h : Mk K ti [a, b, c, d] H (.lst (rows.map rowD))) (z : rows.length < 1000) :
    Mk K (tLc (iList K ti) (gTup K 2 (gCons (gName 2) (gCons (gName 3) gNil))) (tB (tVar 3)) (tVar 2) [2, 3]) [a, b, c, d] H (.lst ((rows.filter (·.2)).map fun p => .str p.1)) := fun H1 s Q q => h H1 s _ fun v H2 s2 av => by
  cases av with
  | @lst p xs _ e aa =>
  have lx : xs.length = rows.length := by rw [aa.len, List.length_map]
  refine ⟨p, rfl, ⟨xs, SqL.of e⟩, fun D hD => lc_list (K := K) (a := p) (xs := xs) (fun k H' => Same H2 H' ∧ ∃ ys : List V, H' D = some (.lst ys) ∧ ys.length ≤ k ∧ DtA K H' ys (((rows.take k).filter (·.2)).map fun p => .str p.1))
    ⟨same_new hD, [], upd_same, Nat.le_refl _, .nil⟩ (fun k H' _ w => SqL.of (w.1 _ _ e)) ?_ ?_⟩
  · rintro k x H' hx ⟨s', ys, ey, ly, ay⟩
    obtain ⟨dx, edx, adx⟩ := aa.at hx
    obtain ⟨r, hr, rfl⟩ : ∃ r, rows[k]? = some r ∧ rowD r = dx := by
      rw [List.getElem?_map] at edx
      cases q : rows[k]? with
      | none => rw [q] at edx; cases edx
      | some r => rw [q] at edx; cases edx; exact ⟨r, rfl, rfl⟩
    have kl : k < rows.length := (List.getElem?_eq_some_iff.mp hr).1
    have tk : rows.take (k + 1) = rows.take k ++ [r] := by rw [List.take_add_one, hr]; rfl
    obtain ⟨l, bb⟩ := r
    cases adx with
    | @tup t ws _ hT at2 =>
    cases at2 with
    | cons q1 at2 =>
    cases at2 with
    | cons q2 at2 =>
    cases at2
    cases q1
    cases q2
    refine ⟨t, _, rfl, gr_T s' hT, rfl, _, _, rfl, r_name ⟨_, _, rfl, r_name ⟨rfl, rfl, ?_⟩⟩⟩
    refine ⟨_, rfl, bb, rfl, ?_⟩
    cases bb with
    | false =>
      refine iteF ?_
      refine ⟨s', ys, ey, by omega, ?_⟩
      rw [tk, List.filter_append]
      simpa using ay
    | true =>
      refine iteT ?_
      refine ⟨_, rfl, ys, ey, sz2 (by omega), same_mut s' hD, _, upd_same, by rw [List.length_append]; simpa using ly, ?_⟩
      rw [tk, List.filter_append, List.map_append]
      have flat : ∀ {l : List (Str × Bool)}, ∀ x ∈ l.map (fun p : Str × Bool => TSx.D.str p.1), x.sc = true := by
        intro l x hx
        obtain ⟨y, _, rfl⟩ := List.mem_map.mp hx
        rfl
      exact (ay.any flat).app (.cons (.str l) .nil)
  · rintro H' ⟨s', ys, ey, ly, ay⟩
    refine q _ _ (s2.trans s') (.lst ey ?_)
    rw [lx, List.take_length] at ay
    exact ay
end TSx

/-! Own layer, part Z1: zip of a tuple and a text, enumerate of a tuple, lcm. -/
namespace TSx
open PySem L2 PySem.Spec PyProof.Rows
/-- the tuple at a and the text x, side by side -/
def ItzS (K : PySem.W.Frag) (a : Addr) (x : Str) : It :=
  ⟨fun i H => ∃ (xs : List V) (v : V) (c : Nat), SqT K H a xs ∧ xs[i]? = some v ∧ x.cps[i]? = some c,
    fun i H v H' => ∃ (T : Addr) (u : V) (c : Nat), v = .ref T ∧ H T = none ∧ H' = upd H T (.tup [u, .str ⟨#[c]⟩]) ∧ (∀ xs, SqT K H a xs → xs[i]? = some u) ∧ x.cps[i]? = some c,
    fun i H => ∃ xs : List V, SqT K H a xs ∧ i ≤ xs.length ∧ i ≤ x.cps.size ∧ (i = xs.length ∨ i = x.cps.size)⟩
theorem turn_zipS {P : Program} {w : World} {K : PySem.W.Frag} {elts : List Expr} {kk : Nat} {tpos : Pos} {a z TI TO i1 i2 : Addr} {x : Str} {t : Tok} (S : ZipSep2 z TI TO i1 i2 [i1, a] [i2]) :
    Turn P w K (.Tuple elts kk tpos) (ItzS K a x) [z, TI, TO, i1, i2] z (fun i h => IsZip h z TI TO .none ∧ IsTupOf2 h TI (.ref i1) (.ref i2) ∧ (∃ p q, IsTupOf2 h TO p q) ∧ h.IsTupleIter i1 a i ∧ h.IsStrIter i2 (strIterType x) x t i) where
  mem := by simp
  obj := fun i h st c hc => by
    obtain ⟨hz, hTI, ⟨p, q, hTO⟩, ⟨o1, e1, _, d1⟩, ⟨o2, e2, _, d2⟩⟩ := st
    have e' : c = z ∨ c = TI ∨ c = TO ∨ c = i1 ∨ c = i2 := by simpa using hc
    rcases e' with q | q | q | q | q
    · rw [q]; exact ⟨_, hz, fun v q => nomatch q⟩
    · rw [q]; exact ⟨_, hTI, fun v q => nomatch q⟩
    · rw [q]; exact ⟨_, hTO, fun v q => nomatch q⟩
    · rw [q]; exact ⟨o1, e1, fun v q => by rw [d1] at q; cases q⟩
    · rw [q]; exact ⟨o2, e2, fun v q => by rw [d2] at q; cases q⟩
  keep := fun i h h' st k => by
    obtain ⟨hz, hTI, ⟨p, q, hTO⟩, ⟨o1, e1, r1⟩, ⟨o2, e2, r2⟩⟩ := st
    exact ⟨k z (by simp) _ hz, k TI (by simp) _ hTI, ⟨p, q, k TO (by simp) _ hTO⟩, ⟨o1, k i1 (by simp) _ e1, r1⟩, ⟨o2, k i2 (by simp) _ e2, r2⟩⟩
  item := by
    intro X hP hw hK hc i pins s σ H E I hf st hg
    subst hP hw hK
    obtain ⟨hz, hTI, ⟨p0, q0, hTO⟩, h1, h2⟩ := st
    obtain ⟨xs, v, c, hq, hx, hc'⟩ := hg
    obtain ⟨its, rv, pt, _⟩ := I.tuple hq
    obtain ⟨u, hu, ru⟩ := rv.get hx
    have ne1 : a ≠ i1 := fun e => by
      obtain ⟨o, ho, hcl, _⟩ := pt
      obtain ⟨o1, e1, c1, _⟩ := h1
      rw [e] at ho
      rw [e1] at ho
      cases ho
      rw [hcl] at c1
      exact absurd (Value.type.inj c1) (by decide)
    have hzl : z < s.heap.objs.size := Heap.lt_size hz
    have li1 : i1 < s.heap.objs.size := by obtain ⟨_, e1, _⟩ := h1; exact Heap.lt_size e1
    have li2 : i2 < s.heap.objs.size := by obtain ⟨_, e2, _⟩ := h2; exact Heap.lt_size e2
    have lTI : TI < s.heap.objs.size := Heap.lt_size hTI
    have lTO : TO < s.heap.objs.size := Heap.lt_size hTO
    have D1 := Draws.tuple (prog := X.prog) (w := X.w) (A := X.A.in1) (I.ok.hd hc) i1 a ne1 its.toArray
    have D2 := Draws.text (prog := X.prog) (w := X.w) (A := X.A.in1) (I.ok.hd hc) i2 x t
    have l1 : i < its.toArray.size := by
      have : i < its.length := (List.getElem?_eq_some_iff.mp (by simpa using hu)).1
      simpa using this
    have l2 : i < x.cps.size := (Array.getElem?_eq_some_iff.mp hc').1
    refine wpAny_pyNext_zipD2_item S D1 D2 hz hTI hTO ⟨h1, pt⟩ h2 l1 l2 fun x1 x2 h' tk y1 y2 b1 b2 d1 d2 b5 b6 hk => ?_
    have e1 : x1 = u := by
      have hu' : its.toArray[i]? = some u := by simpa using hu
      rw [hu'] at y1
      exact (Option.some.inj y1).symm
    subst e1
    obtain ⟨c', u2, hc2, rfl⟩ := y2
    rw [hc'] at hc2
    cases hc2
    refine ⟨_, rfl, wpAny_letOwnedTupleGo_zip (s := { s with heap := h', toks := tk }) b1 fun h'' z'' sb => ?_⟩
    have T2 : h''.get? s.heap.objs.size = some { cls := .type "tuple", data := .seq #[x1, .str ⟨#[c]⟩ u2] } := (sb.2 _ (Nat.ne_of_gt hzl)).trans b5
    have new : ObjOk X.prog X.w (upd H s.heap.objs.size (.tup [v, .str ⟨#[c]⟩])) h'' s.heap.objs.size (.tup [v, .str ⟨#[c]⟩]) :=
      ⟨by show 2 ≤ sizeLine; decide, [x1, .str ⟨#[c]⟩ u2], .cons ru (.cons ⟨_, rfl⟩ .nil), ⟨_, T2, rfl, _, rfl⟩⟩
    have I1 : Inv X pins σ (upd H s.heap.objs.size (.tup [v, .str ⟨#[c]⟩])) { s with heap := h'', toks := tk } :=
      I.turnedNew (ch := [z, TI, TO, i1, i2]) (fun b o hb q => (sb.2 b (fun q' => hb (by simp [q']))).trans (hk b o (fun q' => hb (by simp [q'])) (fun q' => hb (by simp [q'])) (fun q' => hb (by simp [q'])) (fun q' => hb (by simp [q'])) q)) hf (Nat.le_refl _) new
    refine ⟨.ref s.heap.objs.size, _, I1, rfl, ⟨_, v, c, rfl, I.hok.fresh (Nat.le_refl _), rfl, fun l hl => by rw [I.tuple_inj hl hq]; exact hx, hc'⟩, ⟨z'', ?_, ⟨x1, .str ⟨#[c]⟩ u2, ?_⟩, ?_, ?_⟩, fun b hb => ?_⟩
    · exact (sb.2 _ S.TIz).trans (hk _ _ S.TIz S.TITO S.TIi1 S.TIi2 hTI)
    · exact (sb.2 _ S.TOz).trans b2
    · obtain ⟨⟨o1, e1, r1⟩, _⟩ := d1
      exact ⟨o1, (sb.2 _ (Ne.symm S.zi1)).trans e1, r1⟩
    · obtain ⟨o2, e2, r2⟩ := d2
      exact ⟨o2, (sb.2 _ (Ne.symm S.zi2)).trans e2, r2⟩
    · have lt : b < s.heap.objs.size := by
        have e' : b = z ∨ b = TI ∨ b = TO ∨ b = i1 ∨ b = i2 := by simpa using hb
        rcases e' with q | q | q | q | q <;> rw [q] <;> assumption
      rw [upd_ne (Nat.ne_of_lt lt)]
      exact (hf b hb).1
  done := by
    intro X hP hw hK hc i pins s σ H E I hf st hg
    subst hP hw hK
    obtain ⟨hz, hTI, ⟨p0, q0, hTO⟩, h1, h2⟩ := st
    obtain ⟨xs, hq, n1, n2, hend⟩ := hg
    obtain ⟨its, rv, pt, _⟩ := I.tuple hq
    have l1 := rv.length
    have ne1 : a ≠ i1 := fun e => by
      obtain ⟨o, ho, hcl, _⟩ := pt
      obtain ⟨o1, e1, c1, _⟩ := h1
      rw [e] at ho
      rw [e1] at ho
      cases ho
      rw [hcl] at c1
      exact absurd (Value.type.inj c1) (by decide)
    have D1 := Draws.tuple (prog := X.prog) (w := X.w) (A := X.A.in1) (I.ok.hd hc) i1 a ne1 its.toArray
    have D2 := Draws.text (prog := X.prog) (w := X.w) (A := X.A.in1) (I.ok.hd hc) i2 x t
    have sz : its.toArray.size = xs.length := by rw [List.size_toArray]; exact l1.symm
    refine wpAny_pyNext_zipD2_end S D1 D2 hz hTI hTO ⟨h1, pt⟩ h2 (by omega) n2 (by omega) fun h' tk hk => ⟨rfl, I.turnedL (t' := tk) (ch := [z, TI, TO, i1, i2]) (fun b o hb q =>
      hk b o (fun q' => hb (by simp [q'])) (fun q' => hb (by simp [q'])) (fun q' => hb (by simp [q'])) (fun q' => hb (by simp [q'])) q) hf⟩
  self := fun A i s Q E st h => wpAny_pyIter_zip st.1 h
def iZipS (K : PySem.W.Frag) (ta : TA) : TI := fun σ H R => ta σ H fun vs H1 => ∃ (a : Addr) (x : Str) (xs : List V), vs = [.ref a, .str x] ∧ SqT K H1 a xs ∧ R (ItzS K a x) H1
theorem pi_zipS {X : Cx} {e e2 : Expr} {ta : TA} {p pos tpos : Pos} {elts : List Expr} {kk : Nat} (hg : Gl X "zip") (hm : X.mg "zip" = none) (ha : PA X [e, e2] ta)
    (hs : starEach [e, e2] X.env = (false, eval e X.env) :: starEach [e2] X.env := by rfl) (hpl : (backTo pos (starEach [e2] X.env)).any (·.1) = false := by rfl) :
    PI X (.Tuple elts kk tpos) (.Call (.Name "zip" p) [e, e2] [] pos) (iZipS X.K ta) := by
  constructor
  intro pins s σ H R I h
  refine Call_ (ld_blt I hg hm PyProof.Rows.boot_zip (PyProof.Rows.callWith_type1 (thn (ha.run pos pins s σ H _ I h) fun us s1 z => ?_) hs hpl))
  obtain ⟨vs, H1, I1, r1, a, x, xs, ex, hq, q⟩ := z
  subst ex
  obtain ⟨u1, u2, rfl, ra, rx⟩ := vals2 r1
  cases (show u1 = Value.ref a from ra)
  obtain ⟨t, rfl⟩ := (show ∃ t, u2 = Value.str x t from rx)
  obtain ⟨its, rv, pt, _⟩ := I1.tuple hq
  have la : a < s1.heap.objs.size := by obtain ⟨o, ho, _⟩ := id pt; exact Heap.lt_size ho
  refine zip_begins2 (begins_tuple a its.toArray) (begins_text x t) pt trivial fun h' hz hTI hTO g1 g2 hsz hk => wpAny_pyIter_zip hz ?_
  have I2 : Inv X pins σ H1 { s1 with heap := h' } := I1.kept (t' := s1.toks) hk
  refine ⟨s1.heap.objs.size + 4, [s1.heap.objs.size + 4, s1.heap.objs.size + 2, s1.heap.objs.size + 3, s1.heap.objs.size, s1.heap.objs.size + 1], _, _, H1, rfl, I2,
    turn_zipS (t := t) (zip_sep2 (N := s1.heap.objs.size) (fp1 := [a]) (fp2 := []) (fun b hb => by rw [List.mem_singleton.mp hb]; exact la) (fun b hb => nomatch hb)), ⟨hz, hTI, ⟨_, _, hTO⟩, ⟨_, g1, rfl, rfl⟩, ⟨_, g2, rfl, rfl⟩⟩, fun c hc => ?_, q⟩
  have e' : c = s1.heap.objs.size + 4 ∨ c = s1.heap.objs.size + 2 ∨ c = s1.heap.objs.size + 3 ∨ c = s1.heap.objs.size ∨ c = s1.heap.objs.size + 1 := by simpa using hc
  have hle : s1.heap.objs.size ≤ c := by
    rcases e' with z | z | z | z | z <;> rw [z] <;> first | exact Nat.le_add_right _ _ | exact Nat.le_refl _
  exact I1.fpOk hle (I1.hok.fresh hle)
/-! ### enumerate(tuple) -/
def IteT (K : PySem.W.Frag) (a : Addr) : It :=
  ⟨fun i H => ∃ (xs : List V) (x : V), SqT K H a xs ∧ xs[i]? = some x, fun i H v H' => ∃ (T : Addr) (x : V), v = .ref T ∧ H T = none ∧ H' = upd H T (.tup [.int (i : Nat), x]) ∧ ∀ xs, SqT K H a xs → xs[i]? = some x, fun i H => ∃ xs : List V, SqT K H a xs ∧ i = xs.length⟩
theorem turn_enumT {P : Program} {w : World} {K : PySem.W.Frag} {elts : List Expr} {kk : Nat} {tpos : Pos} (a e it : Addr) :
    Turn P w K (.Tuple elts kk tpos) (IteT K a) [e, it] e (fun i h => (∃ old, IsEnum h e it ((i : Nat) : Int) old) ∧ h.IsTupleIter it a i ∧ e ≠ it) where
  mem := by simp
  obj := fun i h st b hb => by
    obtain ⟨⟨old, he⟩, ⟨o, ho, hc, hd⟩, _⟩ := st
    have e' : b = e ∨ b = it := by simpa using hb
    rcases e' with z | z
    · rw [z]; exact ⟨_, he, fun v q => nomatch q⟩
    · rw [z]; exact ⟨o, ho, fun v q => by rw [hd] at q; cases q⟩
  keep := fun i h h' st k => by
    obtain ⟨⟨old, he⟩, ⟨o, ho, r⟩, hne⟩ := st
    exact ⟨⟨old, k e (by simp) _ he⟩, ⟨o, k it (by simp) _ ho, r⟩, hne⟩
  item := by
    intro X hP hw hK hc i pins s σ H E I hf st hg
    subst hP hw hK
    obtain ⟨⟨old, he⟩, hit, hne⟩ := st
    obtain ⟨xs, x, hq, hx⟩ := hg
    obtain ⟨its, rv, pt, _⟩ := I.tuple hq
    obtain ⟨u, hu, ru⟩ := rv.get hx
    have ne1 : a ≠ it := fun e => by
      obtain ⟨o, ho, hcl, _⟩ := pt
      obtain ⟨o1, e1, c1, _⟩ := hit
      rw [e] at ho
      rw [e1] at ho
      cases ho
      rw [hcl] at c1
      exact absurd (Value.type.inj c1) (by decide)
    have nea : e ≠ a := fun z => by
      obtain ⟨o, ho, hcl, _⟩ := pt
      rw [← z] at ho
      have he' : s.heap.get? e = some _ := he
      rw [he'] at ho
      cases ho
      exact absurd (Value.type.inj hcl) (by decide)
    have hel : e < s.heap.objs.size := Heap.lt_size he
    have hil : it < s.heap.objs.size := by obtain ⟨_, q, _⟩ := hit; exact Heap.lt_size q
    have D1 := Draws.tuple (prog := X.prog) (w := X.w) (A := X.A.in1) (I.ok.hd hc) it a ne1 its.toArray
    have l1 : i < its.toArray.size := by
      have : i < its.length := (List.getElem?_eq_some_iff.mp (by simpa using hu)).1
      simpa using this
    refine wpAny_pyNext_enum_itemD D1 he ⟨hit, pt⟩ l1 hne (by simp [hne, nea]) fun x1 h' tk y1 ho hit' hT hsz hk => ?_
    have e1 : x1 = u := by
      have hu' : its.toArray[i]? = some u := by simpa using hu
      rw [hu'] at y1
      exact (Option.some.inj y1).symm
    subst e1
    refine ⟨_, rfl, wpAny_letOwnedTupleGo_enum (s := { s with heap := h', toks := tk + 1 }) ho fun h'' he' sb => ?_⟩
    have T2 : h''.get? s.heap.objs.size = some { cls := .type "tuple", data := .seq #[.int i tk, x1] } := (sb.2 _ (Nat.ne_of_gt hel)).trans hT
    have new : ObjOk X.prog X.w (upd H s.heap.objs.size (.tup [.int (i : Nat), x])) h'' s.heap.objs.size (.tup [.int (i : Nat), x]) :=
      ⟨by show 2 ≤ sizeLine; decide, [.int i tk, x1], .cons ⟨_, rfl⟩ (.cons ru .nil), ⟨_, T2, rfl, _, rfl⟩⟩
    have I1 : Inv X pins σ (upd H s.heap.objs.size (.tup [.int (i : Nat), x])) { s with heap := h'', toks := tk + 1 } :=
      I.turnedNew (ch := [e, it]) (fun b ob hb q => (sb.2 b (fun z => hb (by simp [z]))).trans (hk b ob (fun z => hb (by simp [z])) (fun z => hb (by simp [z])) q)) hf (Nat.le_refl _) new
    refine ⟨.ref s.heap.objs.size, _, I1, rfl, ⟨_, x, rfl, I.hok.fresh (Nat.le_refl _), rfl, fun ys hy => by rw [I.tuple_inj hy hq]; exact hx⟩, ⟨⟨x1, ?_⟩, ?_, hne⟩, fun b hb => ?_⟩
    · have e1 : ((i + 1 : Nat) : Int) = (i : Int) + 1 := by omega
      rw [e1]; exact he'
    · obtain ⟨⟨o, q, r⟩, _⟩ := hit'
      exact ⟨o, (sb.2 it (Ne.symm hne)).trans q, r⟩
    · have lt : b < s.heap.objs.size := by
        have e' : b = e ∨ b = it := by simpa using hb
        rcases e' with z | z <;> rw [z] <;> assumption
      rw [upd_ne (Nat.ne_of_lt lt)]
      exact (hf b hb).1
  done := by
    intro X hP hw hK hc i pins s σ H E I hf st hg
    subst hP hw hK
    obtain ⟨⟨old, he⟩, hit, hne⟩ := st
    obtain ⟨xs, hq, hx⟩ := hg
    obtain ⟨its, rv, pt, _⟩ := I.tuple hq
    obtain ⟨f0, f1, f2, f3, f4, f5⟩ := hf it (by simp)
    have ne1 : a ≠ it := fun e => by
      obtain ⟨o, ho, hcl, _⟩ := pt
      obtain ⟨o1, e1, c1, _⟩ := hit
      rw [e] at ho
      rw [e1] at ho
      cases ho
      rw [hcl] at c1
      exact absurd (Value.type.inj c1) (by decide)
    have D1 := Draws.tuple (prog := X.prog) (w := X.w) (A := X.A.in1) (I.ok.hd hc) it a ne1 its.toArray
    have sz : i = its.toArray.size := by rw [List.size_toArray, hx]; exact rv.length
    subst sz
    exact wpAny_pyNext_enum_endD D1 he ⟨hit, pt⟩ fun h' eb => ⟨rfl, I.turned (t' := s.toks) (fun b o hb q => eb b o hb q) f0 f1 f3 f4 f5⟩
  self := fun A i s Q E st h => let ⟨⟨_, he⟩, _⟩ := st; wpAny_pyIter_enum he h
set_option maxHeartbeats 4000000 in
theorem meets_enumB {v : Value} {o : Obj} {H : Heap → Prop} (B : Begins v o H) :
    Meets (Builtin.«enumerate.__new__» ⟨[.type "enumerate", v], []⟩) (fun _ R s => H s.heap ∧
      R (.ok (.ret (.ref (s.heap.push o).objs.size))) { s with heap := (s.heap.push o).push { cls := .type "enumerate", data := .fields #[.none, .bool false, .ref s.heap.objs.size, rawInt 0, .none, .none] } }) :=
  .of_wp fun prog w A R s h => by
    obtain ⟨hp, g, d, tk, os⟩ := s
    obtain ⟨h1, h⟩ := h
    have hsub := sub_enumerate
    have go : ∀ {A' : Around} {E : Value → Shared → Prop} {Q : Value → Shared → Prop}, Q (.ref hp.objs.size) ⟨hp.push o, g, d, tk, os⟩ → wpAny (model prog w) A' (pyIter v) Q E ⟨hp, g, d, tk, os⟩ :=
      fun q => B.iter prog w _ _ ⟨hp, g, d, tk, os⟩ _ h1 q
    wp_walk using go
    refine wpAny_stack_any fun st => wpAny_pure ?_
    split
    case h_1 =>
      rename_i c _ _ _ _ _
      cases (c == Value.type "enumerate")
      all_goals
        wp_walk using go
        exact ⟨_, rfl, h⟩
    all_goals
      wp_walk using go
      exact ⟨_, rfl, h⟩
theorem enumB {prog : Program} {w : World} {A : Around} {E : Value → Shared → Prop} {s : Shared} {v : Value} {o : Obj} {H : Heap → Prop} {Q : Value → Shared → Prop} (B : Begins v o H) (h1 : H s.heap)
    (h : ∀ h', IsEnum h' (s.heap.objs.size + 1) s.heap.objs.size 0 .none → h'.get? s.heap.objs.size = some o → h'.objs.size = s.heap.objs.size + 2 →
      (∀ b o, s.heap.get? b = some o → h'.get? b = some o) → Q (.ref (s.heap.objs.size + 1)) { s with heap := h' }) :
    wpAny (model prog w) A (call (.type "enumerate") [v]) Q E s := by
  refine callType_new PySem.F.called_enumerate (by decide) (PySem.F.typeCall_enumerate_1 _) (PySem.F.newCall_enumerate_1 _) (fun obj => PySem.F.args_object_init_2 obj _) PySem.F.entry_enumerate_new (meets_enumB B) ⟨h1, ?_⟩
  have hz : (s.heap.push o).objs.size = s.heap.objs.size + 1 := Heap.size_push ..
  have he := Heap.get?_push_size (s.heap.push o) (o := { cls := .type "enumerate", data := .fields #[.none, .bool false, .ref s.heap.objs.size, rawInt 0, .none, .none] }) rfl
  show _ ∧ _
  rw [hz] at he ⊢
  exact ⟨⟨_, he, rfl⟩, h _ he (Heap.get?_push_of_some _ (Heap.get?_push_size _ B.free)) (by rw [Heap.size_push, hz]) fun b o x => Heap.get?_push_of_some _ (Heap.get?_push_of_some _ x)⟩
def iEnumT (K : PySem.W.Frag) (ta : TA) : TI := fun σ H R => ta σ H fun vs H1 => ∃ (a : Addr) (xs : List V), vs = [.ref a] ∧ SqT K H1 a xs ∧ R (IteT K a) H1
theorem pi_enumT {X : Cx} {e : Expr} {ta : TA} {p pos tpos : Pos} {elts : List Expr} {kk : Nat} (hg : Gl X "enumerate") (hm : X.mg "enumerate" = none) (ha : PA X [e] ta) (hs : starEach [e] X.env = [(false, eval e X.env)] := by rfl) :
    PI X (.Tuple elts kk tpos) (.Call (.Name "enumerate" p) [e] [] pos) (iEnumT X.K ta) := by
  constructor
  intro pins s σ H R I h
  refine Call_ (ld_blt I hg hm boot_enumerate (PyProof.Rows.callWith_type1 (thn (ha.run pos pins s σ H _ I h) fun us s1 z => ?_) hs rfl))
  obtain ⟨vs, H1, I1, r1, a, xs, ex, hq, q⟩ := z
  subst ex
  obtain ⟨u1, rfl, ra⟩ := vals1 r1
  cases (show u1 = Value.ref a from ra)
  obtain ⟨its, rv, pt, _⟩ := I1.tuple hq
  refine enumB (begins_tuple a its.toArray) pt fun h' he g1 hsz hk => wpAny_pyIter_enum he ?_
  have I2 : Inv X pins σ H1 { s1 with heap := h' } := I1.kept (t' := s1.toks) hk
  refine ⟨s1.heap.objs.size + 1, [s1.heap.objs.size + 1, s1.heap.objs.size], _, _, H1, rfl, I2, turn_enumT a (s1.heap.objs.size + 1) s1.heap.objs.size, ⟨⟨.none, he⟩, ⟨_, g1, rfl, rfl⟩, Nat.succ_ne_self _⟩, fun b hb => ?_, q⟩
  have e' : b = s1.heap.objs.size + 1 ∨ b = s1.heap.objs.size := by simpa using hb
  have hle : s1.heap.objs.size ≤ b := by
    rcases e' with z | z <;> rw [z] <;> first | exact Nat.le_add_right _ _ | exact Nat.le_refl _
  exact I1.fpOk hle (I1.hok.fresh hle)
/-! ### lcm -/
def rLcm : List V → Hp → VK → Prop := fun vs H Q => ∃ a b : Int, vs = [.int a, .int b] ∧ a.natAbs < 2 ^ 64 ∧ b.natAbs < 2 ^ 64 ∧ (((Nat.lcm 1 a.natAbs).lcm b.natAbs : Nat) : Int).natAbs.log2 < bitsLine ∧ Q (.int (((Nat.lcm 1 a.natAbs).lcm b.natAbs : Nat) : Int)) H
theorem cr_lcm {X : Cx} : CallR X (.builtin "math.lcm") rLcm := by
  intro pins s σ H vs us Q I r h
  obtain ⟨a, b, rfl, h1, h2, h3, q⟩ := h
  obtain ⟨t, u, rfl⟩ := Vals.int2 r
  exact PySem.W.mg_lcm h1 h2 h3 ⟨.int _, H, I.tok _, ⟨_, rfl⟩, q⟩
end TSx

/-! Own layer, part R7: defs that only tell a value; isinstance of data, chains, texts of sides. -/
namespace TSx
open PySem L2
/-- a def that tells of some data a thing, and changes nothing -/
def spP (K : PySem.W.Frag) (f : List D → D → Prop) : Sp := fun vs H Q _ => ∃ ds r, DtA K H vs ds ∧ f ds r ∧ ∀ v H', Same H H' → Dt K H' v r → Q v H'
structure Blt2 (mg : Str → Option Value) : Prop where
  int : mg "int" = none
  bool : mg "bool" = none
  str : mg "str" = none
  tuple : mg "tuple" = none
  list : mg "list" = none
  zip : mg "zip" = none
  sum : mg "sum" = none
  all : mg "all" = none
def D.ty : D → String
  | .non => "NoneType"
  | .bl _ => "bool"
  | .int _ => "int"
  | .str _ => "str"
  | .lst _ => "list"
  | .tup _ => "tuple"
  | .dic _ => "dict"
  | .exc _ _ => ""
def D.isE : D → Bool
  | .exc _ _ => true
  | _ => false
section
variable {K : PySem.W.Frag} {σ : Sg} {H : Hp} {te ta tb tc : TE} {t : TA} {d r : D} {ds es : List D} {f : List D → D → Prop}
theorem mk_call (h : MkA K t σ H ds) (hf : f ds r) : Mk K (tCall (spP K f) [] E0 t) σ H r := fun H1 s Q q => h H1 s _ fun vs H2 s2 a => by
  show spP K f (vs ++ []) H2 Q E0
  rw [List.append_nil]
  exact ⟨ds, r, a, hf, fun v H' s' x => q v H' (s2.trans s') x⟩
theorem ty_of {v : V} (h : Dt K H v d) (e : d.isE = false) : TyX K H v (.type d.ty) := by
  cases h with
  | non => exact .base .non
  | bl b => exact .base (.bl b)
  | int i => exact .base (.int i)
  | str x => exact .base (.str x)
  | lst h _ => exact .base (.lst h)
  | tup h _ =>
    rcases h with (h | ⟨o, h⟩) | h
    · exact .base (.tup h)
    · exact .fTuple h
    · obtain ⟨o, _, _, h1, h2, _⟩ := h
      exact .kTuple h1 h2
  | dic h _ => exact .base (.dK h)
  | exc _ _ _ => cases e
theorem mk_isi {T : String} {b : Bool} (h : Mk K ta σ H d) (e : d.isE = false) (k : kitB d.ty T = some b) : Mk K (tCB (rIsi K) (tCons ta (tCons (tC (.ty T)) tNil))) σ H (.bl b) := fun H1 s Q q => h H1 s _ fun v H2 s2 a =>
  ⟨v, .ty T, _, _, b, rfl, .ty T, ty_of a e, kit_ty k, q _ H2 s2 (.bl b)⟩
theorem mk_andV {a b : Bool} (h : Mk K ta σ H (.bl a)) (h2 : a = true → Mk K tb σ H (.bl b)) : Mk K (tAndV ta tb) σ H (.bl (a && b)) := fun H1 s Q q => h H1 s _ fun v H2 s2 x => by
  cases x
  refine ⟨a, rfl, ?_⟩
  cases a with
  | true =>
    rw [if_pos rfl]
    exact h2 rfl H2 (s.trans s2) _ fun u H3 s3 y => q u H3 (s2.trans s3) (by simpa using y)
  | false =>
    rw [if_neg (by decide)]
    exact q _ H2 s2 (by simpa using Dt.bl false)
theorem mk_notV {a : Bool} (h : Mk K ta σ H (.bl a)) : Mk K (tNotV ta) σ H (.bl (!a)) := fun H1 s Q q => h H1 s _ fun v H2 s2 x => by
  cases x
  exact ⟨a, rfl, q _ H2 s2 (.bl _)⟩
theorem mk_chainI {i j k : Int} {g g' : Int → Int → Bool} (h : Mk K ta σ H (.int i)) (h2 : Mk K tb σ H (.int j)) (h3 : Mk K tc σ H (.int k)) :
    Mk K (tChain (rI0 fun i j => .bl (g i j)) (rI0 fun i j => .bl (g' i j)) ta tb tc) σ H (.bl (g i j && g' j k)) := fun H1 s Q q => h H1 s _ fun v H2 s2 x => h2 H2 (s.trans s2) _ fun u H3 s3 y => by
  cases x
  cases y
  refine ⟨i, j, rfl, rfl, _, rfl, ?_⟩
  cases e : g i j with
  | true =>
    rw [if_pos rfl]
    exact h3 H3 ((s.trans s2).trans s3) _ fun z H4 s4 x => by
      cases x
      exact ⟨j, k, rfl, rfl, q _ H4 ((s2.trans s3).trans s4) (by rw [e]; exact .bl _)⟩
  | false =>
    rw [if_neg (by decide)]
    exact q _ H3 (s2.trans s3) (by rw [e]; exact .bl _)
theorem mk_lenT (h : Mk K ta σ H (.tup ds)) : Mk K (tCB (fun xs H Q => ∃ p ys, xs = [.ref p] ∧ (SqL K H p ys ∨ SqT K H p ys) ∧ Q (.int ys.length) H) (tCons ta tNil)) σ H (.int ds.length) := fun H1 s Q q => h H1 s _ fun v H2 s2 a => by
  cases a with
  | @tup p xs ds e aa =>
    refine ⟨p, xs, rfl, Or.inr e, ?_⟩
    rw [aa.len]
    exact q _ H2 s2 (.int _)
theorem mk_ixT {i : Nat} (h : Mk K ta σ H (.tup ds)) (h2 : Mk K tb σ H (.int (i : Int))) (e : ds[i]? = some d) : Mk K (tOp (rIxT K) ta tb) σ H d := fun H1 s Q q => h H1 s _ fun v H2 s2 a => h2 H2 (s.trans s2) _ fun u H3 s3 b => by
  cases b
  cases a with
  | @tup p xs _ el aa =>
    obtain ⟨x, hx, ax⟩ := aa.nth e
    exact ⟨p, xs, (i : Int), x, rfl, rfl, gr_T s3 el, atI_nat hx, q x _ (s2.trans s3) (ax.gr s3)⟩
/-- a text among written ones -/
theorem inV_str (x : Str) : ∀ {vs : List V} {ws : List Str}, DtA K H vs (ws.map D.str) → inV (.str x) vs = ws.any (fun y => y == x) ∧ vs.all flatV = true := by
  intro vs ws h
  induction ws generalizing vs with
  | nil => cases h; exact ⟨rfl, rfl⟩
  | cons w ws ih =>
    cases h with
    | @cons v vs _ _ a b =>
    cases a
    obtain ⟨h1, h2⟩ := ih b
    refine ⟨?_, ?_⟩
    · show (eqV (.str w) (.str x) || inV (.str x) vs) = _
      rw [h1]
      rfl
    · show (true && vs.all flatV) = true
      rw [h2]; rfl
theorem mk_inT {x : Str} {ws : List Str} (h : Mk K ta σ H (.str x)) (h2 : Mk K tb σ H (.tup (ws.map D.str))) : Mk K (tOp (rIn K false) ta tb) σ H (.bl (ws.any fun y => y == x)) := fun H1 s Q q => h H1 s _ fun v H2 s2 a => h2 H2 (s.trans s2) _ fun u H3 s3 b => by
  cases a
  cases b with
  | @tup p xs _ e aa =>
    obtain ⟨h3, h4⟩ := inV_str x aa
    refine ⟨p, xs, rfl, Or.inr e, rfl, h4, ?_⟩
    rw [if_neg (by decide), h3]
    exact q _ H3 (s2.trans s3) (.bl _)
end
/-- a constant of the module -/
theorem pe_cst {X : Cx} {x : Str} {n : Int} {t : Tok} {pos : Pos} (hg : Gl X x) (hm : X.mg x = some (.int n t)) (hd : (x == ("__debug__" : Str)) = false := by decide) : PE X (.Name x pos) (tC (.int n)) := pe_glob hg hm ⟨t, rfl⟩ hd
theorem pe_cstR {X : Cx} {x : Str} {p : Addr} {pos : Pos} (hg : Gl X x) (hm : X.mg x = some (.ref p)) (hd : (x == ("__debug__" : Str)) = false := by decide) : PE X (.Name x pos) (tC (.ref p)) := pe_glob hg hm rfl hd
/-- a text of sides -/
def sideC (b : Bool) : Nat := if b = true then 97 else 98
def sideS (l : List Bool) : Str := ⟨(l.map sideC).toArray⟩
theorem sideS_at {l : List Bool} {i c : Nat} (h : (sideS l).cps[i]? = some c) : ∃ b, l[i]? = some b ∧ c = sideC b := by
  have h' : (l.map sideC)[i]? = some c := by simpa [sideS] using h
  rw [List.getElem?_map] at h'
  cases e : l[i]? with
  | none => rw [e] at h'; cases h'
  | some b => rw [e] at h'; cases h'; exact ⟨b, rfl, rfl⟩
theorem sideS_size (l : List Bool) : (sideS l).cps.size = l.length := by simp [sideS]
theorem sideS_len (l : List Bool) : (sideS l).length = l.length := by
  show (sideS l).cps.size = l.length
  exact sideS_size l
theorem side_in (b : Bool) : decide (sideC b ∈ (Str.ofString "ab").cps.toList) = true := by cases b <;> decide +kernel
end TSx

/-! Own layer, part RC: counts of sides. -/
namespace TSx
open PySem L2
def allB : Nat → List (List Bool)
  | 0 => [[]]
  | n + 1 => (allB n).flatMap fun l => [true :: l, false :: l]
theorem mem_allB : ∀ l : List Bool, l ∈ allB l.length
  | [] => List.mem_singleton.mpr rfl
  | b :: l => by
    refine List.mem_flatMap.mpr ⟨l, mem_allB l, ?_⟩
    cases b <;> simp
theorem cnt_all : ∀ n : Nat, n < 10 → ∀ l ∈ allB n, (Txt.count (sideS l) (Str.ofString "a") = (l.count true : Nat) ∧ Txt.count (sideS l) (Str.ofString "b") = (l.count false : Nat)) := by decide +kernel
theorem cnt_side (l : List Bool) (h : l.length < 10) : Txt.count (sideS l) (Str.ofString "a") = (l.count true : Nat) ∧ Txt.count (sideS l) (Str.ofString "b") = (l.count false : Nat) := cnt_all _ h l (mem_allB l)
end TSx

/-! Own layer, part R8: the houses. -/
namespace TSx
open PySem L2
inductive Way where
  | ward (w : Nat) | body (b : Nat) (t : Str) | rest (b : Nat) (t : Str) | kept
structure Seat where
  term : Nat
  phase : Nat
  way : Way
def Way.d : Way → D
  | .ward w => .tup [.str "ward", .int w]
  | .body b t => .tup [.str "body", .int b, .str t]
  | .rest b t => .tup [.str "rest", .int b, .str t]
  | .kept => .tup [.str "kept"]
def tiesL : List Str := ["a", "b", "kept"]
def Way.ok (n wards : Nat) : Way → Prop
  | .ward w => w < wards
  | .body b t => b < n ∧ t ∈ tiesL
  | .rest b t => b < n ∧ t ∈ tiesL
  | .kept => True
def Seat.d (s : Seat) : D := .tup [.int s.term, .int s.phase, s.way.d]
structure Seat.ok (n wards : Nat) (s : Seat) : Prop where
  t1 : 1 ≤ s.term
  t6 : s.term ≤ 6
  p : s.phase < s.term
  w : s.way.ok n wards
def bodyD (b : List Seat) : D := .tup (b.map Seat.d)
structure House where
  bodies : List (List Seat)
  wards : Nat
def House.d (h : House) : D := .tup [.tup (h.bodies.map bodyD), .int h.wards]
def lcmB (c : Nat) (b : List Seat) : Nat := b.foldl (fun c s => (Nat.lcm 1 c).lcm s.term) c
def lcmH (h : House) : Nat := h.bodies.foldl lcmB 1
structure House.ok (h : House) : Prop where
  w : h.wards ≤ 4
  n1 : 1 ≤ h.bodies.length
  n3 : h.bodies.length ≤ 3
  b : ∀ b ∈ h.bodies, 1 ≤ b.length ∧ b.length ≤ 9
  sum : (h.bodies.map (fun b => (b.length : Int))).sum ≤ 9
  s : ∀ b ∈ h.bodies, ∀ s ∈ b, s.ok h.bodies.length h.wards
  lc : lcmH h ≤ 12
/-! what the small looks are asked, and tell: all true here -/
def fWhole (ds : List D) (r : D) : Prop := ∃ i a b : Int, ds = [.int i, .int a, .int b] ∧ a ≤ i ∧ i ≤ b ∧ r = .bl true
def fTuple (ds : List D) (r : D) : Prop := ∃ (xs : List D) (a b : Int), ds = [.tup xs, .int a, .int b] ∧ a ≤ xs.length ∧ (xs.length : Int) ≤ b ∧ r = .bl true
def fWord (ds : List D) (r : D) : Prop := ∃ (x : Str) (ws : List Str), ds = [.str x, .tup (ws.map D.str)] ∧ x ∈ ws ∧ r = .bl true
def fSides (ds : List D) (r : D) : Prop := ∃ l : List Bool, ds = [.str (sideS l), .int (l.length : Int)] ∧ l.length ≤ 1000 ∧ r = .bl true
def fWay (ds : List D) (r : D) : Prop := ∃ (w : Way) (n wards : Nat), ds = [w.d, .int n, .int wards] ∧ w.ok n wards ∧ r = .bl true
def fSeat (ds : List D) (r : D) : Prop := ∃ (s : Seat) (n wards : Nat), ds = [s.d, .int n, .int wards] ∧ s.ok n wards ∧ r = .bl true
section
variable {K : PySem.W.Frag} {σ : Sg} {H : Hp} {te ta tb tc ti : TE} {t : TA} {d r d1 d2 d3 d4 d5 : D} {ds es : List D} {f : List D → D → Prop}
theorem DtA.one {vs : List V} (h : DtA K H vs [d1]) : ∃ v1, vs = [v1] ∧ Dt K H v1 d1 := by
  cases h with | cons a h => cases h; exact ⟨_, rfl, a⟩
theorem DtA.two {vs : List V} (h : DtA K H vs [d1, d2]) : ∃ v1 v2, vs = [v1, v2] ∧ Dt K H v1 d1 ∧ Dt K H v2 d2 := by
  cases h with | cons a h => obtain ⟨v2, rfl, b⟩ := DtA.one h; exact ⟨_, _, rfl, a, b⟩
theorem DtA.three {vs : List V} (h : DtA K H vs [d1, d2, d3]) : ∃ v1 v2 v3, vs = [v1, v2, v3] ∧ Dt K H v1 d1 ∧ Dt K H v2 d2 ∧ Dt K H v3 d3 := by
  cases h with | cons a h => obtain ⟨v2, v3, rfl, b, c⟩ := DtA.two h; exact ⟨_, _, _, rfl, a, b, c⟩
theorem DtA.four {vs : List V} (h : DtA K H vs [d1, d2, d3, d4]) : ∃ v1 v2 v3 v4, vs = [v1, v2, v3, v4] ∧ Dt K H v1 d1 ∧ Dt K H v2 d2 ∧ Dt K H v3 d3 ∧ Dt K H v4 d4 := by
  cases h with | cons a h => obtain ⟨v2, v3, v4, rfl, b, c, e⟩ := DtA.three h; exact ⟨_, _, _, _, rfl, a, b, c, e⟩
theorem DtA.five {vs : List V} (h : DtA K H vs [d1, d2, d3, d4, d5]) : ∃ v1 v2 v3 v4 v5, vs = [v1, v2, v3, v4, v5] ∧ Dt K H v1 d1 ∧ Dt K H v2 d2 ∧ Dt K H v3 d3 ∧ Dt K H v4 d4 ∧ Dt K H v5 d5 := by
  cases h with | cons a h => obtain ⟨v2, v3, v4, v5, rfl, b, c, e, g⟩ := DtA.four h; exact ⟨_, _, _, _, _, rfl, a, b, c, e, g⟩
theorem mt_or {tt uu : TT} {b : Bool} (h : MkT tt σ H false) (h2 : MkT uu σ H b) : MkT (tOr tt uu) σ H b := fun H1 s Q q => h H1 s _ fun H2 s2 => h2 H2 (s.trans s2) Q fun H3 s3 => q H3 (s2.trans s3)
theorem mt_orT {tt uu : TT} (h : MkT tt σ H true) : MkT (tOr tt uu) σ H true := fun H1 s Q q => h H1 s _ fun H2 s2 => q H2 s2
theorem kInt : kitB "int" "int" = some true := by decide +kernel
theorem kIntB : kitB "int" "bool" = some false := by decide +kernel
theorem kTup : kitB "tuple" "tuple" = some true := by decide +kernel
theorem kStr : kitB "str" "str" = some true := by decide +kernel
/-- a, b, c = t -/
theorem r_unp3 {v : V} {i j k : Nat} {Q : Sg → Hp → Prop} (h : Dt K H v (.tup [d1, d2, d3])) (q : ∀ v1 v2 v3, Dt K H v1 d1 → Dt K H v2 d2 → Dt K H v3 d3 → Q (((σ.set i (some v1)).set j (some v2)).set k (some v3)) H) :
    gTup K 3 (gCons (gName i) (gCons (gName j) (gCons (gName k) gNil))) v σ H Q := by
  cases h with
  | @tup p xs _ e aa =>
    obtain ⟨v1, v2, v3, rfl, a, b, c⟩ := aa.three
    exact ⟨p, _, rfl, e, rfl, _, _, rfl, r_name ⟨_, _, rfl, r_name ⟨_, _, rfl, r_name ⟨rfl, q v1 v2 v3 a b c⟩⟩⟩⟩
theorem r_unp2 {v : V} {i j : Nat} {Q : Sg → Hp → Prop} (h : Dt K H v (.tup [d1, d2])) (q : ∀ v1 v2, Dt K H v1 d1 → Dt K H v2 d2 → Q ((σ.set i (some v1)).set j (some v2)) H) :
    gTup K 2 (gCons (gName i) (gCons (gName j) gNil)) v σ H Q := by
  cases h with
  | @tup p xs _ e aa =>
    obtain ⟨v1, v2, rfl, a, b⟩ := aa.two
    exact ⟨p, _, rfl, e, rfl, _, _, rfl, r_name ⟨_, _, rfl, r_name ⟨rfl, q v1 v2 a b⟩⟩⟩
theorem mk_lenS {z : Str} (h : Mk K ta σ H (.str z)) (l : z.length ≤ 100000) : Mk K (tCB (fun xs H Q => ∃ z, xs = [.str z] ∧ z.length ≤ sizeLine ∧ Q (.int z.length) H) (tCons ta tNil)) σ H (.int z.length) := fun H1 s Q q => h H1 s _ fun v H2 s2 a => by
  cases a
  exact ⟨z, rfl, sz1 l, q _ H2 s2 (.int _)⟩
theorem DtA.bls : ∀ {vs : List V} {bs : List Bool}, DtA K H vs (bs.map D.bl) → vs = bs.map V.bl
  | _, [], h => by cases h; rfl
  | _, b :: bs, h => by
    cases h with
    | cons a h => cases a; rw [DtA.bls h]; rfl
theorem DtA.ints : ∀ {vs : List V} {bs : List Int}, DtA K H vs (bs.map D.int) → vs = bs.map V.int
  | _, [], h => by cases h; rfl
  | _, b :: bs, h => by
    cases h with
    | cons a h => cases a; rw [DtA.ints h]; rfl
theorem DtA.strs : ∀ {vs : List V} {bs : List Str}, DtA K H vs (bs.map D.str) → vs = bs.map V.str
  | _, [], h => by cases h; rfl
  | _, b :: bs, h => by
    cases h with
    | cons a h => cases a; rw [DtA.strs h]; rfl
theorem mk_all {bs : List Bool} (h : Mk K ta σ H (.lst (bs.map D.bl))) : Mk K (tCB (rAll K) (tCons ta tNil)) σ H (.bl (bs.all id)) := fun H1 s Q q => h H1 s _ fun v H2 s2 a => by
  cases a with
  | @lst p xs _ e aa =>
    have := aa.bls
    subst this
    exact ⟨p, bs, rfl, SqL.of e, q _ H2 s2 (.bl _)⟩
theorem mk_sum {ns : List Int} (h : Mk K ta σ H (.lst (ns.map D.int))) : Mk K (tCB (rSum K) (tCons ta tNil)) σ H (.int ns.sum) := fun H1 s Q q => h H1 s _ fun v H2 s2 a => by
  cases a with
  | @lst p xs _ e aa =>
    have := aa.ints
    subst this
    exact ⟨p, ns, rfl, SqL.of e, q _ H2 s2 (.int _)⟩
/-- [e for c in letters] -/
theorem mk_lcS {l : List Bool} {i : Nat} {g : Bool → D} (hs : ∀ b, (g b).sc = true) (h : Mk K ti σ H (.str (sideS l))) (hl : l.length ≤ 1000) (step : ∀ b H1, Same H H1 → Mk K te ((σ.set i none).set i (some (.str ⟨#[sideC b]⟩))) H1 (g b)) :
    Mk K (tLc (iStr ti) (gName i) tYes te [i]) σ H (.lst (l.map g)) := fun H1 s Q q => h H1 s _ fun v H2 s2 a => by
  cases a
  refine ⟨_, rfl, fun D nD => lc_it (walk_str (z := sideS l)) (fun j H' => ∃ xs : List V, H' D = some (.lst xs) ∧ xs.length = j ∧ Same H2 H' ∧ DtA K H' xs ((l.take j).map g)) ⟨[], upd_same, rfl, same_new nD, .nil⟩ (fun _ _ _ _ => trivial) ?_ ?_⟩
  · rintro j x H' H'' hj ⟨xs, e, lx, s', aa⟩ ⟨rfl, c, hc, rfl⟩
    obtain ⟨b, hb, rfl⟩ := sideS_at hc
    refine r_name ⟨?_, ?_⟩
    · show ((σ.set i none).set i (some (V.str ⟨#[sideC b]⟩))).set i none = σ.set i none
      rw [List.set_set, List.set_set]
    · refine r_yes ?_
      have st := step b H'' ((s.trans s2).trans s')
      refine st H'' Gr.rfl' _ fun y H4 s4 ay => ?_
      have hj' : j < l.length := (List.getElem?_eq_some_iff.mp hb).1
      refine ⟨xs, s4 _ _ e, by rw [lx]; exact sz2 (by omega), xs ++ [y], upd_same, by rw [List.length_append, lx]; rfl, same_mut (s'.trans s4) nD, ?_⟩
      have tk : l.take (j + 1) = l.take j ++ [b] := by rw [List.take_add_one, hb]; rfl
      have fl : ∀ x ∈ (l.take j).map g, x.sc = true := by
        intro x hx
        obtain ⟨y, _, rfl⟩ := List.mem_map.mp hx
        exact hs y
      rw [tk, List.map_append]
      exact (aa.any fl).app (.cons (ay.any (hs b)) .nil)
  · rintro H' ⟨xs, e, lx, s', aa⟩
    rw [sideS_size, List.take_length] at aa
    exact q _ _ (s2.trans s') (.lst e aa)
end
end TSx

/-! Own layer, part R9: loops over data. -/
namespace TSx
open PySem L2
/-- te finds data that stand already -/
def Ev0 (K : PySem.W.Frag) (te : TE) (σ : Sg) (H H0 : Hp) (d : D) : Prop := ∃ v, Dt K H0 v d ∧ ∀ Q : VK, Q v H → te σ H Q
abbrev Ev (K : PySem.W.Frag) (te : TE) (σ : Sg) (H : Hp) (d : D) : Prop := Ev0 K te σ H H d
section
variable {K : PySem.W.Frag} {σ : Sg} {H H0 : Hp} {te ta tb tc ti : TE} {t : TA} {d r : D} {ds es : List D} {g : TG} {b : TS} {E : Ends}
theorem ev0_var {n : Nat} {v : V} (h : σ[n]? = some (some v)) (a : Dt K H0 v d) : Ev0 K (tVar n) σ H H0 d := ⟨v, a, fun Q q => r_v h q⟩
theorem ev_var {n : Nat} {v : V} (h : σ[n]? = some (some v)) (a : Dt K H v d) : Ev K (tVar n) σ H d := ⟨v, a, fun Q q => r_v h q⟩
theorem ev_int {i : Int} : Ev K (tC (.int i)) σ H (.int i) := ⟨_, .int i, fun Q q => q⟩
theorem ev_ixT {i : Nat} (h : Ev K ta σ H (.tup ds)) (h2 : Ev K tb σ H (.int (i : Int))) (e : ds[i]? = some d) : Ev K (tOp (rIxT K) ta tb) σ H d := by
  obtain ⟨v, a, k1⟩ := h
  obtain ⟨u, c, k2⟩ := h2
  cases c
  cases a with
  | @tup p xs _ el aa =>
    obtain ⟨x, hx, ax⟩ := aa.nth e
    exact ⟨x, ax, fun Q q => k1 _ (k2 _ ⟨p, xs, (i : Int), x, rfl, rfl, el, atI_nat hx, q⟩)⟩
theorem ev_ixL {i : Nat} (h : Ev K ta σ H (.lst ds)) (h2 : Ev K tb σ H (.int (i : Int))) (e : ds[i]? = some d) : Ev K (tOp (rIxL K) ta tb) σ H d := by
  obtain ⟨v, a, k1⟩ := h
  obtain ⟨u, c, k2⟩ := h2
  cases c
  cases a with
  | @lst p xs _ el aa =>
    obtain ⟨x, hx, ax⟩ := aa.nth e
    exact ⟨x, ax, fun Q q => k1 _ (k2 _ ⟨p, xs, (i : Int), x, rfl, rfl, SqL.of el, atI_nat hx, q⟩)⟩
theorem Ev.mk (h : ∀ H1, Same H H1 → Ev K te σ H1 d) : Mk K te σ H d := fun H1 s Q q => by
  obtain ⟨v, a, k⟩ := h H1 s
  exact k _ (q v H1 Gr.rfl' a)
theorem DtA.get {vs : List V} (h : DtA K H vs ds) {i : Nat} {x : V} (e : vs[i]? = some x) : ∃ y, ds[i]? = some y ∧ Dt K H x y := h.at e
theorem walk_enumT {a : Addr} {xs : List V} : Walk (IteT K a) xs.length (fun H => SqT K H a xs) (YPair (fun i => some (.int (i : Nat))) (fun i => xs[i]?)) :=
  ⟨fun i H hi h => ⟨xs, xs[i], h, List.getElem?_eq_getElem hi⟩, fun H h => ⟨xs, h, rfl⟩, fun i H x H' hi h y => by
    obtain ⟨T, u, rfl, hT, rfl, f⟩ := y
    exact ⟨T, _, u, rfl, hT, rfl, rfl, f xs h⟩⟩
theorem walk_zipT {a c : Addr} {xs ys : List V} (hl : xs.length = ys.length) : Walk (RZ.ItzT K a c) xs.length (fun H => SqT K H a xs ∧ SqT K H c ys) (YPair (fun i => xs[i]?) (fun i => ys[i]?)) :=
  ⟨fun i H hi h => ⟨xs, ys, xs[i], ys[i]'(by omega), h.1, h.2, List.getElem?_eq_getElem hi, List.getElem?_eq_getElem _⟩, fun H h => ⟨xs, ys, h.1, h.2, Or.inl (Nat.le_refl _)⟩, fun i H x H' hi h y => by
    obtain ⟨T, u, w, rfl, hT, rfl, f1, f2⟩ := y
    exact ⟨T, u, w, rfl, hT, rfl, f1 xs h.1, f2 ys h.2⟩⟩
theorem walk_zipS {a : Addr} {xs : List V} {x : Str} (hl : xs.length = x.cps.size) : Walk (ItzS K a x) xs.length (fun H => SqT K H a xs) (YPair (fun i => xs[i]?) (fun i => x.cps[i]?.map fun c => .str ⟨#[c]⟩)) :=
  ⟨fun i H hi h => ⟨xs, xs[i], x.cps[i]'(by omega), h, List.getElem?_eq_getElem hi, Array.getElem?_eq_getElem _⟩, fun H h => ⟨xs, h, Nat.le_refl _, by omega, Or.inl rfl⟩, fun i H v H' hi h y => by
    obtain ⟨T, u, c, rfl, hT, rfl, f1, f2⟩ := y
    exact ⟨T, u, _, rfl, hT, rfl, f1 xs h, by show (x.cps[i]?).map _ = _; rw [f2]; rfl⟩⟩
/-- for .. in enumerate(tuple) -/
theorem r_forE (h : Ev0 K te σ H H0 (.tup ds)) (Pv : Nat → Sg → Hp → Prop) (h0 : Pv 0 σ H) (hG : ∀ k σ' H', Pv k σ' H' → Same H0 H')
    (step : ∀ k d T σ' H' H'', ds[k]? = some d → Pv k σ' H' → Same H' H'' → Dt K H'' (.ref T) (.tup [.int (k : Nat), d]) → g (.ref T) σ' H'' fun σ2 H2 => b { E with nx := Pv (k + 1), ct := Pv (k + 1), bk := E.nx } σ2 H2)
    (hd : ∀ σ' H', Pv ds.length σ' H' → E.nx σ' H') : tFor (iEnumT K (tCons te tNil)) g b E σ H := by
  obtain ⟨v, a, k⟩ := h
  refine k _ ?_
  cases a with
  | @tup p xs _ e aa =>
    have lx := aa.len
    refine ⟨p, xs, rfl, gr_T (hG _ _ _ h0) e, for_it walk_enumT Pv h0 (fun i σ' H' _ z => gr_T (hG _ _ _ z) e) ?_ (fun σ' H' z => hd σ' H' (by rw [← lx]; exact z))⟩
    rintro i x σ' H' H'' hi z ⟨T, y1, y2, rfl, nT, rfl, e1, e2⟩
    cases e1
    obtain ⟨y, hy, ay⟩ := aa.at e2
    have s1 : Same H' (upd H' T (.tup [.int (i : Nat), y2])) := same_new nT
    exact step i y T σ' H' _ hy z s1 (.tup (SqT.of upd_same) (.cons (.int _) (.cons (ay.gr ((hG _ _ _ z).trans s1)) .nil)))
/-- for .. in zip(tuple, tuple) -/
theorem r_forZ (h : Ev0 K ta σ H H0 (.tup ds)) (h2 : Ev0 K tc σ H H0 (.tup es)) (hl : ds.length = es.length) (Pv : Nat → Sg → Hp → Prop) (h0 : Pv 0 σ H) (hG : ∀ k σ' H', Pv k σ' H' → Same H0 H')
    (step : ∀ k d e T σ' H' H'', ds[k]? = some d → es[k]? = some e → Pv k σ' H' → Same H' H'' → Dt K H'' (.ref T) (.tup [d, e]) → g (.ref T) σ' H'' fun σ2 H2 => b { E with nx := Pv (k + 1), ct := Pv (k + 1), bk := E.nx } σ2 H2)
    (hd : ∀ σ' H', Pv ds.length σ' H' → E.nx σ' H') : tFor (RZ.iZipA K (tCons ta (tCons tc tNil))) g b E σ H := by
  obtain ⟨v, a, k⟩ := h
  obtain ⟨u, c, k2⟩ := h2
  refine k _ (k2 _ ?_)
  cases a with
  | @tup p xs _ e aa =>
  cases c with
  | @tup p2 ys _ e2 cc =>
    have lx := aa.len
    have ly := cc.len
    refine ⟨p, p2, xs, ys, rfl, Or.inr ⟨gr_T (hG _ _ _ h0) e, gr_T (hG _ _ _ h0) e2, for_it (walk_zipT (by omega)) Pv h0 (fun i σ' H' _ z => ⟨gr_T (hG _ _ _ z) e, gr_T (hG _ _ _ z) e2⟩) ?_ (fun σ' H' z => hd σ' H' (by rw [← lx]; exact z))⟩⟩
    rintro i x σ' H' H'' hi z ⟨T, y1, y2, rfl, nT, rfl, q1, q2⟩
    obtain ⟨z1, hz1, az1⟩ := aa.at q1
    obtain ⟨z2, hz2, az2⟩ := cc.at q2
    have s1 : Same H' (upd H' T (.tup [y1, y2])) := same_new nT
    exact step i z1 z2 T σ' H' _ hz1 hz2 z s1 (.tup (SqT.of upd_same) (.cons (az1.gr ((hG _ _ _ z).trans s1)) (.cons (az2.gr ((hG _ _ _ z).trans s1)) .nil)))
/-- for .. in zip(tuple, letters) -/
theorem r_forS {l : List Bool} (h : Ev0 K ta σ H H0 (.tup ds)) (h2 : Ev0 K tc σ H H0 (.str (sideS l))) (hl : ds.length = l.length) (Pv : Nat → Sg → Hp → Prop) (h0 : Pv 0 σ H) (hG : ∀ k σ' H', Pv k σ' H' → Same H0 H')
    (step : ∀ k d s T σ' H' H'', ds[k]? = some d → l[k]? = some s → Pv k σ' H' → Same H' H'' → Dt K H'' (.ref T) (.tup [d, .str (sideS [s])]) → g (.ref T) σ' H'' fun σ2 H2 => b { E with nx := Pv (k + 1), ct := Pv (k + 1), bk := E.nx } σ2 H2)
    (hd : ∀ σ' H', Pv ds.length σ' H' → E.nx σ' H') : tFor (iZipS K (tCons ta (tCons tc tNil))) g b E σ H := by
  obtain ⟨v, a, k⟩ := h
  obtain ⟨u, c, k2⟩ := h2
  refine k _ (k2 _ ?_)
  cases c
  cases a with
  | @tup p xs _ e aa =>
    have lx := aa.len
    refine ⟨p, _, xs, rfl, gr_T (hG _ _ _ h0) e, for_it (walk_zipS (by rw [sideS_size]; omega)) Pv h0 (fun i σ' H' _ z => gr_T (hG _ _ _ z) e) ?_ (fun σ' H' z => hd σ' H' (by rw [← lx]; exact z))⟩
    rintro i x σ' H' H'' hi z ⟨T, y1, y2, rfl, nT, rfl, q1, q2⟩
    obtain ⟨z1, hz1, az1⟩ := aa.at q1
    replace q2 : ((sideS l).cps[i]?).map (fun c => V.str ⟨#[c]⟩) = some y2 := q2
    cases hc : (sideS l).cps[i]? with
    | none => rw [hc] at q2; cases q2
    | some cc =>
      rw [hc] at q2
      cases q2
      obtain ⟨s, hs, rfl⟩ := sideS_at hc
      have s1 : Same H' (upd H' T (.tup [y1, .str ⟨#[sideC s]⟩])) := same_new nT
      exact step i z1 s T σ' H' _ hz1 hs z s1 (.tup (SqT.of upd_same) (.cons (az1.gr ((hG _ _ _ z).trans s1)) (.cons (.str _) .nil)))
/-- for x in tuple -/
theorem r_forT {n : Nat} (h : Ev0 K te σ H H0 (.tup ds)) (Pv : Nat → Sg → Hp → Prop) (h0 : Pv 0 σ H) (hG : ∀ k σ' H', Pv k σ' H' → Same H0 H')
    (step : ∀ k d x σ' H', ds[k]? = some d → Pv k σ' H' → Dt K H' x d → b { E with nx := Pv (k + 1), ct := Pv (k + 1), bk := E.nx } (σ'.set n (some x)) H')
    (hd : ∀ σ' H', Pv ds.length σ' H' → E.nx σ' H') : tFor (iTup K te) (gName n) b E σ H := by
  obtain ⟨v, a, k⟩ := h
  refine k _ ?_
  cases a with
  | @tup p xs _ e aa =>
    have lx := aa.len
    refine ⟨p, rfl, ⟨xs, gr_T (hG _ _ _ h0) e⟩, for_tup (xs := xs) Pv h0 (fun i σ' H' _ z => gr_T (hG _ _ _ z) e) ?_ (fun σ' H' z => hd σ' H' (by rw [← lx]; exact z))⟩
    intro i x σ' H' hx z
    obtain ⟨y, hy, ay⟩ := aa.at hx
    exact step i y x σ' H' hy z (ay.gr (hG _ _ _ z))
/-- a comprehension whose things have no parts: at turn k e k, or nothing -/
theorem lc_flat {J : It} {n : Nat} {G : Hp → Prop} {Y : Nat → Hp → V → Hp → Prop} (w : Walk J n G Y) {tt : TT} {vs : List Nat} {H1 : Hp} {L : Addr} {Qd : Hp → Prop} (e : Nat → Option D) (sc : ∀ k d, e k = some d → d.sc = true) (nL : H1 L = none) (hG : ∀ H', Same H1 H' → G H') (hn : n ≤ 1000)
    (step : ∀ k x H' H'', k < n → Same H1 H' → Y k H' x H'' → Same H' H'' ∧ ∀ R : Sg → Hp → Prop, (∀ σ2, wipe σ2 vs = wipe σ vs → (∀ d, e k = some d → MkT tt σ2 H'' true ∧ Mk K te σ2 H'' d) → (e k = none → MkT tt σ2 H'' false) → R σ2 H'') → g x (wipe σ vs) H'' R)
    (hd : ∀ H' xs, Same H1 H' → H' L = some (.lst xs) → DtA K H' xs ((List.range n).filterMap e) → Qd H') :
    ∃ W : Nat → Nat → Hp → Prop, (∃ m, W 0 m (upd H1 L (.lst []))) ∧ ∀ i m H, W i m H →
      (J.stop i H ∧ Qd H) ∨ (J.go i H ∧ ∃ Nx : Hp → Prop, (∀ H', Nx H' → ∃ m', m' < m ∧ W (i + 1) m' H') ∧ ∀ x H', J.yld i H x H' → g x (wipe σ vs) H' fun σ2 H2 => wipe σ2 vs = wipe σ vs ∧ tt σ2 H2 fun b H3 =>
        if b = true then te σ2 H3 fun y H4 => ∃ acc, H4 L = some (.lst acc) ∧ acc.length < sizeLine ∧ Nx (upd H4 L (.lst (acc ++ [y]))) else Nx H3) := by
  have flat : ∀ j, ∀ x ∈ (List.range j).filterMap e, x.sc = true := fun j x hx => by
    obtain ⟨k, _, hk⟩ := List.mem_filterMap.mp hx
    exact sc k x hk
  refine lc_it w (fun j H' => Same H1 H' ∧ ∃ xs : List V, H' L = some (.lst xs) ∧ xs.length ≤ j ∧ DtA K H' xs ((List.range j).filterMap e)) ⟨same_new nL, [], upd_same, Nat.le_refl _, .nil⟩ (fun j H' _ z => hG _ z.1) ?_ ?_
  · rintro k x H' H'' hk ⟨s', xs, ex, lx, ax⟩ y
    obtain ⟨s2, st⟩ := step k x H' H'' hk s' y
    refine st _ fun σ2 hw h1 h2 => ⟨hw, ?_⟩
    have rg : (List.range (k + 1)).filterMap e = (List.range k).filterMap e ++ (e k).toList := by
      rw [List.range_succ, List.filterMap_append]
      cases he : e k <;> simp [he]
    cases he : e k with
    | none =>
      refine h2 he H'' Gr.rfl' _ fun H3 s3 => ?_
      refine iteF ⟨s'.trans (s2.trans s3), xs, (s2.trans s3) _ _ ex, by omega, ?_⟩
      rw [rg, he]
      simpa using ax.gr (s2.trans s3)
    | some d =>
      obtain ⟨t1, m1⟩ := h1 d he
      refine t1 H'' Gr.rfl' _ fun H3 s3 => ?_
      refine iteT ?_
      refine m1 H3 s3 _ fun v H4 s4 av => ?_
      have sA := (s2.trans s3).trans s4
      refine ⟨xs, sA _ _ ex, sz2 (by omega), same_mut (s'.trans sA) nL, xs ++ [v], upd_same, by rw [List.length_append]; simpa using lx, ?_⟩
      rw [rg, he]
      exact (ax.any (flat k)).app (.cons (av.any (sc k d he)) .nil)
  · rintro H' ⟨s', xs, ex, lx, ax⟩
    exact hd H' xs s' ex ax
theorem call_lenK {X : Cx} {K : PySem.W.Frag} (h : X.K = K) : CallR X (.builtin "len") (fun xs H Q => ∃ p ys, xs = [.ref p] ∧ (SqL K H p ys ∨ SqT K H p ys) ∧ Q (.int ys.length) H) := by
  subst h
  exact call_len_seq
theorem ix_listK {X : Cx} {K : PySem.W.Frag} (h : X.K = K) : IxR X (rIxL K) := by
  subst h
  exact ix_list
theorem ix_tupK {X : Cx} {K : PySem.W.Frag} (h : X.K = K) : IxR X (rIxT K) := by
  subst h
  exact ix_tup
theorem fm_get {α β : Type} (f : α → β) : ∀ l : List α, (List.range l.length).filterMap (fun k => (l[k]?).map f) = l.map f
  | [] => rfl
  | a :: l => by
    rw [List.length_cons, List.range_succ_eq_map, List.filterMap_cons, List.filterMap_map]
    have ih := fm_get f l
    show f a :: (List.range l.length).filterMap ((fun k => ((a :: l)[k]?).map f) ∘ Nat.succ) = f a :: l.map f
    rw [← ih]
    rfl
/-- [e for x in tuple] -/
theorem mk_lcU {i : Nat} {f : D → D} (h : ∀ H1, Same H H1 → Ev K ti σ H1 (.tup ds)) (hf : ∀ d ∈ ds, (f d).sc = true) (hl : ds.length ≤ 1000) (step : ∀ d ∈ ds, ∀ x H1, Same H H1 → Dt K H1 x d → Mk K te ((σ.set i none).set i (some x)) H1 (f d)) :
    Mk K (tLc (iTup K ti) (gName i) tYes te [i]) σ H (.lst (ds.map f)) := fun H1 s Q q => by
  obtain ⟨v, a, k⟩ := h H1 s
  refine k _ ?_
  cases a with
  | @tup p xs _ e aa =>
    have lx := aa.len
    refine ⟨p, rfl, ⟨xs, e⟩, fun L nL => lc_flat (K := K) (walk_tup (K := K) (a := p) (xs := xs)) (fun k => (ds[k]?).map f) (fun k d hk => ?_) nL (fun H' s' => gr_T s' e) (by omega) ?_ ?_⟩
    · cases hd : ds[k]? with
      | none => rw [hd] at hk; cases hk
      | some y => rw [hd] at hk; cases hk; exact hf y (List.mem_of_getElem? hd)
    · rintro k x H' H'' hk s' ⟨rfl, hx⟩
      obtain ⟨y, hy, ay⟩ := aa.at hx
      refine ⟨Gr.rfl', fun R r => r_name (r _ ?_ (fun d hd => ⟨fun H2 s2 Q2 q2 => q2 H2 Gr.rfl', ?_⟩) fun hd => ?_)⟩
      · show ((σ.set i none).set i (some x)).set i none = σ.set i none
        rw [List.set_set, List.set_set]
      · rw [hy] at hd
        cases hd
        exact step y (List.mem_of_getElem? hy) x _ (s.trans s') (ay.gr s')
      · rw [hy] at hd; cases hd
    · intro H' ys s' e' a'
      refine q _ _ s' (.lst e' ?_)
      have : (List.range xs.length).filterMap (fun k => (ds[k]?).map f) = ds.map f := by
        rw [lx]
        exact fm_get f ds
      rw [this] at a'
      exact a'
end
end TSx

/-! Own layer, part R10: counts, joins. -/
namespace TSx
open PySem L2 TL
theorem tl_inj {x y : Str} (h : tl x = tl y) : x = y := by
  obtain ⟨⟨a⟩⟩ := x
  obtain ⟨⟨b⟩⟩ := y
  have : a = b := h
  rw [this]
theorem join_side (l : List Bool) : Txt.join (Str.ofString "") (l.map fun b => sideS [b]) = sideS l := by
  refine tl_inj ?_
  rw [join_eq, tl_join]
  have e : tl (Str.ofString "") = [] := by decide +kernel
  rw [e]
  have j : ∀ ps : List (List Nat), joinL [] ps = ps.flatten := by
    intro ps
    induction ps with
    | nil => rfl
    | cons p r ih =>
      cases r with
      | nil => simp [joinL]
      | cons q r =>
        show p ++ ([] ++ joinL [] (q :: r)) = _
        rw [ih]
        rfl
  rw [j, List.map_map]
  show (l.map fun b => [sideC b]).flatten = l.map sideC
  induction l with
  | nil => rfl
  | cons b l ih => show [sideC b] ++ (l.map fun b => [sideC b]).flatten = sideC b :: l.map sideC; rw [ih]; rfl
/-- list.count of a thing without parts -/
def rCntV (K : PySem.W.Frag) : V → List V → Hp → VK → Prop := fun x xs H Q => ∃ (p : Addr) (ys : List V) (y : V), x = .ref p ∧ xs = [y] ∧ SqL K H p ys ∧ flatV y = true ∧ ys.all flatV = true ∧ Q (.int (ys.countP (fun z => eqV z y) : Nat)) H
theorem mt_lcntV {X : Cx} : MtR X "list.count" (rCntV X.K) := by
  intro pins s σ H x xs v us Q I rx rxs h
  obtain ⟨p, ys, y, rfl, rfl, hs, fy, fys, q⟩ := h
  cases rx
  obtain ⟨u, rfl, ru⟩ := rxs.one
  obtain ⟨its, rv, ⟨⟨cls, dd, data, sl⟩, n, ho, hc, hdn, hd⟩, hlen⟩ := I.list hs
  simp only at hc hd
  subst hc hd
  refine call_meets PySem.F.slot_list_count ⟨_, ho, rfl⟩ PySem.F.entry_list_count (PySem.F.args_list_count_2 _ _)
    (SeqAt.list_countAt p its.toArray n dd sl u (eqU y)) ⟨ho, fun z hz => mem_eqAt ru fy rv fys z (by simpa using hz), ?_⟩
  have ec : ∀ {ys : List V} {its : List Value}, Vals ys its → ys.all flatV = true → its.countP (eqU y) = ys.countP fun z => eqV z y := by
    intro ys its r
    induction r with
    | nil => intro _; rfl
    | cons a b ih =>
      intro f
      rw [List.all_cons, Bool.and_eq_true] at f
      rw [List.countP_cons, List.countP_cons, ih f.2, eqU_of a f.1]
  refine ⟨.int (ys.countP (fun z => eqV z y) : Nat), H, I.tok _, ⟨s.toks, ?_⟩, q⟩
  rw [← ec rv fys]
end TSx

/-! Own layer, part R11: appends, comprehensions over mapped data, texts compared. -/
namespace TSx
open PySem L2
section
variable {K : PySem.W.Frag} {σ : Sg} {H H0 : Hp} {te ta tb tc ti : TE} {t : TA} {d r : D} {ds es : List D} {α β : Type}
theorem r_app {n : Nat} {p : Addr} {xs : List V} {E : Ends} (hv : σ[n]? = some (some (.ref p))) (hp : H p = some (.lst xs)) (hz : xs.length < 100000) (m : Mk K te σ H d) (q : ∀ v H1, Same H H1 → Dt K H1 v d → E.nx σ (upd H1 p (.lst (xs ++ [v])))) :
    tDrop (tBM K "list" rAppend (tVar n) (tCons te tNil)) E σ H := by
  refine ⟨_, hv, Or.inl ⟨rfl, _, SqL.of hp⟩, ?_⟩
  refine m H Gr.rfl' _ fun v H1 s1 a => ?_
  exact ⟨p, xs, v, rfl, rfl, s1 _ _ hp, sz2 hz, q v H1 s1 a⟩
theorem mk_eqS {x y : Str} (h : Mk K ta σ H (.str x)) (h2 : Mk K tb σ H (.str y)) : Mk K (tOp rEq ta tb) σ H (.bl (decide (x = y))) := fun H1 s Q q => h H1 s _ fun v H2 s2 b => h2 H2 (s.trans s2) _ fun u H3 s3 c => by
  cases b
  cases c
  refine ⟨rfl, ?_⟩
  have e : decide (V.str x = V.str y) = decide (x = y) := by
    by_cases z : x = y
    · subst z; rw [decide_eq_true rfl, decide_eq_true rfl]
    · rw [decide_eq_false z, decide_eq_false fun y => z (V.str.inj y)]
  rw [e]
  exact q _ H3 (s2.trans s3) (.bl _)
theorem mk_neS {x y : Str} (h : Mk K ta σ H (.str x)) (h2 : Mk K tb σ H (.str y)) : Mk K (tOp rNe ta tb) σ H (.bl (!decide (x = y))) := fun H1 s Q q => h H1 s _ fun v H2 s2 b => h2 H2 (s.trans s2) _ fun u H3 s3 c => by
  cases b
  cases c
  refine ⟨rfl, ?_⟩
  have e : decide (V.str x = V.str y) = decide (x = y) := by
    by_cases z : x = y
    · subst z; rw [decide_eq_true rfl, decide_eq_true rfl]
    · rw [decide_eq_false z, decide_eq_false fun y => z (V.str.inj y)]
  rw [e]
  exact q _ H3 (s2.trans s3) (.bl _)
/-- a letter of a text of sides -/
theorem mk_ixS {l : List Bool} {i : Nat} {b : Bool} (h : Mk K ta σ H (.str (sideS l))) (h2 : Mk K tb σ H (.int (i : Int))) (e : l[i]? = some b) (z : l.length ≤ 100000) : Mk K (tOp rIxS ta tb) σ H (.str (sideS [b])) := fun H1 s Q q => h H1 s _ fun v H2 s2 a => h2 H2 (s.trans s2) _ fun u H3 s3 c => by
  cases a
  cases c
  refine ⟨_, _, sideC b, rfl, rfl, by rw [sideS_len]; exact sz1 z, ?_, q _ H3 (s2.trans s3) (.str _)⟩
  refine atI_nat ?_
  show (l.map sideC)[i]? = some (sideC b)
  rw [List.getElem?_map, e]
  rfl
theorem ifE {tt : TT} {b : Bool} {d1 d2 : D} (h : MkT tt σ H b) (h1 : b = true → Mk K ta σ H d1) (h2 : b = false → Mk K tb σ H d2) : Mk K (tIf tt ta tb) σ H (if b then d1 else d2) := fun H1 s Q q => by
  refine h H1 s _ fun H2 s2 => ?_
  cases b with
  | true => exact iteT (h1 rfl H2 (s.trans s2) _ fun v H3 s3 a => q v H3 (s2.trans s3) a)
  | false => exact iteF (h2 rfl H2 (s.trans s2) _ fun v H3 s3 a => q v H3 (s2.trans s3) a)
theorem fm_zip {γ : Type} (f : α → β → γ) : ∀ (l : List α) (m : List β), l.length = m.length → (List.range l.length).filterMap (fun k => match l[k]?, m[k]? with | some x, some y => some (f x y) | _, _ => none) = (l.zip m).map fun p => f p.1 p.2
  | [], _, _ => rfl
  | a :: l, [], h => by cases h
  | a :: l, b :: m, h => by
    have ih := fm_zip f l m (by simpa using h)
    rw [List.length_cons, List.range_succ_eq_map, List.filterMap_cons, List.filterMap_map, List.zip_cons_cons, List.map_cons, ← ih]
    rfl
theorem at_map {f : α → D} {l : List α} {i : Nat} {d : D} (h : (l.map f)[i]? = some d) : ∃ a, l[i]? = some a ∧ f a = d := by
  rw [List.getElem?_map] at h
  cases q : l[i]? with
  | none => rw [q] at h; cases h
  | some b => rw [q] at h; cases h; exact ⟨b, rfl, rfl⟩
/-- [e for x in tuple], the tuple's things told by l -/
theorem mk_lcM {i : Nat} {l : List α} {g f : α → D} (h : ∀ H1, Same H H1 → Ev K ti σ H1 (.tup (l.map g))) (hf : ∀ a, (f a).sc = true) (hl : l.length ≤ 1000) (step : ∀ a ∈ l, ∀ x H1, Same H H1 → Dt K H1 x (g a) → Mk K te ((σ.set i none).set i (some x)) H1 (f a)) :
    Mk K (tLc (iTup K ti) (gName i) tYes te [i]) σ H (.lst (l.map f)) := fun H1 s Q q => by
  obtain ⟨v, a, k⟩ := h H1 s
  refine k _ ?_
  cases a with
  | @tup p xs _ e aa =>
    have lx := aa.len
    rw [List.length_map] at lx
    refine ⟨p, rfl, ⟨xs, e⟩, fun L nL => lc_flat (K := K) (walk_tup (K := K) (a := p) (xs := xs)) (fun k => (l[k]?).map f) (fun k d hk => ?_) nL (fun H' s' => gr_T s' e) (by omega) ?_ ?_⟩
    · cases hd : l[k]? with
      | none => rw [hd] at hk; cases hk
      | some y => rw [hd] at hk; cases hk; exact hf y
    · rintro k x H' H'' hk s' ⟨rfl, hx⟩
      obtain ⟨y, hy, ay⟩ := aa.at hx
      obtain ⟨b, hb, rfl⟩ := at_map hy
      refine ⟨Gr.rfl', fun R r => r_name (r _ ?_ (fun d hd => ⟨fun H2 s2 Q2 q2 => q2 H2 Gr.rfl', ?_⟩) fun hd => ?_)⟩
      · show ((σ.set i none).set i (some x)).set i none = σ.set i none
        rw [List.set_set, List.set_set]
      · rw [hb] at hd
        cases hd
        exact step b (List.mem_of_getElem? hb) x _ (s.trans s') (ay.gr s')
      · rw [hb] at hd; cases hd
    · intro H' ys s' e' a'
      refine q _ _ s' (.lst e' ?_)
      rw [lx, fm_get f l] at a'
      exact a'
/-- [e for x, y in zip(tuple, tuple)] -/
theorem mk_lcZ {i j : Nat} {l : List α} {m : List β} {g1 : α → D} {g2 : β → D} {f : α → β → D} (ij : ∀ u w, wipe (((wipe σ [i, j]).set i u).set j w) [i, j] = wipe σ [i, j]) (h : ∀ H1, Same H H1 → Ev K ta σ H1 (.tup (l.map g1))) (h2 : ∀ H1, Same H H1 → Ev K tc σ H1 (.tup (m.map g2))) (hlm : l.length = m.length) (hf : ∀ a b, (f a b).sc = true) (hl : l.length ≤ 1000)
    (step : ∀ (k : Nat) a b, l[k]? = some a → m[k]? = some b → ∀ x y H1, Same H H1 → Dt K H1 x (g1 a) → Dt K H1 y (g2 b) → Mk K te (((wipe σ [i, j]).set i (some x)).set j (some y)) H1 (f a b)) :
    Mk K (tLc (RZ.iZipA K (tCons ta (tCons tc tNil))) (gTup K 2 (gCons (gName i) (gCons (gName j) gNil))) tYes te [i, j]) σ H (.lst ((l.zip m).map fun p => f p.1 p.2)) := fun H1 s Q q => by
  obtain ⟨v, a, k⟩ := h H1 s
  obtain ⟨u, c, k2⟩ := h2 H1 s
  refine k _ (k2 _ ?_)
  cases a with
  | @tup p xs _ e aa =>
  cases c with
  | @tup p2 ys _ e2 cc =>
    have lx := aa.len
    have ly := cc.len
    rw [List.length_map] at lx ly
    refine ⟨p, p2, xs, ys, rfl, Or.inr ⟨e, e2, fun L nL => lc_flat (K := K) (walk_zipT (K := K) (a := p) (c := p2) (xs := xs) (ys := ys) (by omega)) (fun k => match l[k]?, m[k]? with | some x, some y => some (f x y) | _, _ => none) (fun k d hk => ?_) nL (fun H' s' => ⟨gr_T s' e, gr_T s' e2⟩) (by omega) ?_ ?_⟩⟩
    · split at hk
      · cases hk; exact hf _ _
      · cases hk
    · rintro n x H' H'' hk s' ⟨T, y1, y2, rfl, nT, rfl, q1, q2⟩
      have s1 : Same H' (upd H' T (.tup [y1, y2])) := same_new nT
      obtain ⟨z1, hz1, az1⟩ := aa.at q1
      obtain ⟨z2, hz2, az2⟩ := cc.at q2
      obtain ⟨a1, ha1, rfl⟩ := at_map hz1
      obtain ⟨a2, ha2, rfl⟩ := at_map hz2
      refine ⟨s1, fun R r => ?_⟩
      have aT : Dt K (upd H' T (.tup [y1, y2])) (.ref T) (.tup [g1 a1, g2 a2]) := .tup (SqT.of upd_same) (.cons (az1.gr (s'.trans s1)) (.cons (az2.gr (s'.trans s1)) .nil))
      refine r_unp2 aT fun w1 w2 e1 e2 => ?_
      refine r _ ?_ (fun d hd => ⟨fun H2 s2 Q2 q2 => q2 H2 Gr.rfl', ?_⟩) fun hd => ?_
      · exact ij _ _
      · rw [ha1, ha2] at hd
        cases hd
        exact step n a1 a2 ha1 ha2 w1 w2 _ (s.trans (s'.trans s1)) e1 e2
      · rw [ha1, ha2] at hd
        cases hd
    · intro H' ys s' e' a'
      refine q _ _ s' (.lst e' ?_)
      rw [lx, fm_zip f l m hlm] at a'
      exact a'
end
end TSx

/-! Own layer, part R12: data apart from the drawn state. -/
namespace TSx
open PySem L2
def B2 (m g : Addr) : Addr → Bool := fun b => decide (b = m) || decide (b = g)
theorem B2_m {m g : Addr} : B2 m g m = true := by simp [B2]
theorem B2_g {m g : Addr} : B2 m g g = true := by simp [B2]
theorem B2_no {m g b : Addr} (h1 : b ≠ m) (h2 : b ≠ g) : B2 m g b = false := by simp [B2, h1, h2]
abbrev Ap (K : PySem.W.Frag) (m g : Addr) (H : Hp) (v : V) (d : D) : Prop := Dt K (wo (B2 m g) H) v d
section
variable {K : PySem.W.Frag} {m c g : Addr} {H H' : Hp} {v : V} {d : D} {ds : List D} {σ : Sg} {r : Nat}
theorem Ap.kp (h : Ap K m g H v d) (k : Kp m g H H') : Ap K m g H' v d := h.gr (wo_kp k B2_m B2_g)
theorem Ap.sm (h : Ap K m g H v d) (k : Same H H') : Ap K m g H' v d := h.gr (wo_same k)
theorem Ap.dt (h : Ap K m g H v d) : Dt K H v d := h.gr wo_le
theorem m_there (M : MAt m c g H r) : ∀ b, B2 m g b = true → H b ≠ none := fun b e z => by
  obtain ⟨⟨n, cs, gs, h1, h2, h3, _⟩, _⟩ := M
  by_cases q : b = m
  · rw [q, h1] at z; cases z
  · by_cases q2 : b = g
    · rw [q2, h3] at z; cases z
    · rw [B2_no q q2] at e; cases e
theorem new_m (M : MAt m c g H r) {p : Addr} (np : H p = none) : p ≠ m ∧ p ≠ g := by
  obtain ⟨⟨n, cs, gs, h1, h2, h3, _⟩, _⟩ := M
  exact ⟨(fun z => by rw [z, h1] at np; cases np), (fun z => by rw [z, h3] at np; cases np)⟩
def strsT : List Str → TA
  | [] => tNil
  | s :: r => tCons (tC (.str s)) (strsT r)
theorem strsT_r : ∀ (ss : List Str) {Q : List V → Hp → Prop}, Q (ss.map V.str) H → strsT ss σ H Q
  | [], _, q => q
  | s :: r, Q, q => strsT_r r (Q := fun vs H1 => Q (.str s :: vs) H1) q
/-- [s, ..][draw(m, as many)] -/
theorem r_pick {ss : List Str} {n : Nat} {Q : VK} {l : Int} (hn : σ[n]? = some (some (.ref m))) (M : MAt m c g H (r + 1)) (hl : 0 < ss.length) (hz : ss.length ≤ 1000) (el : l = (ss.length : Int)) (k : ∀ s H', s ∈ ss → MAt m c g H' r → Kp m g H H' → Q (.str s) H') :
    tOp (rIxL K) (tLst (strsT ss)) (tCall spDraw [] E0 (tCons (tVar n) (tCons (tC (.int l)) tNil))) σ H Q := by
  subst el
  refine strsT_r ss ⟨by rw [List.length_map]; exact sz1 (by omega), fun p np => ?_⟩
  obtain ⟨pm, pg⟩ := new_m M np
  refine ⟨_, hn, ?_⟩
  refine ⟨m, c, g, r, (ss.length : Int), rfl, by omega, by omega, M.same (same_new np), fun v H1 p0 p1 M1 k1 => ?_⟩
  obtain ⟨i, rfl⟩ : ∃ i : Nat, v = (i : Int) := ⟨v.toNat, by omega⟩
  have li : i < ss.length := by omega
  refine ⟨p, ss.map V.str, (i : Int), .str ss[i], rfl, rfl, SqL.of (k1 _ _ pm pg upd_same), atI_nat (by rw [List.getElem?_map, List.getElem?_eq_getElem li]; rfl), ?_⟩
  exact k _ H1 (List.getElem_mem li) M1 ((Kp.of (same_new np)).tr k1)
end
theorem pi_tupK {X : Cx} {tg l : Expr} {tl : TE} {K : PySem.W.Frag} (h : X.K = K) (hl : PE X l tl) : PI X tg l (iTup K tl) := by
  subst h
  exact pi_tup hl
theorem pi_listK {X : Cx} {tg l : Expr} {tl : TE} {K : PySem.W.Frag} (h : X.K = K) (hl : PE X l tl) : PI X tg l (iList K tl) := by
  subst h
  exact pi_list hl
def rJoinK (K : PySem.W.Frag) : V → List V → Hp → VK → Prop := fun x xs H Q => ∃ a p, ∃ ys : List Str, x = .str a ∧ xs = [.ref p] ∧ (SqL K H p (ys.map V.str) ∨ SqT K H p (ys.map V.str)) ∧ (ys.map (·.length)).sum + ys.length * a.length ≤ 16777216 ∧ Q (.str (Txt.join a ys)) H
theorem mt_joinK {X : Cx} {K : PySem.W.Frag} (h : X.K = K) : MtR X "str.join" (rJoinK K) := by
  subst h
  exact mt_join
def spOf (K : PySem.W.Frag) : Sp := fun vs H Q _ => ∃ (m c g : Addr) (r : Nat) (x : V), vs = [.ref m, x] ∧ MAt m c g H (r + 1) ∧
  ((∃ ns : List Int, Ap K m g H x (.lst (ns.map D.int)) ∧ 0 < ns.length ∧ ns.length ≤ 1000 ∧ ∀ n H', n ∈ ns → MAt m c g H' r → Kp m g H H' → Q (.int n) H') ∨
    (∃ l : List Bool, x = .str (sideS l) ∧ 0 < l.length ∧ l.length ≤ 1000 ∧ ∀ b H', b ∈ l → MAt m c g H' r → Kp m g H H' → Q (.str (sideS [b])) H'))
def termLists : List (List Int) := [[1, 2, 3, 4, 6], [1, 2, 3], [1, 2, 4], [1, 5], [2, 3, 3], [1]]
def spTerms (K : PySem.W.Frag) : Sp := fun vs H Q _ => ∃ (m c g : Addr) (r : Nat), vs = [.ref m] ∧ MAt m c g H (r + 1) ∧ ∀ v H' ns, ns ∈ termLists → Ap K m g H' v (.lst (ns.map D.int)) → MAt m c g H' r → Kp m g H H' → Q v H'
def spWay (K : PySem.W.Frag) : Sp := fun vs H Q _ => ∃ (m c g : Addr) (r : Nat) (n wards : Nat), vs = [.ref m, .int n, .int wards] ∧ 1 ≤ n ∧ n ≤ 1000 ∧ wards ≤ 1000 ∧ MAt m c g H (r + 4) ∧ ∀ v H' (w : Way), w.ok n wards → Ap K m g H' v w.d → MAt m c g H' r → Kp m g H H' → Q v H'
end TSx

/-! Own layer, part N1: data of any kind, judged by plain functions; promises with an answer or an exception. -/
namespace TSx
open PySem L2
mutual
/-- no exception within, no full dict, no long text -/
def D.nx : D → Bool
  | .non => true
  | .bl _ => true
  | .int _ => true
  | .str x => decide (x.length ≤ 1000)
  | .lst xs => nxA xs
  | .tup xs => nxA xs
  | .dic kvs => kvs.isEmpty
  | .exc _ _ => false
def nxA : List D → Bool
  | [] => true
  | d :: ds => d.nx && nxA ds
end
theorem nxA_mem : ∀ {ds : List D} {d : D}, nxA ds = true → d ∈ ds → d.nx = true
  | x :: xs, d, h, m => by
    simp only [nxA, Bool.and_eq_true] at h
    rcases List.mem_cons.mp m with rfl | m
    · exact h.1
    · exact nxA_mem h.2 m
theorem nxA_of : ∀ {ds : List D}, (∀ d ∈ ds, d.nx = true) → nxA ds = true
  | [], _ => rfl
  | x :: xs, h => by
    simp only [nxA, Bool.and_eq_true]
    exact ⟨h x (List.mem_cons_self ..), nxA_of fun d m => h d (List.mem_cons_of_mem _ m)⟩
theorem D.nx_e {d : D} (h : d.nx = true) : d.isE = false := by
  cases d <;> first | rfl | (cases h)
def isI : D → Bool
  | .int _ => true
  | .bl _ => true
  | _ => false
def isB : D → Bool
  | .bl _ => true
  | _ => false
def isT : D → Bool
  | .tup _ => true
  | _ => false
def isS : D → Bool
  | .str _ => true
  | _ => false
theorem kit_I {d : D} (e : d.isE = false) : kitB d.ty "int" = some (isI d) := by
  cases d with
  | non => exact (by decide +kernel : kitB "NoneType" "int" = some false)
  | bl b => exact (by decide +kernel : kitB "bool" "int" = some true)
  | int i => exact (by decide +kernel : kitB "int" "int" = some true)
  | str x => exact (by decide +kernel : kitB "str" "int" = some false)
  | lst xs => exact (by decide +kernel : kitB "list" "int" = some false)
  | tup xs => exact (by decide +kernel : kitB "tuple" "int" = some false)
  | dic kvs => exact (by decide +kernel : kitB "dict" "int" = some false)
  | exc C fs => cases e
theorem kit_B {d : D} (e : d.isE = false) : kitB d.ty "bool" = some (isB d) := by
  cases d with
  | non => exact (by decide +kernel : kitB "NoneType" "bool" = some false)
  | bl b => exact (by decide +kernel : kitB "bool" "bool" = some true)
  | int i => exact (by decide +kernel : kitB "int" "bool" = some false)
  | str x => exact (by decide +kernel : kitB "str" "bool" = some false)
  | lst xs => exact (by decide +kernel : kitB "list" "bool" = some false)
  | tup xs => exact (by decide +kernel : kitB "tuple" "bool" = some false)
  | dic kvs => exact (by decide +kernel : kitB "dict" "bool" = some false)
  | exc C fs => cases e
theorem kit_T {d : D} (e : d.isE = false) : kitB d.ty "tuple" = some (isT d) := by
  cases d with
  | non => exact (by decide +kernel : kitB "NoneType" "tuple" = some false)
  | bl b => exact (by decide +kernel : kitB "bool" "tuple" = some false)
  | int i => exact (by decide +kernel : kitB "int" "tuple" = some false)
  | str x => exact (by decide +kernel : kitB "str" "tuple" = some false)
  | lst xs => exact (by decide +kernel : kitB "list" "tuple" = some false)
  | tup xs => exact (by decide +kernel : kitB "tuple" "tuple" = some true)
  | dic kvs => exact (by decide +kernel : kitB "dict" "tuple" = some false)
  | exc C fs => cases e
theorem kit_S {d : D} (e : d.isE = false) : kitB d.ty "str" = some (isS d) := by
  cases d with
  | non => exact (by decide +kernel : kitB "NoneType" "str" = some false)
  | bl b => exact (by decide +kernel : kitB "bool" "str" = some false)
  | int i => exact (by decide +kernel : kitB "int" "str" = some false)
  | str x => exact (by decide +kernel : kitB "str" "str" = some true)
  | lst xs => exact (by decide +kernel : kitB "list" "str" = some false)
  | tup xs => exact (by decide +kernel : kitB "tuple" "str" = some false)
  | dic kvs => exact (by decide +kernel : kitB "dict" "str" = some false)
  | exc C fs => cases e
/-! ### the plain looks -/
def isW (d : D) (a b : Int) : Bool := match d with
  | .int i => decide (a ≤ i) && decide (i ≤ b)
  | _ => false
def isTu (d : D) (a b : Int) : Bool := match d with
  | .tup xs => decide (a ≤ (xs.length : Int)) && decide ((xs.length : Int) ≤ b)
  | _ => false
def isWd (d : D) (ws : List Str) : Bool := match d with
  | .str x => ws.any fun y => y == x
  | _ => false
def abC (c : Nat) : Bool := decide (c ∈ (Str.ofString "ab").cps.toList)
def isSd (d : D) (n : Int) : Bool := match d with
  | .str x => decide ((x.length : Int) = n) && x.cps.toList.all abC
  | _ => false
def isWy (d : D) (n w : Int) : Bool := match d with
  | .tup [a] => isWd a ["kept"]
  | .tup [a, b] => isWd a ["ward"] && isW b 0 (w - 1)
  | .tup [a, b, c] => isWd a ["body", "rest"] && isWd c tiesL && isW b 0 (n - 1)
  | _ => false
def isSe (d : D) (n w : Int) : Bool := match d with
  | .tup [.int t, p, y] => isW (.int t) 1 6 && isW p 0 (t - 1) && isWy y n w
  | _ => false
/-- the first wrong part of a body -/
def wrS (d : D) (k : Nat) (n w : Int) : Option D := match d with
  | .tup ss => if isTu (.tup ss) 1 9 then ((List.range ss.length).find? fun j => !(match ss[j]? with | some s => isSe s n w | none => true)).map fun j => .tup [.int (k : Nat), .int (j : Nat)] else some (.tup [.int (k : Nat)])
  | _ => some (.tup [.int (k : Nat)])
def wrB (n w : Int) : Nat → List D → Option D
  | _, [] => none
  | k, b :: bs => (wrS b k n w).or (wrB n w (k + 1) bs)
def lenD : D → Nat
  | .tup ss => ss.length
  | _ => 0
def termD : D → Nat
  | .tup (.int t :: _) => t.toNat
  | _ => 1
def lcB (c : Nat) (d : D) : Nat := match d with
  | .tup ss => ss.foldl (fun c s => (Nat.lcm 1 c).lcm (termD s)) c
  | _ => c
def lcH (bs : List D) : Nat := bs.foldl lcB 1
def wrH (d : D) : Option D := match d with
  | .tup [bs, w] => if isW w 0 4 then (if isTu bs 1 3 then (match bs, w with
      | .tup l, .int wi => ((wrB (l.length : Int) wi 0 l).or (if (l.map fun b => (lenD b : Int)).sum > 9 then some (.str "seats") else none)).or (if lcH l > 12 then some (.str "round") else none)
      | _, _ => none) else some (.str "bodies")) else some (.str "wards")
  | _ => some (.str "form")
def isNon : D → Bool
  | .non => true
  | _ => false
def wrBd (d : D) : Option D := match d with
  | .tup [t, g] => if isNon t || isW t 0 4 then (if isW g 1 4 then none else some (.str "gap")) else some (.str "turn")
  | _ => some (.str "form")
/-- whether a thing is a stand of the house -/
def isStd (h d : D) : Bool := match h, d with
  | .tup [.tup bs, _], .tup ls => decide (ls.length = bs.length) && (bs.zip ls).all fun p => isSd p.2 (lenD p.1 : Int)
  | _, _ => false
/-! ### promises: an answer, or an exception of an own class with one field -/
inductive Out where
  | ret (d : D) | exc (C : Addr) (f : Str) (d : D)
def Out.said (K : PySem.W.Frag) (H : Hp) (Q : VK) (E : XK) : Out → Prop
  | .ret r => ∀ v H', Same H H' → Dt K H' v r → Q v H'
  | .exc C f r => ∀ e v H', Same H H' → H e = none → H' e = some (.xd [(f, v)]) → Dt K H' v r → E (.ref C) (some e) H'
/-- such a def -/
def spO (K : PySem.W.Frag) (f : List D → Out → Prop) : Sp := fun vs H Q E => ∃ ds o, DtA K H vs ds ∧ f ds o ∧ o.said K H Q E
theorem spO_len {K : PySem.W.Frag} {f : List D → Out → Prop} {n : Nat} (h : ∀ ds o, f ds o → ds.length = n) : ∀ vs H Q E, spO K f vs H Q E → vs.length = n := fun vs H Q E ⟨ds, o, a, b, _⟩ => a.len.trans (h ds o b)
theorem spP_len {K : PySem.W.Frag} {f : List D → D → Prop} {n : Nat} (h : ∀ ds r, f ds r → ds.length = n) : ∀ vs H Q E, spP K f vs H Q E → vs.length = n := fun vs H Q E ⟨ds, r, a, b, _⟩ => a.len.trans (h ds r b)
def fWn (ds : List D) (r : D) : Prop := ∃ d a b, ds = [d, .int a, .int b] ∧ d.nx = true ∧ r = .bl (isW d a b)
def fTn (ds : List D) (r : D) : Prop := ∃ d a b, ds = [d, .int a, .int b] ∧ d.nx = true ∧ r = .bl (isTu d a b)
def fWdn (ds : List D) (r : D) : Prop := ∃ d ws, ds = [d, .tup (ws.map D.str)] ∧ d.nx = true ∧ r = .bl (isWd d ws)
def fSdn (ds : List D) (r : D) : Prop := ∃ d n, ds = [d, .int n] ∧ d.nx = true ∧ r = .bl (isSd d n)
def fWyn (ds : List D) (r : D) : Prop := ∃ d n w, ds = [d, .int n, .int w] ∧ d.nx = true ∧ r = .bl (isWy d n w)
def fSen (ds : List D) (r : D) : Prop := ∃ d n w, ds = [d, .int n, .int w] ∧ d.nx = true ∧ r = .bl (isSe d n w)
section
variable {K : PySem.W.Frag} {σ : Sg} {H : Hp} {te ta tb tc ti : TE} {t : TA} {d r : D} {ds es : List D} {X : Cx} {k : Nat} {ff : Addr} {fd : FuncData} {ps : List Str}
/-- a call of such a def, as a reading: what it tells, or the exception -/
theorem r_callO {f : List D → Out → Prop} {Q : VK} {E : XK} {o : Out} (h : MkA K t σ H ds) (hf : f ds o) (q : ∀ H1, Same H H1 → o.said K H1 Q E) : tCall (spO K f) [] E t σ H Q := h H Gr.rfl' _ fun vs H2 s2 a => by
  show spO K f (vs ++ []) H2 Q E
  rw [List.append_nil]
  exact ⟨ds, o, a, hf, q H2 s2⟩
theorem Out.said.sm {Q : VK} {E : XK} {o : Out} {H1 : Hp} (h : o.said K H Q E) (s : Same H H1) : o.said K H1 Q E := by
  cases o with
  | ret r => exact fun v H' s' a => h v H' (s.trans s') a
  | exc C f r => exact fun e v H' s' n x a => h e v H' (s.trans s') (s.free n) x a
/-- raise C(x): from what x is -/
theorem raise_said {C : Addr} {f : Str} {W : XK} (h : Mk K te σ H d) (q : (Out.exc C f d).said K H (fun _ _ => False) W) : tMkO C (spIni C f) [] (tCons te tNil) σ H W := h H Gr.rfl' _ fun x H1 s1 a => by
  refine ⟨(show 1 ≤ 1000 by decide), fun p np => ⟨p, x, rfl, upd_same, fun dd nd ne => ⟨rfl, dd, [(f, x)], upd_same, ?_, ?_, ?_⟩⟩⟩
  · rw [upd_ne ne, upd_same]
  · rw [upd_ne ne] at nd; exact nd
  · have hn : H1 dd = none := by rw [upd_ne ne] at nd; exact nd
    have e : (upd (L2.del (upd (upd (upd H1 p (exo p C none)) dd (exd dd [(f, x)])) p (exo p C (some dd))) p) dd (.xd [(f, x)])) = upd H1 dd (.xd [(f, x)]) := by
      funext b
      by_cases hb : b = dd
      · rw [hb, upd_same, upd_same]
      · rw [upd_ne hb, upd_ne hb]
        by_cases hp : b = p
        · rw [hp, del_same, np]
        · rw [del_ne hp, upd_ne hp, upd_ne hb, upd_ne hp]
    rw [e]
    exact q dd x _ (s1.trans (same_new hn)) (s1.free hn) upd_same (a.gr (same_new hn))
theorem mk_isI (h : Mk K ta σ H d) (e : d.nx = true) : Mk K (tCB (rIsi K) (tCons ta (tCons (tC (.ty "int")) tNil))) σ H (.bl (isI d)) := mk_isi h (D.nx_e e) (kit_I (D.nx_e e))
theorem mk_isB (h : Mk K ta σ H d) (e : d.nx = true) : Mk K (tCB (rIsi K) (tCons ta (tCons (tC (.ty "bool")) tNil))) σ H (.bl (isB d)) := mk_isi h (D.nx_e e) (kit_B (D.nx_e e))
theorem mk_isT (h : Mk K ta σ H d) (e : d.nx = true) : Mk K (tCB (rIsi K) (tCons ta (tCons (tC (.ty "tuple")) tNil))) σ H (.bl (isT d)) := mk_isi h (D.nx_e e) (kit_T (D.nx_e e))
theorem mk_isS (h : Mk K ta σ H d) (e : d.nx = true) : Mk K (tCB (rIsi K) (tCons ta (tCons (tC (.ty "str")) tNil))) σ H (.bl (isS d)) := mk_isi h (D.nx_e e) (kit_S (D.nx_e e))
/-- low <= e <= high, of an int -/
theorem whole_and (d : D) (a b : Int) : (isI d && (!isB d && isW d a b)) = isW d a b := by
  cases d <;> simp [isI, isB, isW]
theorem mk_whole {a b : Int} (h : Mk K ta σ H d) (e : d.nx = true) (h2 : Mk K tb σ H (.int a)) (h3 : Mk K tc σ H (.int b)) :
    Mk K (tAndV (tCB (rIsi K) (tCons ta (tCons (tC (.ty "int")) tNil))) (tAndV (tNotV (tCB (rIsi K) (tCons ta (tCons (tC (.ty "bool")) tNil)))) (tChain (rI0 fun i j => .bl (decide (i ≤ j))) (rI0 fun i j => .bl (decide (i ≤ j))) tb ta tc))) σ H (.bl (isW d a b)) := by
  rw [← whole_and d a b]
  refine mk_andV (mk_isI h e) fun i1 => mk_andV (mk_notV (mk_isB h e)) fun i2 => ?_
  cases d with
  | int i => exact mk_chainI h2 h h3
  | bl b => exact absurd i2 (by simp [isB])
  | _ => exact absurd i1 (by simp [isI])
theorem tuple_and (d : D) (a b : Int) : (isT d && isTu d a b) = isTu d a b := by cases d <;> simp [isT, isTu]
theorem isTu_shape {d : D} {a b : Int} (h : isTu d a b = true) : ∃ xs, d = .tup xs ∧ a ≤ (xs.length : Int) ∧ (xs.length : Int) ≤ b := by
  cases d with
  | tup xs =>
    simp only [isTu, Bool.and_eq_true, decide_eq_true_eq] at h
    exact ⟨xs, rfl, h.1, h.2⟩
  | _ => cases h
theorem word_and (d : D) (ws : List Str) : (isS d && isWd d ws) = isWd d ws := by cases d <;> simp [isS, isWd]
/-- c in "ab", c one sign -/
theorem mk_inSg {c : Nat} (h : Mk K ta σ H (.str ⟨#[c]⟩)) (h2 : Mk K tb σ H (.str (Str.ofString "ab"))) :
    Mk K (tOp (fun x y H Q => ∃ (c : Nat) (z : Str), x = .str ⟨#[c]⟩ ∧ y = .str z ∧ Q (.bl (decide (c ∈ z.cps.toList))) H) ta tb) σ H (.bl (abC c)) := fun H1 s Q q => h H1 s _ fun v H2 s2 a => h2 H2 (s.trans s2) _ fun u H3 s3 b => by
  cases a
  cases b
  exact ⟨c, _, rfl, rfl, q _ H3 (s2.trans s3) (.bl _)⟩
/-- [e for c in text] -/
theorem mk_lcX {z : Str} {i : Nat} {g : Nat → D} (hs : ∀ b, (g b).sc = true) (h : Mk K ti σ H (.str z)) (hl : z.length ≤ 1000) (step : ∀ c H1, Same H H1 → Mk K te ((σ.set i none).set i (some (.str ⟨#[c]⟩))) H1 (g c)) :
    Mk K (tLc (iStr ti) (gName i) tYes te [i]) σ H (.lst (z.cps.toList.map g)) := fun H1 s Q q => h H1 s _ fun v H2 s2 a => by
  cases a
  have hsz : z.cps.size ≤ 1000 := hl
  refine ⟨_, rfl, fun D nD => lc_it (walk_str (z := z)) (fun j H' => ∃ xs : List V, H' D = some (.lst xs) ∧ xs.length = j ∧ Same H2 H' ∧ DtA K H' xs ((z.cps.toList.take j).map g)) ⟨[], upd_same, rfl, same_new nD, .nil⟩ (fun _ _ _ _ => trivial) ?_ ?_⟩
  · rintro j x H' H'' hj ⟨xs, e, lx, s', aa⟩ ⟨rfl, c, hc, rfl⟩
    have hc' : z.cps.toList[j]? = some c := by simpa using hc
    refine r_name ⟨?_, ?_⟩
    · show ((σ.set i none).set i (some (V.str ⟨#[c]⟩))).set i none = σ.set i none
      rw [List.set_set, List.set_set]
    · refine r_yes ?_
      refine step c H'' ((s.trans s2).trans s') H'' Gr.rfl' _ fun y H4 s4 ay => ?_
      have hj' : j < z.cps.size := hj
      refine ⟨xs, s4 _ _ e, by rw [lx]; exact sz2 (by omega), xs ++ [y], upd_same, by rw [List.length_append, lx]; rfl, same_mut (s'.trans s4) nD, ?_⟩
      have tk : z.cps.toList.take (j + 1) = z.cps.toList.take j ++ [c] := by rw [List.take_add_one, hc']; rfl
      have fl : ∀ x ∈ (z.cps.toList.take j).map g, x.sc = true := by
        intro x hx
        obtain ⟨y, _, rfl⟩ := List.mem_map.mp hx
        exact hs y
      rw [tk, List.map_append]
      exact (aa.any fl).app (.cons (ay.any (hs c)) .nil)
  · rintro H' ⟨xs, e, lx, s', aa⟩
    have : z.cps.toList.take z.cps.size = z.cps.toList := by rw [List.take_of_length_le]; simp
    rw [this] at aa
    exact q _ _ (s2.trans s') (.lst e aa)
end
end TSx

/-! Own layer, part N1c: the houses' constants. -/
namespace TSx
open PySem L2
structure CstH (K : PySem.W.Frag) (mg : Str → Option Value) (pT : Addr) : Prop where
  TIES : mg "TIES" = some (.ref pT)
  ties : Dt K (fun _ => none) (.ref pT) (.tup (tiesL.map D.str))
  MOST_WARDS : ∃ t, mg "MOST_WARDS" = some (.int 4 t)
  MOST_BODIES : ∃ t, mg "MOST_BODIES" = some (.int 3 t)
  MOST_SEATS : ∃ t, mg "MOST_SEATS" = some (.int 9 t)
  MOST_TERM : ∃ t, mg "MOST_TERM" = some (.int 6 t)
  MOST_ROUND : ∃ t, mg "MOST_ROUND" = some (.int 12 t)
  MOST_GAP : ∃ t, mg "MOST_GAP" = some (.int 4 t)
theorem pe_cstE {X : Cx} {x : Str} {n : Int} {pos : Pos} (hg : Gl X x) (hm : ∃ t, X.mg x = some (.int n t)) (hd : (x == ("__debug__" : Str)) = false := by decide) : PE X (.Name x pos) (tC (.int n)) := by
  obtain ⟨t, hm⟩ := hm
  exact pe_cst hg hm hd
theorem mk_cref {K : PySem.W.Frag} {σ : Sg} {H : Hp} {p : Addr} {d : D} (h : Dt K (fun _ => none) (.ref p) d) : Mk K (tC (.ref p)) σ H d := fun H1 s Q q => q _ H1 Gr.rfl' (h.gr fun a o e => by cases e)
section
variable {K : PySem.W.Frag} {σ : Sg} {H : Hp} {ta tb : TE} {tt uu : TT} {d : D} {a b : Bool} {t : TA} {ds : List D} {r : D} {f : List D → D → Prop}
/-- a or b, b asked where a is false -/
theorem mt_or2 (h : MkT tt σ H a) (h2 : a = false → MkT uu σ H b) : MkT (tOr tt uu) σ H (a || b) := fun H1 s Q q => h H1 s _ fun H2 s2 => by
  cases a with
  | true => exact q H2 s2
  | false => exact h2 rfl H2 (s.trans s2) Q fun H3 s3 => q H3 (s2.trans s3)
theorem mt_and2 (h : MkT tt σ H a) (h2 : a = true → MkT uu σ H b) : MkT (tAnd tt uu) σ H (a && b) := fun H1 s Q q => h H1 s _ fun H2 s2 => by
  cases a with
  | true => exact h2 rfl H2 (s.trans s2) Q fun H3 s3 => q H3 (s2.trans s3)
  | false => exact q H2 s2
theorem mt_callP (h : MkA K t σ H ds) (hf : f ds (.bl b)) : MkT (tB (tCall (spP K f) [] E0 t)) σ H b := mt_B (mk_call h hf)
end
end TSx

/-! Own layer, part N3m: the mathematics of the first wrong part. -/
namespace TSx
open PySem L2
theorem find_at {p : Nat → Bool} : ∀ {m j : Nat}, j < m → p j = true → (∀ i, i < j → p i = false) → (List.range m).find? p = some j := fun {m j} h1 h2 h3 => by
  rw [List.find?_range_eq_some]
  exact ⟨h2, List.mem_range.mpr h1, fun i hi => by rw [h3 i hi]; rfl⟩
theorem find_no {p : Nat → Bool} {m : Nat} (h : ∀ i, i < m → p i = false) : (List.range m).find? p = none := by
  rw [List.find?_eq_none]
  intro i hi
  rw [h i (List.mem_range.mp hi)]
  decide
theorem wrS_no {d : D} {k : Nat} {n w : Int} (h : isTu d 1 9 = false) : wrS d k n w = some (.tup [.int (k : Nat)]) := by
  cases d with
  | tup ss => show (if isTu (.tup ss) 1 9 then _ else _) = _; rw [h]; rfl
  | _ => rfl
theorem wrS_at {ss : List D} {k j : Nat} {n w : Int} {s : D} (h : isTu (.tup ss) 1 9 = true) (e : ss[j]? = some s) (hs : isSe s n w = false) (low : ∀ i s, i < j → ss[i]? = some s → isSe s n w = true) : wrS (.tup ss) k n w = some (.tup [.int (k : Nat), .int (j : Nat)]) := by
  have lt := (List.getElem?_eq_some_iff.mp e).1
  show (if isTu (.tup ss) 1 9 then _ else _) = _
  rw [h, if_pos rfl, find_at (j := j) lt (by rw [e]; simp [hs]) fun i hi => by
    have li : i < ss.length := by omega
    rw [List.getElem?_eq_getElem li]
    simp [low i _ hi (List.getElem?_eq_getElem li)]]
  rfl
theorem wrS_ok {ss : List D} {k : Nat} {n w : Int} (h : isTu (.tup ss) 1 9 = true) (all : ∀ (i : Nat) s, ss[i]? = some s → isSe s n w = true) : wrS (.tup ss) k n w = none := by
  show (if isTu (.tup ss) 1 9 then _ else _) = _
  rw [h, if_pos rfl, find_no fun i hi => by rw [List.getElem?_eq_getElem hi]; simp [all i _ (List.getElem?_eq_getElem hi)]]
  rfl
/-- a body without a wrong part -/
theorem wrS_inv {d : D} {k : Nat} {n w : Int} (h : wrS d k n w = none) : ∃ ss, d = .tup ss ∧ 1 ≤ ss.length ∧ ss.length ≤ 9 ∧ ∀ s ∈ ss, isSe s n w = true := by
  cases d with
  | tup ss =>
    have h' : (if isTu (.tup ss) 1 9 then ((List.range ss.length).find? fun j => !(match ss[j]? with | some s => isSe s n w | none => true)).map fun j => D.tup [.int (k : Nat), .int (j : Nat)] else some (.tup [.int (k : Nat)])) = none := h
    cases q : isTu (.tup ss) 1 9 with
    | false => rw [q] at h'; cases h'
    | true =>
      rw [q, if_pos rfl, Option.map_eq_none_iff, List.find?_eq_none] at h'
      obtain ⟨xs, e, l1, l9⟩ := isTu_shape q
      cases e
      refine ⟨ss, rfl, by omega, by omega, fun s hs => ?_⟩
      obtain ⟨i, hi, rfl⟩ := List.mem_iff_getElem.mp hs
      have z := h' i (List.mem_range.mpr hi)
      rw [List.getElem?_eq_getElem hi] at z
      simpa using z
  | _ => cases h
theorem isSe_inv {s : D} {n w : Int} (h : isSe s n w = true) : ∃ (t : Int) (p y : D), s = .tup [.int t, p, y] ∧ 1 ≤ t ∧ t ≤ 6 ∧ isW p 0 (t - 1) = true ∧ isWy y n w = true := by
  unfold isSe at h
  split at h
  · rename_i t p y
    simp only [Bool.and_eq_true] at h
    obtain ⟨⟨h1, h2⟩, h3⟩ := h
    have h1' : (decide ((1 : Int) ≤ t) && decide (t ≤ 6)) = true := h1
    simp only [Bool.and_eq_true, decide_eq_true_eq] at h1'
    exact ⟨t, p, y, rfl, h1'.1, h1'.2, h2, h3⟩
  · cases h
theorem wrB_at {n w : Int} : ∀ {bs : List D} {k j : Nat} {b : D} {x : D}, bs[j]? = some b → wrS b (k + j) n w = some x → (∀ i b, i < j → bs[i]? = some b → wrS b (k + i) n w = none) → wrB n w k bs = some x
  | [], k, j, b, x, e, _, _ => by simp at e
  | b0 :: bs, k, 0, b, x, e, h, _ => by
    have e' : b0 = b := by simpa using e
    subst e'
    show (wrS b0 k n w).or _ = _
    have h' : wrS b0 k n w = some x := h
    rw [h']; rfl
  | b0 :: bs, k, j + 1, b, x, e, h, low => by
    show (wrS b0 k n w).or (wrB n w (k + 1) bs) = _
    have z : wrS b0 k n w = none := low 0 b0 (by omega) rfl
    rw [z, Option.none_or]
    refine wrB_at (j := j) (b := b) (by simpa using e) (by rw [show k + 1 + j = k + (j + 1) by omega]; exact h) fun i b' hi hb => ?_
    rw [show k + 1 + i = k + (i + 1) by omega]
    exact low (i + 1) b' (by omega) (by simpa using hb)
theorem wrB_ok {n w : Int} : ∀ {bs : List D} {k : Nat}, (∀ i b, bs[i]? = some b → wrS b (k + i) n w = none) → wrB n w k bs = none
  | [], _, _ => rfl
  | b0 :: bs, k, h => by
    show (wrS b0 k n w).or (wrB n w (k + 1) bs) = _
    have z : wrS b0 k n w = none := h 0 b0 rfl
    rw [z, Option.none_or]
    exact wrB_ok fun i b hb => by rw [show k + 1 + i = k + (i + 1) by omega]; exact h (i + 1) b (by simpa using hb)
theorem wrB_inv {n w : Int} : ∀ {bs : List D} {k : Nat}, wrB n w k bs = none → ∀ i b, bs[i]? = some b → wrS b (k + i) n w = none
  | [], _, _, i, b, e => by simp at e
  | b0 :: bs, k, h, i, b, e => by
    have h' : (wrS b0 k n w).or (wrB n w (k + 1) bs) = none := h
    rw [Option.or_eq_none_iff] at h'
    match i, e with
    | 0, e =>
      have e' : b0 = b := by simpa using e
      rw [← e']; exact h'.1
    | i + 1, e => rw [show k + (i + 1) = k + 1 + i by omega]; exact wrB_inv h'.2 i b (by simpa using e)
/-- which number a body bears is of no account to whether it is right -/
theorem wrS_num {d : D} {k j : Nat} {n w : Int} (h : wrS d k n w = none) : wrS d j n w = none := by
  obtain ⟨ss, rfl, l1, l9, a⟩ := wrS_inv h
  exact wrS_ok (by simp only [isTu, Bool.and_eq_true, decide_eq_true_eq]; omega) fun i s e => a s (List.mem_of_getElem? e)
/-- a body of right terms -/
def tmB (d : D) : Prop := ∃ ss, d = .tup ss ∧ ∀ s ∈ ss, ∃ (t : Int) (r : List D), s = .tup (.int t :: r) ∧ 1 ≤ t ∧ t ≤ 6
theorem tmB_of {d : D} {k : Nat} {n w : Int} (h : wrS d k n w = none) : tmB d := by
  obtain ⟨ss, rfl, _, _, a⟩ := wrS_inv h
  refine ⟨ss, rfl, fun s hs => ?_⟩
  obtain ⟨t, p, y, rfl, h1, h6, _⟩ := isSe_inv (a s hs)
  exact ⟨t, _, rfl, h1, h6⟩
theorem lcmD_60 {c t : Nat} (hc : c ∣ 60) (h1 : 1 ≤ t) (h6 : t ≤ 6) : (Nat.lcm 1 c).lcm t ∣ 60 := by
  rw [Nat.lcm_one_left]
  refine Nat.lcm_dvd hc ?_
  have : t = 1 ∨ t = 2 ∨ t = 3 ∨ t = 4 ∨ t = 5 ∨ t = 6 := by omega
  rcases this with rfl | rfl | rfl | rfl | rfl | rfl <;> decide
theorem lcB_60 {ss : List D} : ∀ {c : Nat}, c ∣ 60 → (∀ s ∈ ss, ∃ (t : Int) (r : List D), s = .tup (.int t :: r) ∧ 1 ≤ t ∧ t ≤ 6) → (ss.foldl (fun c s => (Nat.lcm 1 c).lcm (termD s)) c) ∣ 60 := by
  induction ss with
  | nil => intro c h _; exact h
  | cons s l ih =>
    intro c h a
    obtain ⟨t, r, rfl, h1, h6⟩ := a s (List.mem_cons_self ..)
    exact ih (lcmD_60 h (show 1 ≤ t.toNat by omega) (show t.toNat ≤ 6 by omega)) fun x hx => a x (List.mem_cons_of_mem _ hx)
theorem lcF_60 {bs : List D} : ∀ {c : Nat}, c ∣ 60 → (∀ b ∈ bs, tmB b) → bs.foldl lcB c ∣ 60 := by
  induction bs with
  | nil => intro c h _; exact h
  | cons b l ih =>
    intro c h a
    obtain ⟨ss, rfl, hs⟩ := a b (List.mem_cons_self ..)
    exact ih (lcB_60 h hs) fun x hx => a x (List.mem_cons_of_mem _ hx)
theorem logD60 {c : Nat} (h : c ∣ 60) : ((c : Int)).natAbs.log2 < bitsLine := by
  have : c ≤ 60 := Nat.le_of_dvd (by decide) h
  show (c : Nat).log2 < 2 ^ 27
  by_cases z : c = 0
  · rw [z]; decide
  · exact Nat.lt_of_lt_of_le ((Nat.log2_lt z).mpr (Nat.lt_of_le_of_lt this (by decide : 60 < 2 ^ 6))) (by decide)
/-! ### the houses without a wrong part -/
theorem wrH_inv {d : D} (h : wrH d = none) : ∃ (bs : List D) (w : Int), d = .tup [.tup bs, .int w] ∧ 0 ≤ w ∧ w ≤ 4 ∧ 1 ≤ bs.length ∧ bs.length ≤ 3 ∧ (∀ b ∈ bs, wrS b 0 (bs.length : Int) w = none) ∧ (bs.map fun b => (lenD b : Int)).sum ≤ 9 ∧ lcH bs ≤ 12 := by
  unfold wrH at h
  split at h
  · rename_i b w
    cases qw : isW w 0 4 with
    | false => rw [qw] at h; cases h
    | true =>
      rw [qw, if_pos rfl] at h
      cases qb : isTu b 1 3 with
      | false => rw [qb] at h; cases h
      | true =>
        rw [qb, if_pos rfl] at h
        obtain ⟨bs, rfl, l1, l3⟩ := isTu_shape qb
        cases w with
        | int wi =>
          simp only [isW, Bool.and_eq_true, decide_eq_true_eq] at qw
          simp only [Option.or_eq_none_iff] at h
          obtain ⟨⟨h1, h2⟩, h3⟩ := h
          refine ⟨bs, wi, rfl, qw.1, qw.2, by omega, by omega, fun b hb => ?_, ?_, ?_⟩
          · obtain ⟨i, hi, rfl⟩ := List.mem_iff_getElem.mp hb
            exact wrS_num (wrB_inv h1 i _ (List.getElem?_eq_getElem hi))
          · by_cases c : (bs.map fun b => (lenD b : Int)).sum > 9
            · rw [if_pos c] at h2; cases h2
            · omega
          · by_cases c : lcH bs > 12
            · rw [if_pos c] at h3; cases h3
            · omega
        | _ => exact absurd qw (by simp [isW])
  · cases h
end TSx

namespace TSx
open PySem L2
local macro_rules | `(tactic| walk_at "rd") => `(tactic| repeat (first
  | ((with_reducible show tVar _ _ _ _); refine r_v rfl ?_)
  | with_reducible refine r_c ?_
  | with_reducible refine r_op ?_
  | with_reducible refine r_I0 ?_
  | with_reducible refine r_cb ?_
  | with_reducible refine r_nil ?_
  | with_reducible refine r_cons ?_
  | with_reducible refine r_seq ?_
  | with_reducible refine r_next ?_
  | with_reducible refine r_asg ?_
  | with_reducible refine r_name ?_
  | with_reducible refine r_ret ?_
  | with_reducible refine r_drop ?_
  | with_reducible refine r_if ?_
  | with_reducible refine r_test ?_
  | with_reducible refine r_bl ?_
  | with_reducible refine r_int1 ?_
  | ((with_reducible refine r_mul ?hm ?_); (case hm => first | exact cmR (by omega) (by omega) | exact cmL (by omega) (by omega)))
  | ((with_reducible refine r_div ?hm ?_); (case hm => exact cdv (by omega) (by omega)))
  | ((with_reducible refine r_mod ?hm ?_); (case hm => omega))
  | with_reducible refine r_sub ?_
  | with_reducible refine r_dget ?_
  | with_reducible refine r_dput ?_
  | with_reducible refine r_lst ?_
  | with_reducible refine r_call ?_))
def top (i : Nat) : Stmt := PySem.Challenge.pw_termseats_k01_houses_and_bands_judged.main.body.getD i (.Pass ⟨0, 0, 0, 0⟩)
abbrev sMixed : Stmt := top 32
theorem scMixed : FnScope ["cell", "n", "blend"] ["cell", "n"] (defScope sMixed) := ⟨rfl, rfl, rfl, by decide +kernel, rfl, by decide +kernel, by decide +kernel⟩
section
variable {P : Program} {w : World} {K : PySem.W.Frag} {mg : Str → Option Value} {base : Heap}
theorem ok_mixed {f : Addr} {fd : FuncData} (F : L2.Fun K "_law_mixed" "_law_mixed" sMixed f fd) (T : Blt mg) : FnOk P w K mg base CX0 1 f fd ["cell", "n"] spMixed := by
  refine F.ok scMixed (fun vs H Q E h => ?_) (fun cdv A outer s H vs Q E hr h => ?_)
  · obtain ⟨c, n, rfl, _⟩ := h
    rfl
  · obtain ⟨c, n, rfl, c0, c1, n0, n1, k⟩ := h
    refine ⟨_, pss_cons (ps_set (i := 2) scMixed.nd rfl (Or.inl rfl)
        (pe_op op_add (pe_op op_add (pe_op op_mod (pe_callTy call_intI (by rfl) T.int PyProof.Rows.boot_int (pa_cons (pe_op op_mul (pe_op op_mul (pv 0) (pe_op op_add pe_int (pe_op op_mul pe_int (pv 1)))) pe_int) pa_nil)) pe_int)
          (pe_op op_mul (pe_op op_mul pe_int (pv 1)) (pv 1))) (pe_op op_mul pe_int (pv 1))))
      (pss_one (ps_ret (pe_op op_fdiv (pe_op op_mod (pe_callTy call_intI (by rfl) T.int PyProof.Rows.boot_int (pa_cons (pe_op op_mul (pv 2) pe_int) pa_nil)) pe_int) pe_int))), ?_⟩
    walk_at "rd"
    exact k _ (by omega) (by omega)
abbrev sFolded : Stmt := top 33
theorem scFolded : FnScope ["script", "found", "n", "cell"] ["script"] (defScope sFolded) := ⟨rfl, rfl, rfl, by decide +kernel, rfl, by decide +kernel, by decide +kernel⟩
theorem ok_folded {f : Addr} {fd : FuncData} (F : L2.Fun K "_law_folded" "_law_folded" sFolded f fd) (T : Blt mg) : FnOk P w K mg base CX0 1 f fd ["script"] (spFolded K) := by
  refine F.ok scFolded (fun vs H Q E h => ?_) (fun cdv A outer s H vs Q E hr h => ?_)
  · obtain ⟨a, ns, rfl, _⟩ := h
    rfl
  · obtain ⟨a, ns, rfl, hS, hz, k⟩ := h
    refine ⟨_, pss_cons (ps_setLc (i := 1) (own := [("n", 2)]) (g := gName 2) (tt := tYes) rfl scFolded.nd rfl rfl (sw_true rfl rfl rfl (by decide +kernel)) (pi_range1 rfl T.range (pa_cons pe_int pa_nil)) (blkOk_by (N := ["script", "found", "n", "cell"]) (sc := defScope sFolded) (by decide +kernel))
        (fun _ _ _ _ _ => pg_name (i := 2) scFolded.nd rfl (Or.inl rfl)) (fun _ _ _ _ _ => pts_nil) (fun _ _ _ _ _ => pe_op op_add pe_int (pv 2)))
      (pss_cons (ps_for PassesOwn.never rfl (pi_enum (by rfl) T.enumerate (pa_cons (pv 0) pa_nil)) (pg_tup rfl (pgs_cons (pg_name (i := 2) scFolded.nd rfl (Or.inl rfl)) (pgs_cons (pg_name (i := 3) scFolded.nd rfl (Or.inl rfl)) pgs_nil)))
        (pss_one (ps_asg (pe_op op_mod (pe_callTy call_intI (by rfl) T.int PyProof.Rows.boot_int (pa_cons (pe_op op_add (pe_op op_mul (pe_ix ix_list (pv 1) (pe_op op_mod (pe_callTy call_intI (by rfl) T.int PyProof.Rows.boot_int (pa_cons (pv 2) pa_nil)) pe_int) (fun _ _ => rfl)) pe_int) (pv 3)) pa_nil)) pe_int)
          (pg_sub (pv 1) (pe_op op_mod (pe_callTy call_intI (by rfl) T.int PyProof.Rows.boot_int (pa_cons (pv 2) pa_nil)) pe_int) set_list))))
      (pss_cons (ps_for PassesOwn.never rfl (pi_range2 rfl T.range (pa_cons pe_int (pa_cons pe_int pa_nil))) (pg_name (i := 2) scFolded.nd rfl (Or.inl rfl))
        (pss_one (ps_asg (pe_op op_mod (pe_callTy call_intI (by rfl) T.int PyProof.Rows.boot_int (pa_cons (pe_op op_add (pe_ix ix_list (pv 1) (pv 2) (fun _ _ => rfl)) (pe_op op_mul (pe_ix ix_list (pv 1) (pe_op op_sub (pv 2) pe_int) (fun _ _ => rfl)) pe_int)) pa_nil)) pe_int)
          (pg_sub (pv 1) (pv 2) set_list))))
      (pss_one (ps_ret (pv 1))))), ?_⟩
    walk_at "rd"
    refine ⟨64, rfl, by decide, by decide, fun D hD => lc_range (lo := 0) (n := 64) (fun i H' => ∃ cs : List Int, cs.length = i ∧ (∀ c ∈ cs, 0 ≤ c ∧ c < 2147483647) ∧ H' D = some (.lst (cs.map V.int)) ∧ Same H H')
      ⟨[], rfl, by simp, upd_same, same_new hD⟩ ?_ ?_⟩
    · rintro i H' hi ⟨cs, hl, hc, hD', hs⟩
      refine ⟨rfl, r_yes ?_⟩
      walk_at "rd"
      refine ⟨_, hD', ?_, ?_⟩
      · rw [List.length_map]; exact sz2 (by omega)
      · refine ⟨cs ++ [17 + (0 + (i : Int))], by rw [List.length_append, hl]; rfl, fun c hm => ?_, ?_, same_mut hs hD⟩
        · rcases List.mem_append.mp hm with z | z
          · exact hc c z
          · rw [List.mem_singleton.mp z]; omega
        · rw [upd_same, List.map_append]; rfl
    · rintro H' ⟨cs, hl, hc, hD', hs⟩
      walk_at "rd"
      refine ⟨_, rfl, a, _, rfl, hs.seq hS, for_it (walk_enum (K := K) (a := a) (xs := ns.map V.int)) (fun i σ H2 => ∃ (cs : List Int) (x y : Option V), σ = [some (.ref a), some (.ref D), x, y] ∧ Cells cs ∧ H2 D = some (.lst (cs.map V.int)) ∧ Same H H2)
        ⟨cs, _, _, rfl, ⟨hl, hc⟩, hD', hs⟩ (fun i σ H2 _ z => by obtain ⟨_, _, _, _, _, _, z⟩ := z; exact z.seq hS) ?_ ?_⟩
      · rintro i v σ H2 H3 hi ⟨cs, x, y, rfl, hC, hD2, s2⟩ ⟨T, x', y', rfl, nT, rfl, e1, e2⟩
        cases e1
        replace e2 : (List.map V.int ns)[i]? = some y' := e2
        obtain ⟨z, rfl⟩ : ∃ z, y' = V.int z := by
          rw [List.getElem?_map] at e2
          cases q : ns[i]? with
          | none => rw [q] at e2; cases e2
          | some z => rw [q] at e2; cases e2; exact ⟨z, rfl⟩
        have hT : ∀ {u : HO}, (upd H2 T u) D = some (.lst (cs.map V.int)) := fun {u} => by rw [upd_ne (ne_of_none hD2 nT)]; exact hD2
        have sT : ∀ {u : HO}, Same H (upd H2 T u) := fun {u} => s2.trans (same_new nT)
        have hlt : i % 64 < cs.length := by rw [hC.len]; omega
        obtain ⟨c, hc1, hc2⟩ := at_int hlt
        have hb := hC.low c hc1
        refine ⟨T, _, rfl, SqT.of upd_same, rfl, _, _, rfl, _, _, rfl, rfl, ?_⟩
        walk_at "rd"
        refine r_ixL hT (by rw [show ((i : Int) % 64) = ((i % 64 : Nat) : Int) by omega]; exact hc2) ?_
        walk_at "rd"
        refine r_setL hT (j := i % 64) (by rw [List.length_map, show ((i : Int) % 64) = ((i % 64 : Nat) : Int) by omega]; exact ixN_int hlt) ?_
        rw [map_set]
        exact ⟨_, _, _, rfl, hC.set _ (by omega) (by omega), upd_same, same_mut sT hD⟩
      · rintro σ H2 ⟨cs, x, y, rfl, hC, hD2, s2⟩
        walk_at "rd"
        refine ⟨1, 64, rfl, ⟨by decide, by decide, by decide, by decide⟩, for_range (lo := 1) (n := 63) (fun i σ H2 => ∃ (cs : List Int) (x y : Option V), σ = [some (.ref a), some (.ref D), x, y] ∧ Cells cs ∧ H2 D = some (.lst (cs.map V.int)) ∧ Same H H2)
          ⟨cs, _, _, rfl, hC, hD2, s2⟩ ?_ ?_⟩
        · rintro i σ H2 hi ⟨cs, x, y, rfl, hC, hD2, s2⟩
          have l1 : i + 1 < cs.length := by rw [hC.len]; omega
          have l2 : i < cs.length := by rw [hC.len]; omega
          obtain ⟨c, hc1, hc2⟩ := at_int l1
          obtain ⟨d, hd1, hd2⟩ := at_int l2
          have hb := hC.low c hc1
          have hb2 := hC.low d hd1
          walk_at "rd"
          refine r_ixL hD2 (by rw [show ((1 : Int) + (i : Int)) = ((i + 1 : Nat) : Int) by omega]; exact hc2) ?_
          walk_at "rd"
          refine r_ixL hD2 (by rw [show ((1 : Int) + (i : Int) - 1) = ((i : Nat) : Int) by omega]; exact hd2) ?_
          walk_at "rd"
          refine r_setL hD2 (j := i + 1) (by rw [List.length_map, show ((1 : Int) + (i : Int)) = ((i + 1 : Nat) : Int) by omega]; exact ixN_int l1) ?_
          rw [map_set]
          exact ⟨_, _, _, rfl, hC.set _ (by omega) (by omega), upd_same, same_mut s2 hD⟩
        · rintro σ H2 ⟨cs, x, y, rfl, hC, hD2, s2⟩
          walk_at "rd"
          exact k _ D cs hD s2 hC hD2
abbrev sDraw : Stmt := top 34
theorem scDraw : FnScope ["m", "limit", "n", "lot", "here", "cell"] ["m", "limit"] (defScope sDraw) := ⟨rfl, rfl, rfl, by decide +kernel, rfl, by decide +kernel, by decide +kernel⟩
theorem ok_draw {f fM : Addr} {fd fdM : FuncData} (F : L2.Fun K "_law_draw" "_law_draw" sDraw f fd) (T : Blt mg) (FM : L2.Fun K "_law_mixed" "_law_mixed" sMixed fM fdM) (gM : mg "_law_mixed" = some (.ref fM)) (bM : Binds K fdM ["cell", "n"] []) : FnOk P w K mg base CX0 2 f fd ["m", "limit"] spDraw := by
  have GM : FnOk P w K mg base CX0 1 fM fdM ["cell", "n"] spMixed := ok_mixed FM T
  refine F.ok scDraw (fun vs H Q E h => ?_) (fun cdv A outer s H vs Q E hr h => ?_)
  · obtain ⟨m, c, g, r, l, rfl, _⟩ := h
    rfl
  · obtain ⟨m, c, g, r, l, rfl, l0, l1, ⟨⟨n, cs, gs, h1, h2, h3, hC, hg, hn⟩, ne⟩, k⟩ := h
    have hu := hu_of hr
    have kpM : PySem.W.keepIn K (.ref fM) = true := FM.kp
    refine ⟨_, pss_cons (ps_set (i := 2) scDraw.nd rfl (Or.inl rfl) (pe_dget hu (pv 0) pe_str (fun _ _ => rfl)))
      (pss_cons (ps_dput hu (pv 0) pe_str (pe_op op_add (pv 2) pe_int) rfl)
      (pss_cons (ps_if (pt_cmpR (op_neD hr.units) (pe_dget hu (pv 0) pe_str (fun _ _ => rfl)) (pe_lst pa_nil) (nomark _))
        (pss_cons (ps_set (i := 3) scDraw.nd rfl (Or.inl rfl) (pe_dget hu (pv 0) pe_str (fun _ _ => rfl)))
        (pss_cons (ps_set (i := 4) scDraw.nd rfl (Or.inl rfl) (pe_op op_mod (pe_callTy call_intI (by rfl) T.int PyProof.Rows.boot_int (pa_cons (pv 2) pa_nil)) (pe_callB call_len_seq (by rfl) T.len PySem.boot_len (pa_cons (pv 3) pa_nil))))
        (pss_cons (ps_set (i := 5) scDraw.nd rfl (Or.inl rfl) (pe_ix ix_list (pv 3) (pv 4) (fun _ _ => rfl)))
        (pss_one (ps_if (pt_cmpR op_gt (pv 5) pe_int (nomark _))
          (pss_cons (ps_asg (pe_op op_fdiv (pv 5) (pv 1)) (pg_sub (pv 3) (pv 4) set_list))
          (pss_one (ps_ret (pe_op op_mod (pe_callTy call_intI (by rfl) T.int PyProof.Rows.boot_int (pa_cons (pv 5) pa_nil)) (pv 1))))) pss_nil))))) pss_nil)
      (pss_cons (ps_set (i := 3) scDraw.nd rfl (Or.inl rfl) (pe_dget hu (pv 0) pe_str (fun _ _ => rfl)))
      (pss_one (ps_ret (pe_op op_mod (pe_callTy call_intI (by rfl) T.int PyProof.Rows.boot_int (pa_cons
        (pe_call GM hr rfl gM kpM bM .nil pass0 (pa_cons (pe_call GM hr rfl gM kpM bM .nil pass0 (pa_cons (pe_op op_add (pe_ix ix_list (pv 3) (pe_op op_mod (pe_callTy call_intI (by rfl) T.int PyProof.Rows.boot_int (pa_cons (pv 2) pa_nil)) pe_int) (fun _ _ => rfl)) (pe_op op_mul pe_int (pe_op op_fdiv (pv 2) pe_int))) (pa_cons (pv 2) pa_nil)))
          (pa_cons (pe_op op_add (pv 2) pe_int) pa_nil))) pa_nil)) (pv 1))))))), ?_⟩
    -- n = m["spot"]; m["spot"] = n + 1
    have mc : c ≠ m := fun e => by rw [e, h1] at h2; cases h2
    have mg' : g ≠ m := fun e => by rw [e, h1] at h3; cases h3
    have c2 : ∀ u, (upd H m u) c = some (.lst (cs.map V.int)) := fun u => by rw [upd_ne mc]; exact h2
    have g2 : ∀ u, (upd H m u) g = some (.lst (gs.map V.int)) := fun u => by rw [upd_ne mg']; exact h3
    walk_at "rd"
    refine ⟨m, _, rfl, dg_spot h1, ?_⟩
    walk_at "rd"
    refine ⟨m, _, rfl, dp_spot h1, ?_⟩
    have hm : (upd H m (.dK (kvM c g ((n : Int) + 1)))) m = some (.dK (kvM c g ((n : Int) + 1))) := upd_same
    generalize hH1 : upd H m (.dK (kvM c g ((n : Int) + 1))) = H1
    have c3 : H1 c = some (.lst (cs.map V.int)) := by rw [← hH1]; exact c2 _
    have g3 : H1 g = some (.lst (gs.map V.int)) := by rw [← hH1]; exact g2 _
    rw [hH1] at hm
    have kp1 : Kp m g H H1 := fun b o b1 b2 e => by rw [← hH1, upd_ne b1]; exact e
    have cast1 : ((n : Int) + 1) = ((n + 1 : Nat) : Int) := by omega
    -- if m["great"] != []
    walk_at "rd"
    refine ⟨m, _, rfl, dg_great hm, ?_⟩
    walk_at "rd"
    refine ⟨Nat.zero_le _, fun p np => ?_⟩
    have sp : Same H1 (upd H1 p (.lst [])) := same_new np
    refine r_neD (d := .lst (gs.map D.int)) (e := .lst []) (.lst (sp _ _ g3) (dts gs)) (.lst upd_same .nil) (pl_ints gs) rfl (depth_ints gs) (by decide) ?_
    refine r_bl ?_
    have hm2 := sp _ _ hm
    have g4 := sp _ _ g3
    have c4 := sp _ _ c3
    have kp2 : Kp m g H (upd H1 p (.lst [])) := kp1.tr (Kp.of sp)
    generalize upd H1 p (.lst []) = H2 at hm2 g4 c4 kp2 ⊢
    have e0 : PyData.eqv (D.lst (gs.map D.int)).py (D.lst []).py = gs.isEmpty := eqv_nil gs
    rw [e0]
    have fin : ∀ (v : Int) (H3 : Hp) (gs' : List Int), 0 ≤ v → v < l → H3 m = some (.dK (kvM c g ((n : Int) + 1))) → H3 c = some (.lst (cs.map V.int)) → H3 g = some (.lst (gs'.map V.int)) → gs'.length ≤ 63 → Kp m g H H3 → Q (.int v) H3 := fun v H3 gs' v0 v1 a1 a2 a3 a4 a5 =>
      k v H3 v0 v1 ⟨⟨n + 1, cs, gs', by rw [a1, cast1], a2, a3, hC, a4, by omega⟩, ne⟩ a5
    cases gs with
    | nil =>
      refine r_ifF rfl ?_
      walk_at "rd"
      refine ⟨m, _, rfl, dg_cells hm2, ?_⟩
      walk_at "rd"
      have hlt : n % 64 < cs.length := by rw [hC.len]; omega
      obtain ⟨x, hx1, hx2⟩ := at_int hlt
      have hb := hC.low x hx1
      refine r_ixL c4 (by rw [show ((n : Int) % 64) = ((n % 64 : Nat) : Int) by omega]; exact hx2) ?_
      walk_at "rd"
      refine ⟨_, _, rfl, by omega, by omega, by omega, by omega, fun v v0 v1 => ?_⟩
      walk_at "rd"
      refine ⟨_, _, rfl, by omega, by omega, by omega, by omega, fun v' v0' v1' => ?_⟩
      walk_at "rd"
      exact fin _ H2 [] (Int.emod_nonneg _ (by omega)) (Int.emod_lt_of_pos _ l0) hm2 c4 g4 hg kp2
    | cons a0 gs0 =>
      refine r_ifT rfl ?_
      walk_at "rd"
      refine ⟨m, _, rfl, dg_great hm2, ?_⟩
      walk_at "rd"
      refine ⟨g, _, rfl, Or.inl (SqL.of g4), ?_⟩
      have len0 : ((List.map V.int (a0 :: gs0)).length : Int) = ((gs0.length + 1 : Nat) : Int) := by simp
      rw [len0]
      walk_at "rd"
      have hlt : n % (gs0.length + 1) < (a0 :: gs0).length := Nat.mod_lt _ (Nat.succ_pos _)
      have em : ((n : Int) % ((gs0.length + 1 : Nat) : Int)) = ((n % (gs0.length + 1) : Nat) : Int) := by simp
      obtain ⟨x, hx1, hx2⟩ := at_int hlt
      refine r_ixL g4 (by rw [em]; exact hx2) ?_
      walk_at "rd"
      by_cases xp : 0 < x
      · refine r_ifT (decide_eq_true xp) ?_
        walk_at "rd"
        refine r_setL g4 (j := n % (gs0.length + 1)) (by rw [List.length_map, em]; exact ixN_int hlt) ?_
        walk_at "rd"
        rw [map_set]
        have gm : ∀ u, (upd H2 g u) m = some (.dK (kvM c g ((n : Int) + 1))) := fun u => by rw [upd_ne (Ne.symm mg')]; exact hm2
        have gc : ∀ u, (upd H2 g u) c = some (.lst (cs.map V.int)) := fun u => by rw [upd_ne ne]; exact c4
        exact fin _ _ _ (Int.emod_nonneg _ (by omega)) (Int.emod_lt_of_pos _ l0) (gm _) (gc _) upd_same (by rw [List.length_set]; exact hg) fun b o b1 b2 e => by rw [upd_ne b2]; exact kp2 b o b1 b2 e
      · refine r_ifF (decide_eq_false xp) ?_
        walk_at "rd"
        refine ⟨m, _, rfl, dg_cells hm2, ?_⟩
        walk_at "rd"
        have hlt : n % 64 < cs.length := by rw [hC.len]; omega
        obtain ⟨x, hx1, hx2⟩ := at_int hlt
        have hb := hC.low x hx1
        refine r_ixL c4 (by rw [show ((n : Int) % 64) = ((n % 64 : Nat) : Int) by omega]; exact hx2) ?_
        walk_at "rd"
        refine ⟨_, _, rfl, by omega, by omega, by omega, by omega, fun v v0 v1 => ?_⟩
        walk_at "rd"
        refine ⟨_, _, rfl, by omega, by omega, by omega, by omega, fun v' v0' v1' => ?_⟩
        walk_at "rd"
        exact fin _ H2 _ (Int.emod_nonneg _ (by omega)) (Int.emod_lt_of_pos _ l0) hm2 c4 g4 hg kp2
abbrev sBegun : Stmt := top 35
theorem scBegun : FnScope ["script", "m", "cell"] ["script"] (defScope sBegun) := ⟨rfl, rfl, rfl, by decide +kernel, rfl, by decide +kernel, by decide +kernel⟩
theorem ok_begun {f fF : Addr} {fd fdF : FuncData} (F : L2.Fun K "_law_begun" "_law_begun" sBegun f fd) (T : Blt mg) (FF : L2.Fun K "_law_folded" "_law_folded" sFolded fF fdF) (gF : mg "_law_folded" = some (.ref fF)) (bF : Binds K fdF ["script"] []) : FnOk P w K mg base CX0 2 f fd ["script"] (spBegun K) := by
  have GF : FnOk P w K mg base CX0 1 fF fdF ["script"] (spFolded K) := ok_folded FF T
  refine F.ok scBegun (fun vs H Q E h => ?_) (fun cdv A outer s H vs Q E hr h => ?_)
  · obtain ⟨a, ns, rfl, _⟩ := h
    rfl
  · obtain ⟨a, ns, rfl, hS, hz, k⟩ := h
    have hu := hu_of hr
    have kpF : PySem.W.keepIn K (.ref fF) = true := FF.kp
    refine ⟨_, pss_cons (ps_set (i := 1) scBegun.nd rfl (Or.inl rfl) (pe_disp (pps_cons pe_str (pe_call GF hr rfl gF kpF bF .nil pass0 (pa_cons (pv 0) pa_nil)) (pps_cons pe_str (pe_lst pa_nil) (pps_cons pe_str pe_int pps_nil))) (by rfl) (by rfl) (fun z => by cases z) (by decide)))
      (pss_cons (ps_dput hu (pv 1) pe_str (pe_lc (own := [("cell", 2)]) (g := gName 2) (tt := tYes) rfl scBegun.nd (pi_list (pv 0)) (blkOk_by (N := ["script", "m", "cell"]) (sc := defScope sBegun) (by decide +kernel))
        (fun _ _ _ _ _ => pg_name (i := 2) scBegun.nd rfl (Or.inl rfl)) (fun _ _ _ _ _ => pts_nil) (fun _ _ _ _ _ => pe_ifExp (pt_cmpR op_ge (pv 2) (pe_op op_pow pe_int pe_int) (nomark _)) (pv 2) pe_int)) rfl)
      (pss_one (ps_ret (pv 1)))), ?_⟩
    walk_at "rd"
    intro p np
    have hp : (upd H p (.dK [])) p = some (.dK []) := upd_same
    have s0 : Same H (upd H p (.dK [])) := same_new np
    refine ⟨_, rfl, a, ns, rfl, s0.seq hS, hz, fun H1 c cs nc s1 hC hc => ?_⟩
    refine ⟨Nat.zero_le _, fun g ng => ?_⟩
    have gp : g ≠ p := fun e => by rw [e, s1 _ _ hp] at ng; cases ng
    have gc : g ≠ c := fun e => by rw [e, hc] at ng; cases ng
    have pc : p ≠ c := fun e => by rw [← e, hp] at nc; cases nc
    have h0p : (upd H1 g (.lst [])) p = some (.dK []) := by rw [upd_ne (Ne.symm gp)]; exact s1 _ _ hp
    have h0c : (upd H1 g (.lst [])) c = some (.lst (cs.map V.int)) := by rw [upd_ne (Ne.symm gc)]; exact hc
    have h0g : (upd H1 g (.lst [])) g = some (.lst []) := upd_same
    have s2 : Same H (upd H1 g (.lst [])) := (s0.trans s1).trans (same_new ng)
    have fg : H g = none := (s0.trans s1).free ng
    have fc : H c = none := s0.free nc
    generalize upd H1 g (.lst []) = H2 at h0p h0c h0g s2 ⊢
    refine ⟨h0p, [(Sum.inr "cells", .ref c), (Sum.inr "great", .ref g), (Sum.inr "spot", .int 0)], rfl, (show 3 ≤ 15 by decide), ?_⟩

    have s3 : Same H (upd H2 p (.dK (kvM c g 0))) := same_mut s2 np
    have h3p : (upd H2 p (.dK (kvM c g 0))) p = some (.dK (kvM c g 0)) := upd_same
    have h3c : (upd H2 p (.dK (kvM c g 0))) c = some (.lst (cs.map V.int)) := by rw [upd_ne (Ne.symm pc)]; exact h0c
    change gName 1 (V.ref p) _ (upd H2 p (.dK (kvM c g 0))) _
    generalize upd H2 p (.dK (kvM c g 0)) = H3 at s3 h3p h3c ⊢
    walk_at "rd"
    refine ⟨_, rfl, a, rfl, ⟨_, s3.seq hS⟩, fun D hD => lc_list (K := K) (a := a) (xs := ns.map V.int) (fun i H' => ∃ gs : List Int, gs.length = i ∧ H' D = some (.lst (gs.map V.int)) ∧ Same H3 H')
      ⟨[], rfl, upd_same, same_new hD⟩ (fun i H' _ z => by obtain ⟨_, _, _, z⟩ := z; exact (s3.trans z).seq hS) ?_ ?_⟩
    · rintro i v H' hi ⟨gs, hl, hD', hs⟩
      obtain ⟨z, rfl⟩ : ∃ z, v = V.int z := by
        rw [List.getElem?_map] at hi
        cases q : ns[i]? with
        | none => rw [q] at hi; cases hi
        | some z => rw [q] at hi; cases hi; exact ⟨z, rfl⟩
      have il : i < 63 := by
        have := (List.getElem?_eq_some_iff.mp hi).1
        rw [List.length_map] at this
        omega
      refine ⟨rfl, r_yes ?_⟩
      have fin : ∀ y : Int, ∃ acc, H' D = some (.lst acc) ∧ acc.length < sizeLine ∧ ∃ gs : List Int, gs.length = i + 1 ∧ (upd H' D (.lst (acc ++ [V.int y]))) D = some (.lst (gs.map V.int)) ∧ Same H3 (upd H' D (.lst (acc ++ [V.int y]))) := fun y =>
        ⟨_, hD', by rw [List.length_map]; exact sz2 (by omega), gs ++ [y], by rw [List.length_append, hl]; rfl, by rw [upd_same, List.map_append]; rfl, same_mut hs hD⟩
      refine ⟨_, rfl, _, _, rfl, rfl, ⟨by decide, by decide, by decide⟩, _, _, rfl, rfl, _, rfl, ?_⟩
      refine ite2 (fun _ => ?_) (fun _ => ?_)
      · walk_at "rd"
        exact fin z
      · walk_at "rd"
        exact fin 0
    · rintro H' ⟨gs, hl, hD', hs⟩
      walk_at "rd"
      have h4p := hs _ _ h3p
      have h4c := hs _ _ h3c
      refine ⟨p, _, rfl, DPut.k (k := Sum.inr "great") h4p (show 3 < sizeLine by decide), ?_⟩
      walk_at "rd"
      have Dp : D ≠ p := fun e => by rw [e, h3p] at hD; cases hD
      have Dc : c ≠ D := fun e => by rw [← e, h3c] at hD; cases hD
      refine k _ p c D (same_mut (s3.trans hs) np) np fc (s3.free hD) ⟨⟨0, cs, gs, ?_, ?_, ?_, hC, ?_, by omega⟩, Dc⟩
      · exact upd_same
      · rw [upd_ne (Ne.symm pc)]; exact h4c
      · rw [upd_ne Dp]; exact hD'
      · have : gs.length = ns.length := by rw [hl, List.length_map]
        omega
end
end TSx

namespace TSx
open PySem L2
local macro_rules | `(tactic| walk_at "rd") => `(tactic| repeat (first
  | ((with_reducible show tVar _ _ _ _); refine r_v rfl ?_)
  | with_reducible refine r_c ?_
  | with_reducible refine r_op ?_
  | with_reducible refine r_I0 ?_
  | with_reducible refine r_cb ?_
  | with_reducible refine r_nil ?_
  | with_reducible refine r_cons ?_
  | with_reducible refine r_seq ?_
  | with_reducible refine r_next ?_
  | with_reducible refine r_asg ?_
  | with_reducible refine r_name ?_
  | with_reducible refine r_ret ?_
  | with_reducible refine r_drop ?_
  | with_reducible refine r_if ?_
  | with_reducible refine r_test ?_
  | with_reducible refine r_bl ?_
  | with_reducible refine r_call ?_))
local macro_rules | `(tactic| walk_at "st") => `(tactic| repeat (first
  | with_reducible refine r_seq ?_
  | with_reducible refine r_next ?_
  | with_reducible refine r_asg ?_
  | with_reducible refine r_name ?_
  | with_reducible refine r_ret ?_
  | with_reducible refine r_drop ?_
  | with_reducible refine r_if ?_))
local macro_rules | `(tactic| walk_at "mk") => `(tactic| repeat (first
  | with_reducible exact mk_non
  | with_reducible exact mk_int
  | with_reducible exact mk_str
  | with_reducible exact mk_bl
  | with_reducible exact mk_dic
  | with_reducible exact mka_nil
  | with_reducible refine mka_cons ?_ ?_
  | ((with_reducible refine mk_tup ?_ ?hz); (case hz => decide))
  | ((with_reducible refine mk_lst ?_ ?hz); (case hz => decide))
  | with_reducible refine mk_neg ?_))
abbrev sWhole : Stmt := top 18
abbrev sTup : Stmt := top 19
abbrev sWord : Stmt := top 20
abbrev sSides : Stmt := top 21
abbrev sWay : Stmt := top 22
abbrev sSeat : Stmt := top 23
theorem scWhole : FnScope ["value", "least", "most"] ["value", "least", "most"] (defScope sWhole) := ⟨rfl, rfl, rfl, by decide +kernel, rfl, by decide +kernel, by decide +kernel⟩
theorem scTup : FnScope ["value", "least", "most"] ["value", "least", "most"] (defScope sTup) := ⟨rfl, rfl, rfl, by decide +kernel, rfl, by decide +kernel, by decide +kernel⟩
theorem scWord : FnScope ["value", "words"] ["value", "words"] (defScope sWord) := ⟨rfl, rfl, rfl, by decide +kernel, rfl, by decide +kernel, by decide +kernel⟩
theorem scSides : FnScope ["value", "many", "letter"] ["value", "many"] (defScope sSides) := ⟨rfl, rfl, rfl, by decide +kernel, rfl, by decide +kernel, by decide +kernel⟩
theorem scWay : FnScope ["value", "many_bodies", "wards", "word", "body", "tie"] ["value", "many_bodies", "wards"] (defScope sWay) := ⟨rfl, rfl, rfl, by decide +kernel, rfl, by decide +kernel, by decide +kernel⟩
theorem scSeat : FnScope ["value", "many_bodies", "wards", "term", "phase", "way"] ["value", "many_bodies", "wards"] (defScope sSeat) := ⟨rfl, rfl, rfl, by decide +kernel, rfl, by decide +kernel, by decide +kernel⟩
section
variable {P : Program} {w : World} {K : PySem.W.Frag} {mg : Str → Option Value} {base : Heap} {pT : Addr}
theorem ok_whole {f : Addr} {fd : FuncData} (F : L2.Fun K "is_whole" "is_whole" sWhole f fd) (B : Blt mg) (Z : Blt2 mg) : FnOk P w K mg base CX0 1 f fd ["value", "least", "most"] (spP K fWn) := by
  refine F.ok scWhole (spP_len (n := 3) fun ds r h => by obtain ⟨_, _, _, rfl, _⟩ := h; rfl) (fun cdv A outer s H vs Q E hr h => ?_)
  obtain ⟨_, _, ha, ⟨d, a, b, rfl, hn, rfl⟩, k⟩ := h
  obtain ⟨v1, v2, v3, rfl, x1, x2, x3⟩ := ha.three
  refine ⟨_, (pss_one (ps_ret (pe_and (pe_callB call_isi (by rfl) B.isinstance PyProof.Rows.boot_isinstance (pa_cons (pv 0) (pa_cons (pe_bltn (v := .ty "int") (by rfl) Z.int (by decide +kernel) rfl) pa_nil))) (pe_and (pe_not (pe_callB call_isi (by rfl) B.isinstance PyProof.Rows.boot_isinstance (pa_cons (pv 0) (pa_cons (pe_bltn (v := .ty "bool") (by rfl) Z.bool (by decide +kernel) rfl) pa_nil)))) (pe_one (pe_chain op_le op_le (pv 1) (pv 0) (pv 2))))))), ?_⟩
  walk_at "st"
  exact mk_whole (mk_var rfl x1) hn (mk_var rfl x2) (mk_var rfl x3) H Gr.rfl' _ fun v H1 s1 a1 => k v H1 s1 a1
theorem ok_tup {f : Addr} {fd : FuncData} (F : L2.Fun K "is_tuple" "is_tuple" sTup f fd) (B : Blt mg) (Z : Blt2 mg) : FnOk P w K mg base CX0 1 f fd ["value", "least", "most"] (spP K fTn) := by
  refine F.ok scTup (spP_len (n := 3) fun ds r h => by obtain ⟨_, _, _, rfl, _⟩ := h; rfl) (fun cdv A outer s H vs Q E hr h => ?_)
  obtain ⟨_, _, ha, ⟨d, a, b, rfl, hn, rfl⟩, k⟩ := h
  obtain ⟨v1, v2, v3, rfl, x1, x2, x3⟩ := ha.three
  refine ⟨_, (pss_one (ps_ret (pe_and (pe_callB call_isi (by rfl) B.isinstance PyProof.Rows.boot_isinstance (pa_cons (pv 0) (pa_cons (pe_bltn (v := .ty "tuple") (by rfl) Z.tuple (by decide +kernel) rfl) pa_nil))) (pe_one (pe_chain op_le op_le (pv 1) (pe_callB call_len_seq (by rfl) B.len PySem.boot_len (pa_cons (pv 0) pa_nil)) (pv 2)))))), ?_⟩
  walk_at "st"
  rw [← tuple_and d a b] at k
  refine mk_andV (mk_isT (mk_var rfl x1) hn) (fun i => ?_) H Gr.rfl' _ fun v H1 s1 a1 => k v H1 s1 a1
  cases d with
  | tup xs => exact mk_chainI (mk_var rfl x2) (mk_lenT (mk_var rfl x1)) (mk_var rfl x3)
  | _ => exact absurd i (by simp [isT])
theorem ok_word {f : Addr} {fd : FuncData} (F : L2.Fun K "is_word" "is_word" sWord f fd) (B : Blt mg) (Z : Blt2 mg) : FnOk P w K mg base CX0 1 f fd ["value", "words"] (spP K fWdn) := by
  refine F.ok scWord (spP_len (n := 2) fun ds r h => by obtain ⟨_, _, rfl, _⟩ := h; rfl) (fun cdv A outer s H vs Q E hr h => ?_)
  obtain ⟨_, _, ha, ⟨d, ws, rfl, hn, rfl⟩, k⟩ := h
  obtain ⟨v1, v2, rfl, x1, x2⟩ := ha.two
  refine ⟨_, (pss_one (ps_ret (pe_and (pe_callB call_isi (by rfl) B.isinstance PyProof.Rows.boot_isinstance (pa_cons (pv 0) (pa_cons (pe_bltn (v := .ty "str") (by rfl) Z.str (by decide +kernel) rfl) pa_nil))) (pe_one (pe_cmpR op_in_seq (pv 0) (pv 1) rfl))))), ?_⟩
  walk_at "st"
  rw [← word_and d ws] at k
  refine mk_andV (mk_isS (mk_var rfl x1) hn) (fun i => ?_) H Gr.rfl' _ fun v H1 s1 a1 => k v H1 s1 a1
  cases d with
  | str x => exact mk_inT (mk_var rfl x1) (mk_var rfl x2)
  | _ => exact absurd i (by simp [isS])
theorem ok_sides {f : Addr} {fd : FuncData} (F : L2.Fun K "is_sides" "is_sides" sSides f fd) (B : Blt mg) (Z : Blt2 mg) : FnOk P w K mg base CX0 1 f fd ["value", "many"] (spP K fSdn) := by
  refine F.ok scSides (spP_len (n := 2) fun ds r h => by obtain ⟨_, _, rfl, _⟩ := h; rfl) (fun cdv A outer s H vs Q E hr h => ?_)
  obtain ⟨_, _, ha, ⟨d, n, rfl, hn, rfl⟩, k⟩ := h
  obtain ⟨v1, v2, rfl, x1, x2⟩ := ha.two
  refine ⟨_, (pss_cons (ps_if (PW.pt (pw_or (pt_not (pt_val (pe_callB call_isi (by rfl) B.isinstance PyProof.Rows.boot_isinstance (pa_cons (pv 0) (pa_cons (pe_bltn (v := .ty "str") (by rfl) Z.str (by decide +kernel) rfl) pa_nil))))) (pw_or1 (pt_cmpR op_ne (pe_callB call_len_str (by rfl) B.len PySem.boot_len (pa_cons (pv 0) pa_nil)) (pv 1) (nomark _))))) (pss_one (ps_ret pe_bl)) pss_nil)
  (pss_one (ps_ret (pe_callB (cr_all rfl) (by rfl) Z.all (by decide +kernel) (pa_cons (pe_lc (own := [("letter", 2)]) (g := gName 2) (tt := tYes) rfl scSides.nd (pi_str (pv 0)) (blkOk_by (N := ["value", "many", "letter"]) (sc := defScope sSides) (by decide +kernel)) (fun _ _ _ _ _ => pg_name (i := 2) scSides.nd rfl (Or.inl rfl)) (fun _ _ _ _ _ => pts_nil) (fun _ _ _ _ _ => (pe_cmpR op_in_sign (pv 2) pe_str rfl))) pa_nil))))), ?_⟩
  walk_at "st"
  have t1 : MkT _ (L2.start ["value", "many", "letter"] [v1, v2]) H _ := mt_not (mt_B (mk_isS (mk_var (n := 0) rfl x1) hn))
  cases d with
  | str x =>
    have hx : x.length ≤ 1000 := by simpa [D.nx] using hn
    refine mt_or2 t1 (b := !decide ((x.length : Int) = n)) (fun _ => mt_test (mk_neI (mk_lenS (mk_var rfl x1) (by omega)) (mk_var (n := 1) rfl x2))) H Gr.rfl' _ fun H1 s1 => ?_
    by_cases c : (x.length : Int) = n
    · rw [decide_eq_true c]
      refine iteF ?_
      walk_at "st"
      have lc := mk_lcX (K := K) (σ := L2.start ["value", "many", "letter"] [v1, v2]) (H := H1) (i := 2) (g := fun c => D.bl (abC c)) (fun _ => rfl) (mk_var (n := 0) rfl (x1.gr s1)) hx fun c H2 s2 => mk_inSg (mk_var (n := 2) rfl (.str ⟨#[c]⟩)) mk_str
      have al := mk_all (bs := x.cps.toList.map abC) (by rw [List.map_map]; exact lc)
      refine al H1 Gr.rfl' _ fun v H2 s2 a2 => k v H2 (s1.trans s2) ?_
      have e : isSd (.str x) n = (x.cps.toList.map abC).all id := by
        show (decide ((x.length : Int) = n) && _) = _
        rw [decide_eq_true c, Bool.true_and, List.all_map]
        rfl
      rw [e]
      exact a2
    · rw [decide_eq_false c]
      refine iteT ?_
      walk_at "rd"
      refine k _ H1 s1 ?_
      have e : isSd (.str x) n = false := by
        show (decide ((x.length : Int) = n) && _) = _
        rw [decide_eq_false c]
        rfl
      rw [e]
      exact .bl false
  | _ =>
    refine mt_or2 (b := false) t1 (fun z => absurd z (by simp [isS])) H Gr.rfl' _ fun H1 s1 => ?_
    refine iteT ?_
    walk_at "rd"
    exact k _ H1 s1 (.bl false)
theorem ok_way {f fT fW fN : Addr} {fd fdT fdW fdN : FuncData} (F : L2.Fun K "is_way" "is_way" sWay f fd) (B : Blt mg) (Z : Blt2 mg) (C : CstH K mg pT)
    (dis_tuple : Dok P w K mg base 1 "is_tuple" ["value", "least", "most"] (spP K fTn) fT fdT) (dis_word : Dok P w K mg base 1 "is_word" ["value", "words"] (spP K fWdn) fW fdW) (dis_whole : Dok P w K mg base 1 "is_whole" ["value", "least", "most"] (spP K fWn) fN fdN) :
    FnOk P w K mg base CX0 2 f fd ["value", "many_bodies", "wards"] (spP K fWyn) := by
  refine F.ok scWay (spP_len (n := 3) fun ds r h => by obtain ⟨_, _, _, rfl, _⟩ := h; rfl) (fun cdv A outer s H vs Q E hr h => ?_)
  obtain ⟨_, _, ha, ⟨x, n, m, rfl, hn, rfl⟩, k⟩ := h
  obtain ⟨v1, v2, v3, rfl, x1, x2, x3⟩ := ha.three
  refine ⟨_, (pss_cons (ps_if (pt_not (pt_val (pe_call dis_tuple.G (hr.mono (by decide)) rfl dis_tuple.g dis_tuple.k dis_tuple.b .nil pass0 (pa_cons (pv 0) (pa_cons pe_int (pa_cons pe_int pa_nil)))))) (pss_one (ps_ret pe_bl)) pss_nil)
  (pss_cons (ps_if (pt_cmpR op_eq (pe_callB call_len_seq (by rfl) B.len PySem.boot_len (pa_cons (pv 0) pa_nil)) pe_int (nomark _)) (pss_one (ps_ret (pe_call dis_word.G (hr.mono (by decide)) rfl dis_word.g dis_word.k dis_word.b .nil pass0 (pa_cons (pe_ix ix_tup (pv 0) pe_int (fun _ _ => rfl)) (pa_cons (pe_tup (pa_cons pe_str pa_nil)) pa_nil))))) pss_nil)
  (pss_cons (ps_if (pt_cmpR op_eq (pe_callB call_len_seq (by rfl) B.len PySem.boot_len (pa_cons (pv 0) pa_nil)) pe_int (nomark _)) (pss_one (ps_ret (pe_and (pe_call dis_word.G (hr.mono (by decide)) rfl dis_word.g dis_word.k dis_word.b .nil pass0 (pa_cons (pe_ix ix_tup (pv 0) pe_int (fun _ _ => rfl)) (pa_cons (pe_tup (pa_cons pe_str pa_nil)) pa_nil))) (pe_one (pe_call dis_whole.G (hr.mono (by decide)) rfl dis_whole.g dis_whole.k dis_whole.b .nil pass0 (pa_cons (pe_ix ix_tup (pv 0) pe_int (fun _ _ => rfl)) (pa_cons pe_int (pa_cons (pe_op op_sub (pv 2) pe_int) pa_nil)))))))) pss_nil)
  (pss_cons (ps_asg (pv 0) (pg_tup rfl (pgs_cons (pg_name (i := 3) scWay.nd rfl (Or.inl rfl)) (pgs_cons (pg_name (i := 4) scWay.nd rfl (Or.inl rfl)) (pgs_cons (pg_name (i := 5) scWay.nd rfl (Or.inl rfl)) pgs_nil)))))
  (pss_cons (ps_if (PW.pt (pw_or (pt_not (pt_val (pe_call dis_word.G (hr.mono (by decide)) rfl dis_word.g dis_word.k dis_word.b .nil pass0 (pa_cons (pv 3) (pa_cons (pe_tup (pa_cons pe_str (pa_cons pe_str pa_nil))) pa_nil))))) (pw_or1 (pt_not (pt_val (pe_call dis_word.G (hr.mono (by decide)) rfl dis_word.g dis_word.k dis_word.b .nil pass0 (pa_cons (pv 5) (pa_cons (pe_cstR rfl C.TIES) pa_nil)))))))) (pss_one (ps_ret pe_bl)) pss_nil)
  (pss_one (ps_ret (pe_call dis_whole.G (hr.mono (by decide)) rfl dis_whole.g dis_whole.k dis_whole.b .nil pass0 (pa_cons (pv 4) (pa_cons pe_int (pa_cons (pe_op op_sub (pv 1) pe_int) pa_nil))))))))))), ?_⟩
  have t1 : MkT _ (L2.start ["value", "many_bodies", "wards", "word", "body", "tie"] [v1, v2, v3]) H _ := mt_not (mt_callP (f := fTn) (mka_cons (mk_var (n := 0) rfl x1) (mka_cons (mk_int (i := 1)) (mka_cons (mk_int (i := 3)) mka_nil))) ⟨x, 1, 3, rfl, hn, rfl⟩)
  have len : ∀ {xs : List D} {H1 : Hp} {j : Int}, Dt K H1 v1 (.tup xs) → MkT (tTest (tOp rEq (tCB (fun xs H Q => ∃ p ys, xs = [.ref p] ∧ (SqL K H p ys ∨ SqT K H p ys) ∧ Q (.int ys.length) H) (tCons (tVar 0) tNil)) (tC (.int j)))) (L2.start ["value", "many_bodies", "wards", "word", "body", "tie"] [v1, v2, v3]) H1 (decide ((xs.length : Int) = j)) := fun y =>
    mt_test (mk_eqI (mk_lenT (mk_var rfl y)) mk_int)
  walk_at "st"
  refine t1 H Gr.rfl' _ fun H1 s1 => ?_
  by_cases c : isTu x 1 3 = true
  · rw [c]
    refine iteF ?_
    obtain ⟨xs, rfl, c1, c3⟩ := isTu_shape c
    have y1 := x1.gr s1
    have nA : nxA xs = true := hn
    match xs, c1, c3, nA with
    | [], c1, _, _ => exact absurd c1 (by decide)
    | [a], _, _, nA =>
      have na := nxA_mem nA (List.mem_cons_self ..)
      walk_at "st"
      refine (len (j := 1) y1) H1 Gr.rfl' _ fun H2 s2 => iteT ?_
      walk_at "st"
      exact mk_call (r := .bl (isWd a ["kept"])) (mka_cons (mk_ixT (i := 0) (mk_var rfl (y1.gr s2)) mk_int rfl) (mka_cons (mk_tup (mka_cons mk_str mka_nil) (show 1 ≤ 100000 by decide)) mka_nil)) ⟨_, ["kept"], rfl, na, rfl⟩ H2 Gr.rfl' _ fun v H3 s3 a => k v H3 ((s1.trans s2).trans s3) a
    | [a, b], _, _, nA =>
      have na := nxA_mem nA (List.mem_cons_self ..)
      have nb := nxA_mem nA (show b ∈ [a, b] by simp)
      walk_at "st"
      refine (len (j := 1) y1) H1 Gr.rfl' _ fun H2 s2 => iteF ?_
      have z1 := y1.gr s2
      walk_at "st"
      refine (len (j := 2) z1) H2 Gr.rfl' _ fun H3 s3 => iteT ?_
      have u1 := z1.gr s3
      have u3 := x3.gr ((s1.trans s2).trans s3)
      walk_at "st"
      exact mk_andV (mk_call (r := .bl (isWd a ["ward"])) (mka_cons (mk_ixT (i := 0) (mk_var rfl u1) mk_int rfl) (mka_cons (mk_tup (mka_cons mk_str mka_nil) (show 1 ≤ 100000 by decide)) mka_nil)) ⟨_, ["ward"], rfl, na, rfl⟩) (fun _ =>
        mk_call (r := .bl (isW b 0 (m - 1))) (mka_cons (mk_ixT (i := 1) (mk_var rfl u1) mk_int rfl) (mka_cons mk_int (mka_cons (mk_I0 (mk_var rfl u3) mk_int) mka_nil))) ⟨_, _, _, rfl, nb, rfl⟩) H3 Gr.rfl' _ fun v H4 s4 a => k v H4 (((s1.trans s2).trans s3).trans s4) a
    | [a, b, e], _, _, nA =>
      have na := nxA_mem nA (List.mem_cons_self ..)
      have nb := nxA_mem nA (show b ∈ [a, b, e] by simp)
      have ne := nxA_mem nA (show e ∈ [a, b, e] by simp)
      walk_at "st"
      refine (len (j := 1) y1) H1 Gr.rfl' _ fun H2 s2 => iteF ?_
      have z1 := y1.gr s2
      walk_at "st"
      refine (len (j := 2) z1) H2 Gr.rfl' _ fun H3 s3 => iteF ?_
      have u1 := z1.gr s3
      have u2 := x2.gr ((s1.trans s2).trans s3)
      walk_at "rd"
      refine r_unp3 u1 fun w1 w2 w3 e1 e2 e3 => ?_
      walk_at "st"
      refine mt_or2 (mt_not (mt_callP (mka_cons (mk_var rfl e1) (mka_cons (mk_tup (mka_cons mk_str (mka_cons mk_str mka_nil)) (show 2 ≤ 100000 by decide)) mka_nil)) ⟨a, ["body", "rest"], rfl, na, rfl⟩)) (fun _ =>
        mt_not (mt_callP (mka_cons (mk_var rfl e3) (mka_cons (mk_cref C.ties) mka_nil)) ⟨e, tiesL, rfl, ne, rfl⟩)) H3 Gr.rfl' _ fun H4 s4 => ?_
      cases q1 : isWd a ["body", "rest"] with
      | false =>
        refine iteT ?_
        walk_at "rd"
        refine k _ H4 (((s1.trans s2).trans s3).trans s4) ?_
        show Dt K H4 _ (.bl (isWd a ["body", "rest"] && isWd e tiesL && _))
        rw [q1]
        exact .bl false
      | true =>
        cases q2 : isWd e tiesL with
        | false =>
          refine iteT ?_
          walk_at "rd"
          refine k _ H4 (((s1.trans s2).trans s3).trans s4) ?_
          show Dt K H4 _ (.bl (isWd a ["body", "rest"] && isWd e tiesL && _))
          rw [q1, q2]
          exact .bl false
        | true =>
          refine iteF ?_
          walk_at "st"
          refine mk_call (r := .bl (isW b 0 (n - 1))) (mka_cons (mk_var rfl (e2.gr s4)) (mka_cons mk_int (mka_cons (mk_I0 (mk_var rfl (u2.gr s4)) mk_int) mka_nil))) ⟨_, _, _, rfl, nb, rfl⟩ H4 Gr.rfl' _ fun v H5 s5 a5 => k v H5 ((((s1.trans s2).trans s3).trans s4).trans s5) ?_
          show Dt K H5 _ (.bl (isWd a ["body", "rest"] && isWd e tiesL && _))
          rw [q1, q2]
          exact a5
    | a :: b :: e :: g :: r, _, c3, _ => exact absurd c3 (by simp only [List.length_cons]; omega)
  · have c' : isTu x 1 3 = false := by simpa using c
    rw [c']
    refine iteT ?_
    walk_at "rd"
    refine k _ H1 s1 ?_
    have e : isWy x n m = false := by
      cases x with
      | tup xs =>
        match xs with
        | [] => rfl
        | [a] => exact absurd c' (by simp [isTu])
        | [a, b] => exact absurd c' (by simp [isTu])
        | [a, b, e] => exact absurd c' (by simp [isTu])
        | a :: b :: e :: g :: r => rfl
      | _ => rfl
    rw [e]
    exact .bl false
theorem ok_seat {f fT fW fN : Addr} {fd fdT fdW fdN : FuncData} (F : L2.Fun K "is_seat" "is_seat" sSeat f fd) (C : CstH K mg pT)
    (dis_tuple : Dok P w K mg base 1 "is_tuple" ["value", "least", "most"] (spP K fTn) fT fdT) (dis_way : Dok P w K mg base 2 "is_way" ["value", "many_bodies", "wards"] (spP K fWyn) fW fdW) (dis_whole : Dok P w K mg base 1 "is_whole" ["value", "least", "most"] (spP K fWn) fN fdN) :
    FnOk P w K mg base CX0 3 f fd ["value", "many_bodies", "wards"] (spP K fSen) := by
  refine F.ok scSeat (spP_len (n := 3) fun ds r h => by obtain ⟨_, _, _, rfl, _⟩ := h; rfl) (fun cdv A outer s H vs Q E hr h => ?_)
  obtain ⟨_, _, ha, ⟨x, n, m, rfl, hn, rfl⟩, k⟩ := h
  obtain ⟨v1, v2, v3, rfl, x1, x2, x3⟩ := ha.three
  refine ⟨_, (pss_cons (ps_if (pt_not (pt_val (pe_call dis_tuple.G (hr.mono (by decide)) rfl dis_tuple.g dis_tuple.k dis_tuple.b .nil pass0 (pa_cons (pv 0) (pa_cons pe_int (pa_cons pe_int pa_nil)))))) (pss_one (ps_ret pe_bl)) pss_nil)
  (pss_cons (ps_asg (pv 0) (pg_tup rfl (pgs_cons (pg_name (i := 3) scSeat.nd rfl (Or.inl rfl)) (pgs_cons (pg_name (i := 4) scSeat.nd rfl (Or.inl rfl)) (pgs_cons (pg_name (i := 5) scSeat.nd rfl (Or.inl rfl)) pgs_nil)))))
  (pss_cons (ps_if (PW.pt (pw_or (pt_not (pt_val (pe_call dis_whole.G (hr.mono (by decide)) rfl dis_whole.g dis_whole.k dis_whole.b .nil pass0 (pa_cons (pv 3) (pa_cons pe_int (pa_cons (pe_cstE rfl C.MOST_TERM) pa_nil)))))) (pw_or1 (pt_not (pt_val (pe_call dis_whole.G (hr.mono (by decide)) rfl dis_whole.g dis_whole.k dis_whole.b .nil pass0 (pa_cons (pv 4) (pa_cons pe_int (pa_cons (pe_op op_sub (pv 3) pe_int) pa_nil))))))))) (pss_one (ps_ret pe_bl)) pss_nil)
  (pss_one (ps_ret (pe_call dis_way.G (hr.mono (by decide)) rfl dis_way.g dis_way.k dis_way.b .nil pass0 (pa_cons (pv 5) (pa_cons (pv 1) (pa_cons (pv 2) pa_nil))))))))), ?_⟩
  walk_at "st"
  refine mt_not (mt_callP (mka_cons (mk_var rfl x1) (mka_cons (mk_int (i := 3)) (mka_cons (mk_int (i := 3)) mka_nil))) ⟨x, 3, 3, rfl, hn, rfl⟩) H Gr.rfl' _ fun H1 s1 => ?_
  by_cases c : isTu x 3 3 = true
  · rw [c]
    refine iteF ?_
    obtain ⟨xs, rfl, c1, c3⟩ := isTu_shape c
    have nA : nxA xs = true := hn
    obtain ⟨a, b, e, rfl⟩ : ∃ a b e, xs = [a, b, e] := by
      match xs, c1, c3 with
      | [a, b, e], _, _ => exact ⟨a, b, e, rfl⟩
      | [], c1, _ => exact absurd c1 (by decide)
      | [_], c1, _ => exact absurd c1 (by simp)
      | [_, _], c1, _ => exact absurd c1 (by simp)
      | _ :: _ :: _ :: _ :: _, _, c3 => exact absurd c3 (by simp only [List.length_cons]; omega)
    have na := nxA_mem nA (List.mem_cons_self ..)
    have nb := nxA_mem nA (show b ∈ [a, b, e] by simp)
    have ne := nxA_mem nA (show e ∈ [a, b, e] by simp)
    walk_at "rd"
    refine r_unp3 (x1.gr s1) fun w1 w2 w3 e1 e2 e3 => ?_
    walk_at "st"
    have no : ∀ (H2 : Hp), Same H H2 → isSe (.tup [a, b, e]) n m = false → Q (.bl false) H2 := fun H2 s2 z => k _ H2 s2 (by rw [z]; exact .bl false)
    have t2 : MkT _ ([some v1, some v2, some v3, some w1, some w2, some w3] : Sg) H1 _ := mt_not (mt_callP (f := fWn) (mka_cons (mk_var (n := 3) rfl e1) (mka_cons (mk_int (i := 1)) (mka_cons (mk_int (i := 6)) mka_nil))) ⟨a, 1, 6, rfl, na, rfl⟩)
    cases qa : isW a 1 6 with
    | false =>
      rw [qa] at t2
      refine mt_or2 (b := false) t2 (fun z => by cases z) H1 Gr.rfl' _ fun H2 s2 => ?_
      refine iteT ?_
      walk_at "rd"
      refine no H2 (s1.trans s2) ?_
      cases a with
      | int t => show (isW (.int t) 1 6 && _ && _) = false; rw [qa]; rfl
      | _ => rfl
    | true =>
      cases a with
      | int t =>
        rw [qa] at t2
        refine mt_or2 t2 (fun _ => mt_not (mt_callP (mka_cons (mk_var rfl e2) (mka_cons (mk_int (i := 0)) (mka_cons (mk_I0 (g := fun i j => i - j) (mk_var rfl e1) (mk_int (i := 1))) mka_nil))) ⟨b, 0, t - 1, rfl, nb, rfl⟩)) H1 Gr.rfl' _ fun H2 s2 => ?_
        cases qb : isW b 0 (t - 1) with
        | false =>
          refine iteT ?_
          walk_at "rd"
          refine no H2 (s1.trans s2) ?_
          show (isW (.int t) 1 6 && isW b 0 (t - 1) && _) = false
          rw [qa, qb]; rfl
        | true =>
          refine iteF ?_
          walk_at "st"
          refine mk_call (r := .bl (isWy e n m)) (mka_cons (mk_var rfl (e3.gr s2)) (mka_cons (mk_var rfl (x2.gr (s1.trans s2))) (mka_cons (mk_var rfl (x3.gr (s1.trans s2))) mka_nil))) ⟨e, n, m, rfl, ne, rfl⟩ H2 Gr.rfl' _ fun v H3 s3 a3 => k v H3 ((s1.trans s2).trans s3) ?_
          show Dt K H3 v (.bl (isW (.int t) 1 6 && isW b 0 (t - 1) && isWy e n m))
          rw [qa, qb]
          exact a3
      | _ => exact absurd qa (by simp [isW])
  · have c' : isTu x 3 3 = false := by simpa using c
    rw [c']
    refine iteT ?_
    walk_at "rd"
    refine k _ H1 s1 ?_
    have e : isSe x n m = false := by
      unfold isSe
      split
      · exact absurd c' (by simp [isTu])
      · rfl
    rw [e]
    exact .bl false
end
end TSx

namespace TSx
open PySem L2
local macro_rules | `(tactic| walk_at "rd") => `(tactic| repeat (first
  | ((with_reducible show tVar _ _ _ _); refine r_v rfl ?_)
  | with_reducible refine r_c ?_
  | with_reducible refine r_op ?_
  | with_reducible refine r_I0 ?_
  | with_reducible refine r_cb ?_
  | with_reducible refine r_nil ?_
  | with_reducible refine r_cons ?_
  | with_reducible refine r_seq ?_
  | with_reducible refine r_next ?_
  | with_reducible refine r_asg ?_
  | with_reducible refine r_name ?_
  | with_reducible refine r_ret ?_
  | with_reducible refine r_drop ?_
  | with_reducible refine r_if ?_
  | with_reducible refine r_test ?_
  | with_reducible refine r_bl ?_
  | with_reducible refine r_call ?_))
local macro_rules | `(tactic| walk_at "st") => `(tactic| repeat (first
  | with_reducible refine r_seq ?_
  | with_reducible refine r_next ?_
  | with_reducible refine r_asg ?_
  | with_reducible refine r_name ?_
  | with_reducible refine r_ret ?_
  | with_reducible refine r_drop ?_
  | with_reducible refine r_if ?_))
local macro_rules | `(tactic| walk_at "mk") => `(tactic| repeat (first
  | with_reducible exact mk_non
  | with_reducible exact mk_int
  | with_reducible exact mk_str
  | with_reducible exact mk_bl
  | with_reducible exact mk_dic
  | with_reducible exact mka_nil
  | with_reducible refine mka_cons ?_ ?_
  | ((with_reducible refine mk_tup ?_ ?hz); (case hz => decide))
  | ((with_reducible refine mk_lst ?_ ?hz); (case hz => decide))
  | with_reducible refine mk_neg ?_))
abbrev sNH : Stmt := top 24
abbrev sNB : Stmt := top 25
abbrev sCT : Stmt := top 26
abbrev sHR : Stmt := top 27
abbrev sIS : Stmt := top 28
abbrev sNS : Stmt := top 29
abbrev sBA : Stmt := top 30
theorem scNB : FnScope ["body", "number", "many_bodies", "wards", "place", "seat"] ["body", "number", "many_bodies", "wards"] (defScope sNB) := ⟨rfl, rfl, rfl, by decide +kernel, rfl, by decide +kernel, by decide +kernel⟩
theorem scCT : FnScope ["bodies", "common", "body", "seat"] ["bodies"] (defScope sCT) := ⟨rfl, rfl, rfl, by decide +kernel, rfl, by decide +kernel, by decide +kernel⟩
theorem scNH : FnScope ["house", "bodies", "wards", "number", "body"] ["house"] (defScope sNH) := ⟨rfl, rfl, rfl, by decide +kernel, rfl, by decide +kernel, by decide +kernel⟩
theorem scNS : FnScope ["house", "stand"] ["house", "stand"] (defScope sNS) := ⟨rfl, rfl, rfl, by decide +kernel, rfl, by decide +kernel, by decide +kernel⟩
theorem scHR : FnScope ["house"] ["house"] (defScope sHR) := ⟨rfl, rfl, rfl, by decide +kernel, rfl, by decide +kernel, by decide +kernel⟩
theorem scBA : FnScope ["band", "turn", "gap"] ["band"] (defScope sBA) := ⟨rfl, rfl, rfl, by decide +kernel, rfl, by decide +kernel, by decide +kernel⟩
def orExc (r : D) (C : Addr) (f : Str) : Option D → Out
  | none => .ret r
  | some p => .exc C f p
def fNBn (CH : Addr) (ds : List D) (o : Out) : Prop := ∃ (d : D) (k : Nat) (n w : Int), ds = [d, .int (k : Nat), .int n, .int w] ∧ d.nx = true ∧ o = orExc .non CH "place" (wrS d k n w)
def fCTn (ds : List D) (r : D) : Prop := ∃ bs, ds = [.tup bs] ∧ bs.length ≤ 1000 ∧ (∀ b ∈ bs, tmB b) ∧ r = .int (lcH bs : Nat)
def fNHn (CH : Addr) (ds : List D) (o : Out) : Prop := ∃ d, ds = [d] ∧ d.nx = true ∧ o = orExc d CH "place" (wrH d)
def fHRn (CH : Addr) (ds : List D) (o : Out) : Prop := ∃ d, ds = [d] ∧ d.nx = true ∧ o = orExc (match d with | .tup (.tup bs :: _) => .int (lcH bs : Nat) | _ => .non) CH "place" (wrH d)
def fBAn (CB : Addr) (ds : List D) (o : Out) : Prop := ∃ d, ds = [d] ∧ d.nx = true ∧ o = orExc d CB "part" (wrBd d)
section
variable {P : Program} {w : World} {K : PySem.W.Frag} {mg : Str → Option Value} {base : Heap} {pT CH CS CB iH iS iB : Addr} {fdH fdS fdB : FuncData}
theorem ok_NB {f fT fS : Addr} {fd fdT fdS : FuncData} (F : L2.Fun K "_need_seats" "_need_seats" sNB f fd) (B : Blt mg) (C : CstH K mg pT) (xBadHouse : Xc P w K mg base "BadHouse" "place" CH iH fdH)
    (dis_tuple : Dok P w K mg base 1 "is_tuple" ["value", "least", "most"] (spP K fTn) fT fdT) (dis_seat : Dok P w K mg base 3 "is_seat" ["value", "many_bodies", "wards"] (spP K fSen) fS fdS) :
    FnOk P w K mg base (L2.CX P w) 4 f fd ["body", "number", "many_bodies", "wards"] (spO K (fNBn CH)) := by
  refine F.okX scNB (spO_len (n := 4) fun ds r h => by obtain ⟨_, _, _, _, rfl, _⟩ := h; rfl) (fun cdv A outer s H vs Q E hr h => ?_)
  obtain ⟨_, _, ha, ⟨d, k, n, m, rfl, hn, rfl⟩, k0⟩ := h
  obtain ⟨v1, v2, v3, v4, rfl, x1, x2, x3, x4⟩ := ha.four
  refine ⟨_, (pss_cons (ps_if (pt_not (pt_val (pe_call dis_tuple.G (hr.mono (by decide)) rfl dis_tuple.g dis_tuple.k dis_tuple.b .nil pass0 (pa_cons (pv 0) (pa_cons pe_int (pa_cons (pe_cstE rfl C.MOST_SEATS) pa_nil)))))) (pss_one (ps_raise rfl (takes_of rfl rfl rfl rfl) (pmk_oex xBadHouse.o xBadHouse.iC xBadHouse.tI xBadHouse.F (hr.mono (by decide)) xBadHouse.b .nil pass0 rfl xBadHouse.g (pa_cons (pe_tup (pa_cons (pv 1) pa_nil)) pa_nil)))) pss_nil)
  (pss_one (ps_for (passes_of rfl) rfl (pi_enumT (by rfl) B.enumerate (pa_cons (pv 0) pa_nil)) (pg_tup rfl (pgs_cons (pg_name (i := 4) scNB.nd rfl (Or.inl rfl)) (pgs_cons (pg_name (i := 5) scNB.nd rfl (Or.inl rfl)) pgs_nil)))
  (pss_one (ps_if (pt_not (pt_val (pe_call dis_seat.G (hr.mono (by decide)) rfl dis_seat.g dis_seat.k dis_seat.b .nil pass0 (pa_cons (pv 5) (pa_cons (pv 2) (pa_cons (pv 3) pa_nil)))))) (pss_one (ps_raise rfl (takes_of rfl rfl rfl rfl) (pmk_oex xBadHouse.o xBadHouse.iC xBadHouse.tI xBadHouse.F (hr.mono (by decide)) xBadHouse.b .nil pass0 rfl xBadHouse.g (pa_cons (pe_tup (pa_cons (pv 1) (pa_cons (pv 4) pa_nil))) pa_nil)))) pss_nil))))), ?_⟩
  walk_at "st"
  refine mt_not (mt_callP (mka_cons (mk_var rfl x1) (mka_cons (mk_int (i := 1)) (mka_cons (mk_int (i := 9)) mka_nil))) ⟨d, 1, 9, rfl, hn, rfl⟩) H Gr.rfl' _ fun H1 s1 => ?_
  have k1 := k0.sm s1
  by_cases c : isTu d 1 9 = true
  · rw [c]
    refine iteF ?_
    obtain ⟨ss, rfl, _, _⟩ := isTu_shape c
    have nA : nxA ss = true := hn
    walk_at "st"
    refine r_forE (ds := ss) (ev_var rfl (x1.gr s1)) (fun j σ H' => (∀ i s, i < j → ss[i]? = some s → isSe s n m = true) ∧ ∃ o4 o5 : Option V, σ = [some v1, some v2, some v3, some v4, o4, o5] ∧ Same H1 H') ⟨fun i s hi => absurd hi (Nat.not_lt_zero i), _, _, rfl, Gr.rfl'⟩ (fun j σ' H' z => by obtain ⟨_, _, _, _, z⟩ := z; exact z) ?_ ?_
    · rintro j st T σ H2 H3 hj ⟨low, o4, o5, rfl, s2⟩ s3 aT
      refine r_unp2 aT fun w1 w2 e1 e2 => ?_
      have ns := nxA_mem nA (List.mem_of_getElem? hj)
      have sX := s1.trans (s2.trans s3)
      walk_at "st"
      refine mt_not (mt_callP (mka_cons (mk_var rfl e2) (mka_cons (mk_var rfl (x3.gr sX)) (mka_cons (mk_var rfl (x4.gr sX)) mka_nil))) ⟨st, n, m, rfl, ns, rfl⟩) H3 Gr.rfl' _ fun H4 s4 => ?_
      cases q : isSe st n m with
      | false =>
        refine iteT ?_
        have sY := (s2.trans s3).trans s4
        rw [wrS_at c hj q low] at k1
        exact raise_said (mk_tup (mka_cons (mk_var rfl (x2.gr (s1.trans sY))) (mka_cons (mk_var rfl (e1.gr s4)) mka_nil)) (show 2 ≤ 100000 by decide)) (k1.sm sY)
      | true =>
        refine iteF ?_
        walk_at "st"
        refine ⟨fun i s hi e => ?_, _, _, rfl, (s2.trans s3).trans s4⟩
        by_cases z : i = j
        · subst z
          rw [hj] at e
          cases e
          exact q
        · exact low i s (by omega) e
    · rintro σ H2 ⟨low, o4, o5, rfl, s2⟩
      rw [wrS_ok c fun i s e => low i s (List.getElem?_eq_some_iff.mp e).1 e] at k1
      exact k1 .non H2 s2 .non
  · have c' : isTu d 1 9 = false := by simpa using c
    rw [c']
    refine iteT ?_
    rw [wrS_no c'] at k1
    exact raise_said (mk_tup (mka_cons (mk_var rfl (x2.gr s1)) mka_nil) (show 1 ≤ 100000 by decide)) k1
theorem ok_CT {f : Addr} {fd : FuncData} (F : L2.Fun K "common_term" "common_term" sCT f fd) (glcm : mg "lcm" = some (.builtin "math.lcm")) : FnOk P w K mg base CX0 1 f fd ["bodies"] (spP K fCTn) := by
  refine F.ok scCT (spP_len (n := 1) fun ds r h => by obtain ⟨_, rfl, _⟩ := h; rfl) (fun cdv A outer s H vs Q E hr h => ?_)
  obtain ⟨_, _, ha, ⟨bs, rfl, hl, ht, rfl⟩, k⟩ := h
  obtain ⟨v1, rfl, x1⟩ := ha.one
  refine ⟨_, (pss_cons (ps_set (i := 1) scCT.nd rfl (Or.inl rfl) pe_int)
  (pss_cons (ps_for PassesOwn.never rfl (pi_tup (pv 0)) (pg_name (i := 2) scCT.nd rfl (Or.inl rfl))
  (pss_one (ps_for PassesOwn.never rfl (pi_tup (pv 2)) (pg_name (i := 3) scCT.nd rfl (Or.inl rfl))
  (pss_one (ps_set (i := 1) scCT.nd rfl (Or.inl rfl) (pe_callBfun cr_lcm rfl glcm (pa_cons (pv 1) (pa_cons (pe_ix ix_tup (pv 3) pe_int (fun _ _ => rfl)) pa_nil))))))))
  (pss_one (ps_ret (pv 1))))), ?_⟩
  walk_at "rd"
  refine r_forT (ds := bs) (ev_var rfl x1) (fun j σ H' => ∃ o2 o3 : Option V, σ = [some v1, some (.int ((bs.take j).foldl lcB 1 : Nat)), o2, o3] ∧ H' = H) ⟨_, _, rfl, rfl⟩ (fun j σ' H' z => by obtain ⟨_, _, _, rfl⟩ := z; exact Gr.rfl') ?_ ?_
  · rintro j b y σ H1 hj ⟨o2, o3, rfl, rfl⟩ ay
    have tk : (bs.take (j + 1)).foldl lcB 1 = lcB ((bs.take j).foldl lcB 1) b := by rw [List.take_add_one, hj, List.foldl_append]; rfl
    have c60 : (bs.take j).foldl lcB 1 ∣ 60 := lcF_60 (by decide) fun b hb => ht b (List.mem_of_mem_take hb)
    generalize (bs.take j).foldl lcB 1 = c at tk c60 ⊢
    obtain ⟨ss, rfl, hs⟩ := ht b (List.mem_of_getElem? hj)
    let G : Nat → D → Nat := fun c s => (Nat.lcm 1 c).lcm (termD s)
    refine r_forT (ds := ss) (ev_var rfl ay) (fun i σ H' => ∃ o3 : Option V, σ = [some v1, some (.int ((ss.take i).foldl G c : Nat)), some y, o3] ∧ H' = H1) ⟨_, rfl, rfl⟩ (fun j σ' H' z => by obtain ⟨_, _, rfl⟩ := z; exact Gr.rfl') ?_ ?_
    · rintro i st z σ H2 hi ⟨o3, rfl, rfl⟩ az
      obtain ⟨t, r, rfl, t1, t6⟩ := hs st (List.mem_of_getElem? hi)
      have tk2 : (ss.take (i + 1)).foldl G c = (Nat.lcm 1 ((ss.take i).foldl G c)).lcm t.toNat := by
        rw [List.take_add_one, hi, List.foldl_append]
        rfl
      have e60 : (ss.take i).foldl G c ∣ 60 := lcB_60 c60 fun s m => hs s (List.mem_of_mem_take m)
      walk_at "st"
      refine r_cb (r_cons (r_v rfl (r_cons ?_)))
      obtain ⟨u, au, ku⟩ := ev_ixT (K := K) (ta := tVar 3) (tb := tC (.int 0)) (σ := [some v1, some (.int ((ss.take i).foldl G c : Nat)), some y, some z]) (i := 0) (ev_var rfl az) ev_int (d := .int t) rfl
      refine ku _ (r_nil ?_)
      cases au
      have le : (ss.take i).foldl G c ≤ 60 := Nat.le_of_dvd (by decide) e60
      obtain ⟨tn, rfl⟩ : ∃ tn : Nat, t = (tn : Int) := ⟨t.toNat, by omega⟩
      have l60 := lcmD_60 e60 (show 1 ≤ tn by omega) (show tn ≤ 6 by omega)
      refine ⟨_, _, rfl, ?_, ?_, logD60 l60, ?_⟩
      · show (ss.take i).foldl G c < 2 ^ 64; omega
      · show tn < 2 ^ 64; omega
      · walk_at "st"
        refine ⟨some z, ?_, rfl⟩
        rw [tk2]
        rfl
    · rintro σ H2 ⟨o3, rfl, rfl⟩
      refine ⟨some y, o3, ?_, rfl⟩
      rw [tk, List.take_length]
      rfl
  · rintro σ H1 ⟨o2, o3, rfl, rfl⟩
    walk_at "rd"
    rw [List.take_length]
    exact k _ H1 Gr.rfl' (.int _)
theorem ok_NH {f fT fW fB fC : Addr} {fd fdT fdW fdB fdC : FuncData} (F : L2.Fun K "need_house" "need_house" sNH f fd) (B : Blt mg) (Z : Blt2 mg) (C : CstH K mg pT) (xBadHouse : Xc P w K mg base "BadHouse" "place" CH iH fdH)
    (dis_tuple : Dok P w K mg base 1 "is_tuple" ["value", "least", "most"] (spP K fTn) fT fdT) (dis_whole : Dok P w K mg base 1 "is_whole" ["value", "least", "most"] (spP K fWn) fW fdW)
    (d_need_seats : DoX P w K mg base 4 "_need_seats" ["body", "number", "many_bodies", "wards"] (spO K (fNBn CH)) fB fdB) (dcommon_term : Dok P w K mg base 1 "common_term" ["bodies"] (spP K fCTn) fC fdC) :
    FnOk P w K mg base (L2.CX P w) 5 f fd ["house"] (spO K (fNHn CH)) := by
  refine F.okX scNH (spO_len (n := 1) fun ds r h => by obtain ⟨_, rfl, _⟩ := h; rfl) (fun cdv A outer s H vs Q E hr h => ?_)
  obtain ⟨_, _, ha, ⟨d, rfl, hn, rfl⟩, k0⟩ := h
  obtain ⟨v1, rfl, x1⟩ := ha.one
  refine ⟨_, (pss_cons (ps_if (pt_not (pt_val (pe_call dis_tuple.G (hr.mono (by decide)) rfl dis_tuple.g dis_tuple.k dis_tuple.b .nil pass0 (pa_cons (pv 0) (pa_cons pe_int (pa_cons pe_int pa_nil)))))) (pss_one (ps_raise rfl (takes_of rfl rfl rfl rfl) (pmk_oex xBadHouse.o xBadHouse.iC xBadHouse.tI xBadHouse.F (hr.mono (by decide)) xBadHouse.b .nil pass0 rfl xBadHouse.g (pa_cons pe_str pa_nil)))) pss_nil)
  (pss_cons (ps_asg (pv 0) (pg_tup rfl (pgs_cons (pg_name (i := 1) scNH.nd rfl (Or.inl rfl)) (pgs_cons (pg_name (i := 2) scNH.nd rfl (Or.inl rfl)) pgs_nil))))
  (pss_cons (ps_if (pt_not (pt_val (pe_call dis_whole.G (hr.mono (by decide)) rfl dis_whole.g dis_whole.k dis_whole.b .nil pass0 (pa_cons (pv 2) (pa_cons pe_int (pa_cons (pe_cstE rfl C.MOST_WARDS) pa_nil)))))) (pss_one (ps_raise rfl (takes_of rfl rfl rfl rfl) (pmk_oex xBadHouse.o xBadHouse.iC xBadHouse.tI xBadHouse.F (hr.mono (by decide)) xBadHouse.b .nil pass0 rfl xBadHouse.g (pa_cons pe_str pa_nil)))) pss_nil)
  (pss_cons (ps_if (pt_not (pt_val (pe_call dis_tuple.G (hr.mono (by decide)) rfl dis_tuple.g dis_tuple.k dis_tuple.b .nil pass0 (pa_cons (pv 1) (pa_cons pe_int (pa_cons (pe_cstE rfl C.MOST_BODIES) pa_nil)))))) (pss_one (ps_raise rfl (takes_of rfl rfl rfl rfl) (pmk_oex xBadHouse.o xBadHouse.iC xBadHouse.tI xBadHouse.F (hr.mono (by decide)) xBadHouse.b .nil pass0 rfl xBadHouse.g (pa_cons pe_str pa_nil)))) pss_nil)
  (pss_cons (ps_for (passes_of rfl) rfl (pi_enumT (by rfl) B.enumerate (pa_cons (pv 1) pa_nil)) (pg_tup rfl (pgs_cons (pg_name (i := 3) scNH.nd rfl (Or.inl rfl)) (pgs_cons (pg_name (i := 4) scNH.nd rfl (Or.inl rfl)) pgs_nil)))
  (pss_one (ps_expr (pe_call d_need_seats.G (hr.mono (by decide)) rfl d_need_seats.g d_need_seats.k d_need_seats.b .nil (passes_call (takes_of rfl rfl rfl rfl) (fun _ _ _ _ z => z)) (pa_cons (pv 4) (pa_cons (pv 3) (pa_cons (pe_callB call_len_seq (by rfl) B.len PySem.boot_len (pa_cons (pv 1) pa_nil)) (pa_cons (pv 2) pa_nil))))))))
  (pss_cons (ps_if (pt_cmpR op_gt (pe_callB (cr_sum rfl) (by rfl) Z.sum (by decide +kernel) (pa_cons (pe_lc (own := [("body", 4)]) (g := gName 4) (tt := tYes) rfl scNH.nd (pi_tup (pv 1)) (blkOk_by (N := ["house", "bodies", "wards", "number", "body"]) (sc := defScope sNH) (by decide +kernel)) (fun _ _ _ _ _ => pg_name (i := 4) scNH.nd rfl (Or.inl rfl)) (fun _ _ _ _ _ => pts_nil) (fun _ _ _ _ _ => (pe_callB (call_lenK (K := K) rfl) (by rfl) B.len PySem.boot_len (pa_cons (pv 4) pa_nil)))) pa_nil)) (pe_cstE rfl C.MOST_SEATS) (nomark _)) (pss_one (ps_raise rfl (takes_of rfl rfl rfl rfl) (pmk_oex xBadHouse.o xBadHouse.iC xBadHouse.tI xBadHouse.F (hr.mono (by decide)) xBadHouse.b .nil pass0 rfl xBadHouse.g (pa_cons pe_str pa_nil)))) pss_nil)
  (pss_cons (ps_if (pt_cmpR op_gt (pe_call dcommon_term.G (hr.mono (by decide)) rfl dcommon_term.g dcommon_term.k dcommon_term.b .nil pass0 (pa_cons (pv 1) pa_nil)) (pe_cstE rfl C.MOST_ROUND) (nomark _)) (pss_one (ps_raise rfl (takes_of rfl rfl rfl rfl) (pmk_oex xBadHouse.o xBadHouse.iC xBadHouse.tI xBadHouse.F (hr.mono (by decide)) xBadHouse.b .nil pass0 rfl xBadHouse.g (pa_cons pe_str pa_nil)))) pss_nil)
  (pss_one (ps_ret (pv 0)))))))))), ?_⟩
  walk_at "st"
  refine mt_not (mt_callP (mka_cons (mk_var rfl x1) (mka_cons (mk_int (i := 2)) (mka_cons (mk_int (i := 2)) mka_nil))) ⟨d, 2, 2, rfl, hn, rfl⟩) H Gr.rfl' _ fun H1 s1 => ?_
  have k1 := k0.sm s1
  by_cases c : isTu d 2 2 = true
  case neg =>
    have c' : isTu d 2 2 = false := by simpa using c
    rw [c']
    refine iteT ?_
    have e : wrH d = some (.str "form") := by
      unfold wrH
      split
      · exact absurd c' (by simp [isTu])
      · rfl
    rw [e] at k1
    exact raise_said mk_str k1
  rw [c]
  refine iteF ?_
  obtain ⟨bw, ew, e2, m2⟩ := isTu_shape c
  obtain ⟨bs, wd, rfl⟩ : ∃ a b, d = .tup [a, b] := by
    match bw, e2, m2, ew with
    | [a, b], _, _, ew => exact ⟨a, b, ew⟩
    | [], e2, _, _ => exact absurd e2 (by decide)
    | [_], e2, _, _ => exact absurd e2 (by simp)
    | _ :: _ :: _ :: _, _, m2, _ => exact absurd m2 (by simp only [List.length_cons]; omega)
  have nA : nxA [bs, wd] = true := hn
  have nb := nxA_mem nA (List.mem_cons_self ..)
  have nw := nxA_mem nA (show wd ∈ [bs, wd] by simp)
  walk_at "rd"
  refine r_unp2 (x1.gr s1) fun w1 w2 e1 e2 => ?_
  walk_at "st"
  refine mt_not (mt_callP (mka_cons (mk_var rfl e2) (mka_cons (mk_int (i := 0)) (mka_cons (mk_int (i := 4)) mka_nil))) ⟨wd, 0, 4, rfl, nw, rfl⟩) H1 Gr.rfl' _ fun H2 s2 => ?_
  have k2 := k1.sm s2
  cases qw : isW wd 0 4 with
  | false =>
    refine iteT ?_
    have e : wrH (.tup [bs, wd]) = some (.str "wards") := by
      show (if isW wd 0 4 then _ else _) = _
      rw [qw]; rfl
    rw [e] at k2
    exact raise_said mk_str k2
  | true =>
  refine iteF ?_
  walk_at "st"
  refine mt_not (mt_callP (mka_cons (mk_var rfl (e1.gr s2)) (mka_cons (mk_int (i := 1)) (mka_cons (mk_int (i := 3)) mka_nil))) ⟨bs, 1, 3, rfl, nb, rfl⟩) H2 Gr.rfl' _ fun H3 s3 => ?_
  have k3 := k2.sm s3
  by_cases cb : isTu bs 1 3 = true
  case neg =>
    have c' : isTu bs 1 3 = false := by simpa using cb
    rw [c']
    refine iteT ?_
    have e : wrH (.tup [bs, wd]) = some (.str "bodies") := by
      show (if isW wd 0 4 then (if isTu bs 1 3 then _ else _) else _) = _
      rw [qw, c']; rfl
    rw [e] at k3
    exact raise_said mk_str k3
  rw [cb]
  refine iteF ?_
  obtain ⟨l, rfl, l1, l3⟩ := isTu_shape cb
  have nl : nxA l = true := nb
  obtain ⟨wi, rfl⟩ : ∃ wi, wd = .int wi := by
    cases wd with
    | int i => exact ⟨i, rfl⟩
    | _ => exact absurd qw (by simp [isW])
  have eH : wrH (.tup [.tup l, .int wi]) = ((wrB (l.length : Int) wi 0 l).or (if (l.map fun b => (lenD b : Int)).sum > 9 then some (.str "seats") else none)).or (if lcH l > 12 then some (.str "round") else none) := by
    show (if isW (.int wi) 0 4 then (if isTu (.tup l) 1 3 then _ else _) else _) = _
    rw [qw, cb]; rfl
  rw [eH] at k3
  have y1 := (e1.gr s2).gr s3
  have y2 := (e2.gr s2).gr s3
  walk_at "st"
  refine r_forE (ds := l) (ev_var rfl y1) (fun j σ H' => (∀ i b, i < j → l[i]? = some b → wrS b (0 + i) (l.length : Int) wi = none) ∧ ∃ o3 o4 : Option V, σ = [some v1, some w1, some w2, o3, o4] ∧ Same H3 H') ⟨fun i s hi => absurd hi (Nat.not_lt_zero i), _, _, rfl, Gr.rfl'⟩ (fun j σ' H' z => by obtain ⟨_, _, _, _, z⟩ := z; exact z) ?_ ?_
  · rintro j b T σ H4 H5 hj ⟨low, o3, o4, rfl, s4⟩ s5 aT
    refine r_unp2 aT fun u1 u2 f1 f2 => ?_
    walk_at "st"
    have sX := s4.trans s5
    have n1 := nxA_mem nl (List.mem_of_getElem? hj)
    refine r_callO (K := K) (f := fNBn CH) (mka_cons (mk_var rfl f2) (mka_cons (mk_var rfl f1) (mka_cons (mk_lenT (mk_var rfl (y1.gr sX))) (mka_cons (mk_var rfl (y2.gr sX)) mka_nil)))) ⟨b, j, (l.length : Int), wi, rfl, n1, rfl⟩ fun H6 s6 => ?_
    cases q : wrS b j (l.length : Int) wi with
    | some x =>
      rw [wrB_at hj (by rw [Nat.zero_add]; exact q) low] at k3
      exact k3.sm (sX.trans s6)
    | none =>
      intro v H7 s7 _
      refine ⟨fun i b' hi e => ?_, _, _, rfl, sX.trans (s6.trans s7)⟩
      by_cases z : i = j
      · subst z
        rw [hj] at e
        cases e
        rw [Nat.zero_add]
        exact q
      · exact low i b' (by omega) e
  · rintro σ H4 ⟨low, o3, o4, rfl, s4⟩
    have all : wrB (l.length : Int) wi 0 l = none := wrB_ok fun i b e => low i b (List.getElem?_eq_some_iff.mp e).1 e
    have each : ∀ b ∈ l, wrS b 0 (l.length : Int) wi = none := fun b hb => by
      obtain ⟨i, hi, rfl⟩ := List.mem_iff_getElem.mp hb
      exact wrS_num (low i _ hi (List.getElem?_eq_getElem hi))
    rw [all, Option.none_or] at k3
    walk_at "st"
    have z1 := y1.gr s4
    have lens := mk_lcU (K := K) (σ := [some v1, some w1, some w2, o3, o4]) (H := H4) (i := 4) (ti := tVar 1) (te := tCB (fun xs H Q => ∃ p ys, xs = [.ref p] ∧ (SqL K H p ys ∨ SqT K H p ys) ∧ Q (.int ys.length) H) (tCons (tVar 4) tNil)) (ds := l) (f := fun d => .int (lenD d : Nat))
      (fun H5 s5 => ev_var rfl (z1.gr s5)) (fun d hd => rfl) (by omega) (fun d hd x H5 s5 ax => by
        obtain ⟨ss, rfl, _⟩ := wrS_inv (each d hd)
        exact mk_lenT (mk_var (n := 4) rfl ax))
    have sm := mk_sum (ns := l.map fun b => (lenD b : Int)) (by rw [List.map_map]; exact lens)
    have t1 := mt_test (mk_I0b (g := fun i j => decide (i > j)) sm (mk_int (i := 9)))
    refine t1 H4 Gr.rfl' _ fun H5 s5 => ?_
    have k5 := (k3.sm s4).sm s5
    by_cases c9 : (l.map fun b => (lenD b : Int)).sum > 9
    · rw [decide_eq_true c9]
      refine iteT ?_
      rw [if_pos c9] at k5
      exact raise_said mk_str k5
    rw [decide_eq_false c9]
    refine iteF ?_
    rw [if_neg c9, Option.none_or] at k5
    walk_at "st"
    have cm := mk_call (K := K) (f := fCTn) (σ := [some v1, some w1, some w2, o3, o4]) (r := .int (lcH l : Nat)) (mka_cons (mk_var (n := 1) rfl (z1.gr s5)) mka_nil) ⟨l, rfl, by omega, fun b hb => tmB_of (each b hb), rfl⟩
    have t2 := mt_test (mk_I0b (g := fun i j => decide (i > j)) cm (mk_int (i := 12)))
    refine t2 H5 Gr.rfl' _ fun H6 s6 => ?_
    have k6 := k5.sm s6
    by_cases c12 : lcH l > 12
    · rw [decide_eq_true (show ((lcH l : Nat) : Int) > 12 by omega)]
      refine iteT ?_
      rw [if_pos c12] at k6
      exact raise_said mk_str k6
    rw [decide_eq_false (show ¬ ((lcH l : Nat) : Int) > 12 by omega)]
    refine iteF ?_
    rw [if_neg c12] at k6
    walk_at "rd"
    exact k6 v1 H6 Gr.rfl' (x1.gr (((((s1.trans s2).trans s3).trans s4).trans s5).trans s6))
end
end TSx

namespace TSx
open PySem L2
local macro_rules | `(tactic| walk_at "rd") => `(tactic| repeat (first
  | ((with_reducible show tVar _ _ _ _); refine r_v rfl ?_)
  | with_reducible refine r_c ?_
  | with_reducible refine r_op ?_
  | with_reducible refine r_I0 ?_
  | with_reducible refine r_cb ?_
  | with_reducible refine r_nil ?_
  | with_reducible refine r_cons ?_
  | with_reducible refine r_seq ?_
  | with_reducible refine r_next ?_
  | with_reducible refine r_asg ?_
  | with_reducible refine r_name ?_
  | with_reducible refine r_ret ?_
  | with_reducible refine r_drop ?_
  | with_reducible refine r_if ?_
  | with_reducible refine r_test ?_
  | with_reducible refine r_bl ?_
  | with_reducible refine r_call ?_))
local macro_rules | `(tactic| walk_at "st") => `(tactic| repeat (first
  | with_reducible refine r_seq ?_
  | with_reducible refine r_next ?_
  | with_reducible refine r_asg ?_
  | with_reducible refine r_name ?_
  | with_reducible refine r_ret ?_
  | with_reducible refine r_drop ?_
  | with_reducible refine r_if ?_))
local macro_rules | `(tactic| walk_at "mk") => `(tactic| repeat (first
  | with_reducible exact mk_non
  | with_reducible exact mk_int
  | with_reducible exact mk_str
  | with_reducible exact mk_bl
  | with_reducible exact mk_dic
  | with_reducible exact mka_nil
  | with_reducible refine mka_cons ?_ ?_
  | ((with_reducible refine mk_tup ?_ ?hz); (case hz => decide))
  | ((with_reducible refine mk_lst ?_ ?hz); (case hz => decide))
  | with_reducible refine mk_neg ?_))
abbrev pIS : List Str := ["value"]
theorem scHR2 : FnScope ["house"] ["house"] (defScope sHR) := scHR
theorem scIS : FnScope ["house", "value", "bodies", "body", "letters"] ["house", "value"] (defScope sIS) := ⟨rfl, rfl, rfl, by decide +kernel, rfl, by decide +kernel, by decide +kernel⟩
def fISn (ds : List D) (r : D) : Prop := ∃ h d, ds = [h, d] ∧ wrH h = none ∧ d.nx = true ∧ r = .bl (isStd h d)
def outNS (CH CS : Addr) (h d : D) : Out := match wrH h with
  | some p => .exc CH "place" p
  | none => if isStd h d = true then .ret d else .exc CS "value" d
def fNSn (CH CS : Addr) (ds : List D) (o : Out) : Prop := ∃ h d, ds = [h, d] ∧ h.nx = true ∧ d.nx = true ∧ o = outNS CH CS h d
section
variable {P : Program} {w : World} {K : PySem.W.Frag} {mg : Str → Option Value} {base : Heap} {pT CH CS CB iH iS iB : Addr} {fdH fdS fdB : FuncData} {σ : Sg} {H : Hp} {ta : TE} {d : D}
theorem mt_notN (h : Mk K ta σ H d) : MkT (tTest (tOp (fun x y H Q => y = V.non ∧ Q (.bl (!decide (x = V.non))) H) ta (tC .non))) σ H (!isNon d) := fun H1 s Q q => h H1 s _ fun v H2 s2 a => by
  refine ⟨rfl, _, rfl, ?_⟩
  cases a <;> exact q H2 s2
theorem ok_HR {f fN fC : Addr} {fd fdN fdC : FuncData} (F : L2.Fun K "house_round" "house_round" sHR f fd) (dneed_house : DoX P w K mg base 5 "need_house" ["house"] (spO K (fNHn CH)) fN fdN) (dcommon_term : Dok P w K mg base 1 "common_term" ["bodies"] (spP K fCTn) fC fdC) :
    FnOk P w K mg base (L2.CX P w) 6 f fd ["house"] (spO K (fHRn CH)) := by
  refine F.okX scHR (spO_len (n := 1) fun ds r h => by obtain ⟨_, rfl, _⟩ := h; rfl) (fun cdv A outer s H vs Q E hr h => ?_)
  obtain ⟨_, _, ha, ⟨d, rfl, hn, rfl⟩, k0⟩ := h
  obtain ⟨v1, rfl, x1⟩ := ha.one
  refine ⟨_, (pss_cons (ps_expr (pe_call dneed_house.G (hr.mono (by decide)) rfl dneed_house.g dneed_house.k dneed_house.b .nil (passes_call (takes_of rfl rfl rfl rfl) (fun _ _ _ _ z => z)) (pa_cons (pv 0) pa_nil)))
  (pss_one (ps_ret (pe_call dcommon_term.G (hr.mono (by decide)) rfl dcommon_term.g dcommon_term.k dcommon_term.b .nil pass0 (pa_cons (pe_ix ix_tup (pv 0) pe_int (fun _ _ => rfl)) pa_nil))))), ?_⟩
  walk_at "st"
  refine r_callO (K := K) (f := fNHn CH) (mka_cons (mk_var rfl x1) mka_nil) ⟨d, rfl, hn, rfl⟩ fun H1 s1 => ?_
  cases q : wrH d with
  | some x =>
    rw [q] at k0
    exact k0.sm s1
  | none =>
    rw [q] at k0
    intro v H2 s2 _
    obtain ⟨bs, wi, rfl, _, _, l1, l3, each, _, _⟩ := wrH_inv q
    walk_at "st"
    exact mk_call (r := .int (lcH bs : Nat)) (mka_cons (mk_ixT (i := 0) (mk_var rfl (x1.gr (s1.trans s2))) mk_int rfl) mka_nil) ⟨bs, rfl, by omega, fun b hb => tmB_of (each b hb), rfl⟩ H2 Gr.rfl' _ fun v H3 s3 a => k0 v H3 ((s1.trans s2).trans s3) a
theorem ok_IS {f fT fS : Addr} {fd fdT fdS : FuncData} (F : L2.Fun K "is_stand" "is_stand" sIS f fd) (B : Blt mg) (Z : Blt2 mg)
    (dis_tuple : Dok P w K mg base 1 "is_tuple" ["value", "least", "most"] (spP K fTn) fT fdT) (dis_sides : Dok P w K mg base 1 "is_sides" ["value", "many"] (spP K fSdn) fS fdS) :
    FnOk P w K mg base CX0 2 f fd ["house", "value"] (spP K fISn) := by
  refine F.ok scIS (spP_len (n := 2) fun ds r h => by obtain ⟨_, _, rfl, _⟩ := h; rfl) (fun cdv A outer s H vs Q E hr h => ?_)
  obtain ⟨_, _, ha, ⟨hd, d, rfl, hw, hn, rfl⟩, k⟩ := h
  obtain ⟨v1, v2, rfl, x1, x2⟩ := ha.two
  obtain ⟨bs, wi, rfl, _, _, l1, l3, each, _, _⟩ := wrH_inv hw
  refine ⟨_, (pss_cons (ps_set (i := 2) scIS.nd rfl (Or.inl rfl) (pe_ix ix_tup (pv 0) pe_int (fun _ _ => rfl)))
  (pss_cons (ps_if (pt_not (pt_val (pe_call dis_tuple.G (hr.mono (by decide)) rfl dis_tuple.g dis_tuple.k dis_tuple.b .nil pass0 (pa_cons (pv 1) (pa_cons (pe_callB call_len_seq (by rfl) B.len PySem.boot_len (pa_cons (pv 2) pa_nil)) (pa_cons (pe_callB call_len_seq (by rfl) B.len PySem.boot_len (pa_cons (pv 2) pa_nil)) pa_nil)))))) (pss_one (ps_ret pe_bl)) pss_nil)
  (pss_one (ps_ret (pe_callB (cr_all rfl) (by rfl) Z.all (by decide +kernel) (pa_cons (pe_lc (own := [("body", 3), ("letters", 4)]) (g := gTup K 2 (gCons (gName 3) (gCons (gName 4) gNil))) (tt := tYes) rfl scIS.nd (RZ.pi_zipA (by rfl) Z.zip (pa_cons (pv 2) (pa_cons (pv 1) pa_nil))) (blkOk_by (N := ["house", "value", "bodies", "body", "letters"]) (sc := defScope sIS) (by decide +kernel)) (fun _ _ _ _ _ => pg_tup rfl (pgs_cons (pg_name (i := 3) scIS.nd rfl (Or.inl rfl)) (pgs_cons (pg_name (i := 4) scIS.nd rfl (Or.inl rfl)) pgs_nil))) (fun _ _ _ _ _ => pts_nil) (fun _ _ _ _ _ => (pe_call dis_sides.G (hr.mono (by decide)) rfl dis_sides.g dis_sides.k dis_sides.b .nil pass0 (pa_cons (pv 4) (pa_cons (pe_callB (call_lenK (K := K) rfl) (by rfl) B.len PySem.boot_len (pa_cons (pv 3) pa_nil)) pa_nil))))) pa_nil)))))), ?_⟩
  walk_at "st"
  refine mk_ixT (i := 0) (mk_var rfl x1) mk_int rfl H Gr.rfl' _ fun v3 H1 s1 x3 => ?_
  walk_at "st"
  have y2 := x2.gr s1
  refine mt_not (mt_callP (mka_cons (mk_var rfl y2) (mka_cons (mk_lenT (mk_var rfl x3)) (mka_cons (mk_lenT (mk_var rfl x3)) mka_nil))) ⟨d, bs.length, bs.length, rfl, hn, rfl⟩) H1 Gr.rfl' _ fun H2 s2 => ?_
  by_cases c : isTu d bs.length bs.length = true
  case neg =>
    have c' : isTu d bs.length bs.length = false := by simpa using c
    rw [c']
    refine iteT ?_
    walk_at "rd"
    refine k _ H2 (s1.trans s2) ?_
    have e : isStd (.tup [.tup bs, .int wi]) d = false := by
      cases d with
      | tup ls =>
        show (decide (ls.length = bs.length) && _) = false
        rw [decide_eq_false (by intro z; rw [isTu, z] at c'; simp at c')]
        rfl
      | _ => rfl
    rw [e]
    exact .bl false
  rw [c]
  refine iteF ?_
  obtain ⟨ls, rfl, a1, a2⟩ := isTu_shape c
  have el : bs.length = ls.length := by omega
  have nl : nxA ls = true := hn
  walk_at "st"
  have z2 := y2.gr s2
  have z3 := x3.gr s2
  have lc := mk_lcZ (K := K) (σ := [some v1, some v2, some v3, none, none]) (H := H2) (i := 3) (j := 4) (l := bs) (m := ls) (g1 := id) (g2 := id) (f := fun b x => .bl (isSd x (lenD b : Nat)))
    (ta := tVar 2) (tc := tVar 1) (te := tCall (spP K fSdn) [] E0 (tCons (tVar 4) (tCons (tCB (fun xs H Q => ∃ p ys, xs = [.ref p] ∧ (SqL K H p ys ∨ SqT K H p ys) ∧ Q (.int ys.length) H) (tCons (tVar 3) tNil)) tNil))) (fun u w => rfl)
    (fun H3 s3 => by rw [List.map_id]; exact ev_var rfl (z3.gr s3)) (fun H3 s3 => by rw [List.map_id]; exact ev_var rfl (z2.gr s3)) el (fun _ _ => rfl) (by omega) (fun i b x hb hx u w2 H3 s3 au aw => by
      obtain ⟨ss, rfl, _⟩ := wrS_inv (each b (List.mem_of_getElem? hb))
      exact mk_call (mka_cons (mk_var (n := 4) rfl aw) (mka_cons (mk_lenT (mk_var (n := 3) rfl au)) mka_nil)) ⟨x, ss.length, rfl, nxA_mem nl (List.mem_of_getElem? hx), rfl⟩)
  have al := mk_all (bs := (bs.zip ls).map fun p => isSd p.2 (lenD p.1 : Nat)) (by rw [List.map_map]; exact lc)
  refine al H2 Gr.rfl' _ fun v H3 s3 a3 => k v H3 ((s1.trans s2).trans s3) ?_
  have e : isStd (.tup [.tup bs, .int wi]) (.tup ls) = ((bs.zip ls).map fun p => isSd p.2 (lenD p.1 : Nat)).all id := by
    show (decide (ls.length = bs.length) && _) = _
    rw [decide_eq_true el.symm, Bool.true_and, List.all_map]
    rfl
  rw [e]
  exact a3
theorem ok_NS {f fN fI : Addr} {fd fdN fdI : FuncData} (F : L2.Fun K "need_stand" "need_stand" sNS f fd) (xBadStand : Xc P w K mg base "BadStand" "value" CS iS fdS) (dneed_house : DoX P w K mg base 5 "need_house" ["house"] (spO K (fNHn CH)) fN fdN) (dis_stand : Dok P w K mg base 2 "is_stand" ["house", "value"] (spP K fISn) fI fdI) :
    FnOk P w K mg base (L2.CX P w) 6 f fd ["house", "stand"] (spO K (fNSn CH CS)) := by
  refine F.okX scNS (spO_len (n := 2) fun ds r h => by obtain ⟨_, _, rfl, _⟩ := h; rfl) (fun cdv A outer s H vs Q E hr h => ?_)
  obtain ⟨_, _, ha, ⟨hd, d, rfl, hh, hn, rfl⟩, k0⟩ := h
  obtain ⟨v1, v2, rfl, x1, x2⟩ := ha.two
  refine ⟨_, (pss_cons (ps_expr (pe_call dneed_house.G (hr.mono (by decide)) rfl dneed_house.g dneed_house.k dneed_house.b .nil (passes_call (takes_of rfl rfl rfl rfl) (fun _ _ _ _ z => z)) (pa_cons (pv 0) pa_nil)))
  (pss_cons (ps_if (pt_not (pt_val (pe_call dis_stand.G (hr.mono (by decide)) rfl dis_stand.g dis_stand.k dis_stand.b .nil pass0 (pa_cons (pv 0) (pa_cons (pv 1) pa_nil))))) (pss_one (ps_raise rfl (takes_of rfl rfl rfl rfl) (pmk_oex xBadStand.o xBadStand.iC xBadStand.tI xBadStand.F (hr.mono (by decide)) xBadStand.b .nil pass0 rfl xBadStand.g (pa_cons (pv 1) pa_nil)))) pss_nil)
  (pss_one (ps_ret (pv 1))))), ?_⟩
  walk_at "st"
  refine r_callO (K := K) (f := fNHn CH) (mka_cons (mk_var rfl x1) mka_nil) ⟨hd, rfl, hh, rfl⟩ fun H1 s1 => ?_
  unfold outNS at k0
  cases q : wrH hd with
  | some x =>
    rw [q] at k0
    exact k0.sm s1
  | none =>
    rw [q] at k0
    intro v H2 s2 _
    walk_at "st"
    have sX := s1.trans s2
    refine mt_not (mt_callP (mka_cons (mk_var rfl (x1.gr sX)) (mka_cons (mk_var rfl (x2.gr sX)) mka_nil)) ⟨hd, d, rfl, q, hn, rfl⟩) H2 Gr.rfl' _ fun H3 s3 => ?_
    cases c : isStd hd d with
    | false =>
      refine iteT ?_
      rw [c] at k0
      exact raise_said (mk_var rfl (x2.gr (sX.trans s3))) (k0.sm (sX.trans s3))
    | true =>
      refine iteF ?_
      rw [c] at k0
      walk_at "rd"
      exact k0 v2 H3 (sX.trans s3) (x2.gr (sX.trans s3))
theorem ok_BA {f fT fW : Addr} {fd fdT fdW : FuncData} (F : L2.Fun K "need_band" "need_band" sBA f fd) (C : CstH K mg pT) (xBadBand : Xc P w K mg base "BadBand" "part" CB iB fdB)
    (dis_tuple : Dok P w K mg base 1 "is_tuple" ["value", "least", "most"] (spP K fTn) fT fdT) (dis_whole : Dok P w K mg base 1 "is_whole" ["value", "least", "most"] (spP K fWn) fW fdW) :
    FnOk P w K mg base (L2.CX P w) 3 f fd ["band"] (spO K (fBAn CB)) := by
  refine F.okX scBA (spO_len (n := 1) fun ds r h => by obtain ⟨_, rfl, _⟩ := h; rfl) (fun cdv A outer s H vs Q E hr h => ?_)
  obtain ⟨_, _, ha, ⟨d, rfl, hn, rfl⟩, k0⟩ := h
  obtain ⟨v1, rfl, x1⟩ := ha.one
  refine ⟨_, (pss_cons (ps_if (pt_not (pt_val (pe_call dis_tuple.G (hr.mono (by decide)) rfl dis_tuple.g dis_tuple.k dis_tuple.b .nil pass0 (pa_cons (pv 0) (pa_cons pe_int (pa_cons pe_int pa_nil)))))) (pss_one (ps_raise rfl (takes_of rfl rfl rfl rfl) (pmk_oex xBadBand.o xBadBand.iC xBadBand.tI xBadBand.F (hr.mono (by decide)) xBadBand.b .nil pass0 rfl xBadBand.g (pa_cons pe_str pa_nil)))) pss_nil)
  (pss_cons (ps_asg (pv 0) (pg_tup rfl (pgs_cons (pg_name (i := 1) scBA.nd rfl (Or.inl rfl)) (pgs_cons (pg_name (i := 2) scBA.nd rfl (Or.inl rfl)) pgs_nil))))
  (pss_cons (ps_if (PW.pt (pw_and (pt_cmpR op_notN (pv 1) pe_non (nomark _)) (pw_and1 (pt_not (pt_val (pe_call dis_whole.G (hr.mono (by decide)) rfl dis_whole.g dis_whole.k dis_whole.b .nil pass0 (pa_cons (pv 1) (pa_cons pe_int (pa_cons (pe_cstE rfl C.MOST_WARDS) pa_nil))))))))) (pss_one (ps_raise rfl (takes_of rfl rfl rfl rfl) (pmk_oex xBadBand.o xBadBand.iC xBadBand.tI xBadBand.F (hr.mono (by decide)) xBadBand.b .nil pass0 rfl xBadBand.g (pa_cons pe_str pa_nil)))) pss_nil)
  (pss_cons (ps_if (pt_not (pt_val (pe_call dis_whole.G (hr.mono (by decide)) rfl dis_whole.g dis_whole.k dis_whole.b .nil pass0 (pa_cons (pv 2) (pa_cons pe_int (pa_cons (pe_cstE rfl C.MOST_GAP) pa_nil)))))) (pss_one (ps_raise rfl (takes_of rfl rfl rfl rfl) (pmk_oex xBadBand.o xBadBand.iC xBadBand.tI xBadBand.F (hr.mono (by decide)) xBadBand.b .nil pass0 rfl xBadBand.g (pa_cons pe_str pa_nil)))) pss_nil)
  (pss_one (ps_ret (pv 0))))))), ?_⟩
  walk_at "st"
  refine mt_not (mt_callP (mka_cons (mk_var rfl x1) (mka_cons (mk_int (i := 2)) (mka_cons (mk_int (i := 2)) mka_nil))) ⟨d, 2, 2, rfl, hn, rfl⟩) H Gr.rfl' _ fun H1 s1 => ?_
  have k1 := k0.sm s1
  by_cases c : isTu d 2 2 = true
  case neg =>
    have c' : isTu d 2 2 = false := by simpa using c
    rw [c']
    refine iteT ?_
    have e : wrBd d = some (.str "form") := by
      unfold wrBd
      split
      · exact absurd c' (by simp [isTu])
      · rfl
    rw [e] at k1
    exact raise_said mk_str k1
  rw [c]
  refine iteF ?_
  obtain ⟨bw, ew, e2, m2⟩ := isTu_shape c
  obtain ⟨t, g, rfl⟩ : ∃ a b, d = .tup [a, b] := by
    match bw, e2, m2, ew with
    | [a, b], _, _, ew => exact ⟨a, b, ew⟩
    | [], e2, _, _ => exact absurd e2 (by decide)
    | [_], e2, _, _ => exact absurd e2 (by simp)
    | _ :: _ :: _ :: _, _, m2, _ => exact absurd m2 (by simp only [List.length_cons]; omega)
  have nA : nxA [t, g] = true := hn
  have nt := nxA_mem nA (List.mem_cons_self ..)
  have ng := nxA_mem nA (show g ∈ [t, g] by simp)
  walk_at "rd"
  refine r_unp2 (x1.gr s1) fun w1 w2 e1 e2 => ?_
  walk_at "st"
  refine mt_and2 (mt_notN (mk_var rfl e1)) (fun _ => mt_not (mt_callP (mka_cons (mk_var rfl e1) (mka_cons (mk_int (i := 0)) (mka_cons (mk_int (i := 4)) mka_nil))) ⟨t, 0, 4, rfl, nt, rfl⟩)) H1 Gr.rfl' _ fun H2 s2 => ?_
  have k2 := k1.sm s2
  have eB : wrBd (.tup [t, g]) = if (isNon t || isW t 0 4) = true then (if isW g 1 4 then none else some (.str "gap")) else some (.str "turn") := rfl
  have dm : (!isNon t && !isW t 0 4) = !(isNon t || isW t 0 4) := by simp
  rw [dm]
  rw [eB] at k2
  cases q : (isNon t || isW t 0 4) with
  | false =>
    refine iteT ?_
    rw [q] at k2
    exact raise_said mk_str k2
  | true =>
    refine iteF ?_
    rw [q, if_pos rfl] at k2
    walk_at "st"
    refine mt_not (mt_callP (mka_cons (mk_var rfl (e2.gr s2)) (mka_cons (mk_int (i := 1)) (mka_cons (mk_int (i := 4)) mka_nil))) ⟨g, 1, 4, rfl, ng, rfl⟩) H2 Gr.rfl' _ fun H3 s3 => ?_
    have k3 := k2.sm s3
    cases qg : isW g 1 4 with
    | false =>
      refine iteT ?_
      rw [qg] at k3
      exact raise_said mk_str k3
    | true =>
      refine iteF ?_
      rw [qg] at k3
      walk_at "rd"
      exact k3 v1 H3 Gr.rfl' (x1.gr ((s1.trans s2).trans s3))
end
end TSx

/-! Own layer, part M1: a lambda, with one written default or none, handed to a def that calls it. -/
namespace TSx
open PySem L2 PySem.Spec PyProof.Rows LamX
/-- the words of a lambda: its default, if it has one, is a written int of a name of its own -/
structure LW where
  params : Arguments
  body : Expr
  scope : Scope
  dflt : Option (Str × Int)
/-- how its call without arguments binds -/
structure LW.Ok (l : LW) (N : List Str) (sc : Scope) : Prop where
  kind : l.scope.kind = .function
  co : l.scope.isCoroutine = false
  gen : l.scope.isGenerator = false
  cell : ∀ y ∈ l.scope.names, y.2 ≠ .cell
  loc : ∀ y, l.scope.names.lookup y = some .local → y ∉ N
  free : ∀ y ∈ l.scope.names, y.2 = .free → sc.names.lookup y.1 = some .cell ∨ sc.names.lookup y.1 = some .free
  kwd : l.params.kw_defaults = []
  dfl : match l.dflt with
    | none => l.params.defaults = [] ∧ ∀ fd : FuncData, fd.params = l.params → fd.defaults = .none → bindArgs fd ⟨[], []⟩ = pure []
    | some (x, i) => (∃ k p, l.params.defaults = [.Constant (.int i) k p]) ∧ l.scope.names.lookup x = some .local ∧
        ∀ fd : FuncData, fd.params = l.params → ∃ kk, bindArgs fd ⟨[], []⟩ = seqItems? fd.defaults >>= kk ∧ ∀ u : Value, kk (some #[u]) = pure [(x, u)]
/-- what is known of its default's place: a tuple of it -/
def LW.Dv (l : LW) (H : Hp) (dV : Value) : Prop := match l.dflt with
  | none => dV = .none
  | some (_, i) => ∃ t : Addr, dV = .ref t ∧ H t = some (.tup [.int i])
theorem LW.Dv.ext {l : LW} {H H' : Hp} {dV : Value} (d : l.Dv H dV) (e : ExtN H H') : l.Dv H' dV := by
  unfold LW.Dv at d ⊢
  cases q : l.dflt with
  | none => rw [q] at d; exact d
  | some p =>
    rw [q] at d
    obtain ⟨t, h1, h2⟩ := d
    exact ⟨t, h1, e _ _ h2 (fun _ z => by cases z)⟩
abbrev LW.obj (l : LW) (q : Str) (cl : List (Str × Addr)) (dV doc pm : Value) (c' : Addr) (ctv : Value) : Obj := PySem.W.kdv_obj "<lambda>" q l.params (.expr l.body) l.scope cl dV doc pm c' ctv
section
variable {X : Cx} {pins : List (Addr × Obj)} {σ : Sg} {H : Hp} {s : Shared} {l : LW}
/-- what the maker knows behind the making -/
def LamAt (X : Cx) (l : LW) (H : Hp) (h : Heap) (f c' : Addr) : Prop := ∃ dV doc pm ctv, l.Dv H dV ∧ h.get? f = some (l.obj (X.env.qual ++ "<lambda>") (cloFrom X.env.cells l.scope.names []) dV doc pm c' ctv) ∧ H f = none ∧ f ∉ frs X.stack ∧ H c' = some (CodeO c' (X.env.qual ++ "<lambda>"))
theorem lam_tail {T : List (Addr × Str)} {c P : Addr} {dV : Value} {pos : Pos} {E : Value → Shared → Prop} {Q : Value → Shared → Prop} (I : L2.Inv X pins σ H s) (TB : TabB X.base X.mg c P) (hcode : X.env.code = .ref c)
    (hm : (P, X.env.qual ++ "<lambda>") ∈ T) (hu : ∀ p ∈ T, p.1 = P → p.2 = X.env.qual ++ "<lambda>") (hT : Tabs T H) (hfree : ∀ y ∈ l.scope.names, y.2 = .free → ∃ c, X.env.cells.lookup y.1 = some c) (hd : l.Dv H dV)
    (h : ∀ (f c' : Addr) (H1 : Hp) (s' : Shared), L2.Inv X pins σ H1 s' → ExtN H H1 → Tabs T H1 → LamAt X l H1 s'.heap f c' → Q (.ref f) s') :
    wpAny (model X.prog X.w) X.A (makeTail "<lambda>" (X.env.qual ++ "<lambda>") l.params (.expr l.body) l.scope X.env dV .none none pos pos.line) Q E s := by
  obtain ⟨ps, hP, tr, am⟩ := hT _ hm
  have bP : s.heap.BuiltinsAt X.mg P := TB.bm.keeps I.bk
  have atP : s.heap.get? P = some (PySem.W.tabObj ps) := I.hok P _ hP
  have away : ∀ f, s.heap.objs.size ≤ f → f ∉ frs X.stack := fun f hf z => by
    rcases List.mem_cons.mp (I.stkSub _ z) with e | e
    · have low := I.lt
      rw [← e] at low
      exact absurd (Nat.lt_of_lt_of_le low hf) (Nat.lt_irrefl _)
    · exact I.nofs hf e
  cases hit : codeAmong pos ps.toList with
  | some cv =>
    obtain ⟨c', rfl, known⟩ := am pos cv hit
    refine PySem.W.kdv_makeTailHit (mg := X.mg) (c := c) (P := P) (ps := ps) (closure_ok hfree) I.ok.glob (I.mod.glob.keeps I.bk) hcode (TB.code.keeps I.bk) atP tr hit bP fun ctv doc h' tk grows big => ?_
    have J : L2.Inv X pins σ H { s with heap := h'.push (l.obj (X.env.qual ++ "<lambda>") (cloFrom X.env.cells l.scope.names []) dV doc ((X.mg "__name__").getD .none) c' ctv), toks := tk } := I.kept fun b o e => Heap.get?_push_of_some _ (grows b o e)
    exact h h'.objs.size c' H _ J (ExtN.refl H) hT ⟨dV, doc, _, ctv, hd, Heap.get?_push_size _ rfl, I.hok.fresh big, away _ big, known⟩
  | none =>
    refine PySem.W.kdv_makeTail (mg := X.mg) (c := c) (P := P) (ps := ps) (closure_ok hfree) I.ok.glob (I.mod.glob.keeps I.bk) hcode (TB.code.keeps I.bk) atP tr hit TB.gP bP fun c' ctv doc h' tk grows low less rec_ atP2 => ?_
    obtain ⟨c2, oc, vs, t, e2, hoc, hdat, hname⟩ := rec_
    cases e2
    have big : s.heap.objs.size ≤ h'.objs.size := Nat.le_trans low (Nat.le_of_lt less)
    have newC : H c' = none := I.hok.fresh low
    have J := inv_table (t' := tk) (more := #[rawInt pos.line, rawInt pos.col, .ref c']) (q := X.env.qual ++ "<lambda>") (h' := h'.push (l.obj (X.env.qual ++ "<lambda>") (cloFrom X.env.cells l.scope.names []) dV doc ((X.mg "__name__").getD .none) c' ctv)) I hP
      (fun b o hb e => Heap.get?_push_of_some _ (grows b o hb e)) (Heap.get?_push_of_some _ atP2) low ⟨oc, vs, t, Heap.get?_push_of_some _ hoc, hdat, hname⟩
    have ext : ExtN H (upd (upd H P (.tbl (ps ++ #[rawInt pos.line, rawInt pos.col, .ref c']))) c' (CodeO c' (X.env.qual ++ "<lambda>"))) := fun b o e n => by
      have nP : b ≠ P := fun z => n ps (Option.some.inj (e.symm.trans (by rw [z]; exact hP)))
      rw [upd_ne (ne_of_none e newC), upd_ne nP]
      exact e
    have asL : (ps ++ #[rawInt pos.line, rawInt pos.col, .ref c']).toList = ps.toList ++ [rawInt pos.line, rawInt pos.col, .ref c'] := by simp
    have nf1 : h'.objs.size ≠ c' := Nat.ne_of_gt less
    have nf2 : h'.objs.size ≠ P := Nat.ne_of_gt (Nat.lt_of_lt_of_le (Heap.lt_size atP) big)
    refine h h'.objs.size c' _ _ J ext (fun p hp => ?_) ⟨dV, doc, _, ctv, hd.ext ext, Heap.get?_push_size _ rfl, by rw [upd_ne nf1, upd_ne nf2]; exact I.hok.fresh big, away _ big, upd_same⟩
    by_cases at_ : p.1 = P
    · rw [hu p hp at_, at_]
      refine ⟨_, by rw [upd_ne (ne_of_none hP newC), upd_same], by rw [asL]; exact PySem.TriplesOk_snoc _ _ _ _ tr, fun p' cv look => ?_⟩
      rw [asL] at look
      rcases among_app _ tr look with z | z
      · obtain ⟨c0, e1, e2⟩ := am p' cv z
        exact ⟨c0, e1, ext _ _ e2 codeO_ne⟩
      · exact ⟨c', z, upd_same⟩
    · obtain ⟨qs, a1, a2, a3⟩ := hT p hp
      refine ⟨qs, by rw [upd_ne (ne_of_none a1 newC), upd_ne at_]; exact a1, a2, fun p' cv look => ?_⟩
      obtain ⟨c0, e1, e2⟩ := a3 p' cv look
      exact ⟨c0, e1, ext _ _ e2 codeO_ne⟩
/-- the lambda is made -/
theorem lam_mk {T : List (Addr × Str)} {c P : Addr} {pos : Pos} {E : Value → Shared → Prop} {Q : Value → Shared → Prop} (I : L2.Inv X pins σ H s) (L : l.Ok X.N X.env.scope) (TB : TabB X.base X.mg c P) (hcode : X.env.code = .ref c)
    (hm : (P, X.env.qual ++ "<lambda>") ∈ T) (hu : ∀ p ∈ T, p.1 = P → p.2 = X.env.qual ++ "<lambda>") (hT : Tabs T H)
    (h : ∀ (f c' : Addr) (H1 : Hp) (s' : Shared), L2.Inv X pins σ H1 s' → ExtN H H1 → Tabs T H1 → LamAt X l H1 s'.heap f c' → Q (.ref f) s') :
    wpAny (model X.prog X.w) X.A (eval (.Lambda l.params l.body l.scope pos) X.env) Q E s := by
  have hfree : ∀ y ∈ l.scope.names, y.2 = .free → ∃ c, X.env.cells.lookup y.1 = some c := fun y hy e => by
    rcases L.free y hy e with k | k
    · exact I.ok.has _ (.inl k)
    · exact I.ok.has _ (.inr k)
  have dfl := L.dfl
  cases q : l.dflt with
  | none =>
    rw [q] at dfl
    have none_ : defaultsOf l.params X.env = ([], []) := by rw [defaultsOf_eq, L.kwd, dfl.1]; rfl
    refine PySem.W.kla_eval none_ ?_
    rw [makeFunction_eq]
    simp only [List.zip_nil_right, List.filterMap_nil, List.isEmpty_nil, if_true, pure_bind]
    exact lam_tail I TB hcode hm hu hT hfree (by unfold LW.Dv; rw [q]) h
  | some xi =>
    obtain ⟨x, i⟩ := xi
    rw [q] at dfl
    obtain ⟨⟨k, p, e1⟩, _, _⟩ := dfl
    refine PySem.W.kdv_lam (by rw [e1]; rfl) L.kwd ?_
    rw [e1]
    refine PySem.W.kdv_all1 (wpAny_Constant_int (PySem.W.kdv_all0 ?_))
    rw [makeFunction_eq]
    simp only [List.zip_nil_right, List.filterMap_nil, List.isEmpty_nil, List.isEmpty_cons, Bool.false_eq_true, if_false, if_true, pure_bind]
    refine wpAny_bind (wpAny_newTextTuple ?_)
    have I1 := I.tok (s.toks + 1)
    have I2 := Inv.laid (a := s.heap.objs.size) (o := .tup [.int i]) (t' := s.toks + 1) I (h' := s.heap.push { cls := .type "tuple", data := .seq [Value.int i s.toks].toArray }) (fun b u e => Heap.get?_push_of_some _ e) (Nat.le_refl _)
      ⟨(show 1 ≤ sizeLine by decide), [Value.int i s.toks], .cons ⟨_, rfl⟩ .nil, _, Heap.get?_push_size _ rfl, rfl, 0, rfl⟩
    have new : H s.heap.objs.size = none := I.hok.fresh (Nat.le_refl _)
    have ext : ExtN H (upd H s.heap.objs.size (.tup [.int i])) := fun b o e n => by rw [upd_ne (ne_of_none e new)]; exact e
    refine lam_tail I2 TB hcode hm hu (Tabs.ext hT fun b o e => by rw [upd_ne (ne_of_none e new)]; exact e) hfree (by unfold LW.Dv; rw [q]; exact ⟨_, rfl, upd_same⟩) fun f c' H1 s' J e2 T2 at_ => h f c' H1 s' J (ext.trans e2) T2 at_
end
end TSx

/-! Own layer, part M2: a lambda is called by the def that got it. -/
namespace TSx
open PySem L2 PySem.Spec PyProof.Rows LamX
section
variable {X : Cx} {pins : List (Addr × Obj)} {σ : Sg} {H HZ : Hp} {s s1 : Shared} {l : LW}
theorem LW.Ok.has (L : l.Ok X.N X.env.scope) (ok : X.Ok) : ∀ y ∈ l.scope.names, y.2 = .free → ∃ c, X.env.cells.lookup y.1 = some c := fun y hy e => by
  rcases L.free y hy e with k | k
  · exact ok.has _ (.inl k)
  · exact ok.has _ (.inr k)
/-- at the lambda's entry -/
theorem lam_in {A : Around} {outer : List Env} {E : XK} {f c' : Addr} {h₁ : Heap} {tk : Nat} {bs : List (Str × Value)} (I : L2.Inv X pins σ H s) (L : l.Ok X.N X.env.scope) (e0 : Env0 X.prog X.w X.K X.mg X.base A outer s1 HZ) (hd : A.handled = none)
    (un : Un (frs X.stack) [] H HZ s.heap s1.heap) (hns : h₁.Ns s1.heap.objs.size fun y => bs.reverse.lookup y) (kp : ∀ b o, s1.heap.get? b = some o → h₁.get? b = some o) :
    L2.Inv (lamCx X A outer s1 HZ E l.scope f c') [] σ HZ { s1 with heap := h₁, toks := tk } := by
  have hfree := L.has I.ok
  have same : ∀ {y c}, (cloFrom X.env.cells l.scope.names []).lookup y = some c → X.env.cells.lookup y = some c := fun {y c} e => by
    rcases cloFrom_mem (PySem.mem_of_lookup e) with hm | ⟨h1, h2⟩
    · cases hm
    · obtain ⟨c1, hc⟩ := hfree _ h1 rfl
      have hc : X.env.cells.lookup y = some c1 := hc
      have : c = c1 := by rw [h2, hc] <;> rfl
      rw [this]; exact hc
  have found : ∀ {y}, l.scope.names.lookup y = some .free → ∃ c, (cloFrom X.env.cells l.scope.names []).lookup y = some c := fun {y} hl =>
    mem_lookup (cloFrom_has (cells := X.env.cells) (acc := []) (show (y, NameKind.free) ∈ l.scope.names from PySem.mem_of_lookup hl))
  have cellK : ∀ {c : Addr} {v : Option Value}, H c = none → s.heap.IsCell c v → h₁.IsCell c v := fun {c v} n ⟨o, ho, hd⟩ => by
    obtain ⟨sl, q⟩ := un.any ho n (by simp)
    exact ⟨_, kp _ _ q, hd⟩
  have noA : ∀ b : Addr, b ∉ (lamCx X A outer s1 HZ E l.scope f c').ex := fun b z => absurd (show b ∈ ([] : List Addr) from z) (by simp)
  have seen : ∀ (i : Nat) (y : Str) (v : V), X.N[i]? = some y → σ[i]? = some (some v) → Vis l.scope y → ∃ u, L2.RelV v u ∧ Look (lamEnv X l.scope s1.heap.objs.size f c') h₁ (fun y => bs.reverse.lookup y) y u := fun i y v e1 e2 vis => by
    rcases vis with k | k | k
    · exact absurd (List.mem_of_getElem? e1) (L.loc y k)
    · exact absurd rfl (L.cell _ (PySem.mem_of_lookup k))
    · obtain ⟨m, hn, hl⟩ := I.loc
      have hvis : Vis X.env.scope y := (L.free _ (PySem.mem_of_lookup k) rfl).elim (fun k => .inr (.inl k)) (fun k => .inr (.inr k))
      obtain ⟨w', r, q⟩ := hl i y v e1 e2 hvis
      obtain ⟨c2, h2⟩ := found k
      refine ⟨w', r, .inr ⟨.inr k, c2, h2, ?_⟩⟩
      have c1 := same h2
      rcases q with ⟨k', _⟩ | ⟨_, c3, e', z⟩
      · have k' : X.env.scope.names.lookup y = some .local := k'
        rcases L.free _ (PySem.mem_of_lookup k) rfl with k2 | k2 <;> rw [show X.env.scope.names.lookup y = _ from k2] at k' <;> cases k'
      · rw [c1] at e'
        cases e'
        exact cellK (I.freeC y _ c1) z
  have ok : (lamCx X A outer s1 HZ E l.scope f c').Ok := by
    refine ⟨e0.mod, L.kind, rfl, rfl, Nat.le_refl _, fun y z c e1 e2 => I.ok.inj y z c (same e1) (same e2), fun y hy => ?_, fun y c z _ => ?_, fun _ => hd, Around.frames_deeper e0.frames, .inr ⟨rfl, rfl⟩, fun b z => absurd z (noA b), e0.bs, e0.bsz, fun b _ _ => noA b,
      fun b z => absurd z (noA b), e0.funs, e0.frf⟩
    · rcases (show l.scope.names.lookup y = some .cell ∨ l.scope.names.lookup y = some .free from hy) with hy | hy
      · exact absurd rfl (L.cell _ (PySem.mem_of_lookup hy))
      · exact found hy
    · have z : false = true := z
      cases z
  refine ⟨ok, rfl, e0.bare, Un.kept kp, ⟨_, hns, seen⟩, fun y c e => ?_, e0.hok.fresh (Nat.le_refl _), fun y c e => ?_, fun q hq => absurd (show q ∈ ([] : List (Addr × Obj)) ++ [] from hq) (by simp), e0.hok.kept kp, I.len⟩
  · obtain ⟨w', z⟩ := I.cell y c (same e)
    exact ⟨w', cellK (I.freeC y c (same e)) z⟩
  · obtain ⟨v, o, ho, hd⟩ := I.cell y c (same e)
    exact un.free c o ho (I.freeC y c (same e)) (by simp)
/-- what the called def must keep of it -/
def Kn (X : Cx) (l : LW) (c' : Addr) (dV : Value) (HZ : Hp) : Prop := HZ c' = some (CodeO c' (X.env.qual ++ "<lambda>")) ∧ l.Dv HZ dV
theorem Kn.ext {c' : Addr} {dV : Value} {H H' : Hp} (k : Kn X l c' dV H) (e : ExtN H H') : Kn X l c' dV H' := ⟨e _ _ k.1 codeO_ne, k.2.ext e⟩
/-- a() in the def that got the lambda -/
theorem pe_act {CXg : CXT} {Eg : XK} {Ng : List Str} {qg : Str} {sg : Scope} {g f c' : Addr} {cdg dV doc pm ctv : Value} {k i : Nat} {a : Str} {pn : List (Addr × Obj)} {xe : Value → Shared → Prop} {W : WX} {tb : XK → TE} {p1 p2 : Pos}
    (I : L2.Inv X pins σ H s) (L : l.Ok X.N X.env.scope) (hf : s.heap.get? f = some (l.obj (X.env.qual ++ "<lambda>") (cloFrom X.env.cells l.scope.names []) dV doc pm c' ctv)) (hfn : H f = none) (hfr : f ∉ frs X.stack)
    (tk : Takes ((cxOf CXg X.prog X.w X.K X.mg X.base Ng qg sg g cdg X.A X.stack s H Eg).tr pn xe) W) (hr : Room (k + 1) (X.A.deeper (envOfC qg sg s.heap.objs.size g cdg)))
    (hbody : ∀ (A : Around) (outer : List Env) (s : Shared) (H : Hp) (E : XK), Room k (A.deeper (lamEnv X l.scope s.heap.objs.size f c')) → PE (lamCx X A outer s H E l.scope f c') l.body (tb E))
    (hN : Ng[i]? = some a) (hv : Vis sg a) (hd : (a == ("__debug__" : Str)) = false := by decide) (hcd : (a == ("__classdict__" : Str)) = false := by decide) :
    PE ((cxOf CXg X.prog X.w X.K X.mg X.base Ng qg sg g cdg X.A X.stack s H Eg).tr pn xe) (.Call (.Name a p1) [] [] p2)
      (fun σZ HZ Q => σZ[i]? = some (some (.ref f)) ∧ Kn X l c' dV HZ ∧ tb (WE W σZ) σ HZ Q) := by
  constructor
  intro pinsZ sZ σZ HZ Q IZ h
  obtain ⟨at_, ⟨hc, dv⟩, ht⟩ := h
  refine wpAny_Call_Name_kw (thn ((pe_var (pos := p1) (i := i) hN hv hd hcd).run pinsZ sZ σZ HZ (fun v H1 => v = .ref f ∧ H1 = HZ) IZ ⟨.ref f, at_, rfl, rfl⟩) fun u s1 z => ?_)
  obtain ⟨v, H1, I1, r1, rfl, rfl⟩ := z
  obtain rfl : u = Value.ref f := r1
  have there : s1.heap.get? f = some (l.obj (X.env.qual ++ "<lambda>") (cloFrom X.env.cells l.scope.names []) dV doc pm c' ctv) := I1.base.keep f _ hf hfn hfr (fun z => nomatch (show f ∈ ([] : List Addr) from z))
  refine PySem.W.callWith_F0 ⟨_, _, _, _, there⟩ ?_
  have un : Un (frs X.stack) [] H H1 s.heap s1.heap := I1.base
  obtain ⟨⟨oc, vs, t, hoc, hdc, hvc⟩, _, _⟩ := I1.hok c' _ hc
  -- how it binds
  have bind : ∃ bs : List (Str × Value), (∀ y ∈ bs, l.scope.names.lookup y.1 = some .local) ∧ BindsTo s1 (PySem.W.kdv_fn "<lambda>" (X.env.qual ++ "<lambda>") l.params (.expr l.body) l.scope (cloFrom X.env.cells l.scope.names []) dV doc pm (.ref c') ctv) ⟨[], []⟩ bs := by
    have dfl := L.dfl
    unfold LW.Dv at dv
    cases q : l.dflt with
    | none =>
      rw [q] at dfl dv
      exact ⟨[], by simp, .of_eq (dfl.2 _ rfl dv)⟩
    | some xi =>
      obtain ⟨x, j⟩ := xi
      rw [q] at dfl dv
      obtain ⟨t, rfl, et⟩ := dv
      obtain ⟨_, isL, hb⟩ := dfl
      obtain ⟨_, its, rv, ob, eo, cl, n, en⟩ := I1.hok t _ et
      obtain ⟨u, rfl, _⟩ : ∃ u, its = [u] ∧ L2.RelV (.int j) u := by
        cases rv with
        | cons r1 r2 => cases r2; exact ⟨_, rfl, r1⟩
      obtain ⟨kk, b1, b2⟩ := hb (PySem.W.kdv_fn "<lambda>" (X.env.qual ++ "<lambda>") l.params (.expr l.body) l.scope (cloFrom X.env.cells l.scope.names []) (.ref t) doc pm (.ref c') ctv) rfl
      exact ⟨[(x, u)], fun y hy => by rw [List.mem_singleton.mp hy]; exact isL, BindsTo.of_defaults rfl eo en b1 (b2 u)⟩
  obtain ⟨bs, isLoc, bd⟩ := bind
  have rc : codeAny (model X.prog X.w) (X.A.deeper (envOfC qg sg s.heap.objs.size g cdg)) (.call (.ref f) ⟨[], []⟩) (CR (L2.CX X.prog X.w) (envOfC qg sg s.heap.objs.size g cdg :: X.stack) X.prog X.w H1 s1 Q (WE W σZ)) s1 := by
    refine PySem.W.kla_callFunE hr.depth there rfl L.co L.gen rfl ⟨c', oc, vs, t, rfl, hoc, hdc, hvc⟩ (bd _ _ _ _ ?_)
    refine wpAny_newFunctionEnv L.cell isLoc (fun h₁ hns hsb => ⟨I1.nolimit.fresh _ hsb, ?_⟩) L.kind
    show codeAny _ _ (.expr l.body (lamEnv X l.scope s1.heap.objs.size f c')) _ _
    have kp : ∀ b o, s1.heap.get? b = some o → h₁.get? b = some o := fun b o e => hsb.extBut b o (Nat.ne_of_lt (Heap.lt_size e)) (Heap.get?_push_of_some _ e)
    have J : L2.Inv (lamCx X (X.A.deeper (envOfC qg sg s.heap.objs.size g cdg)) (envOfC qg sg s.heap.objs.size g cdg :: X.stack) s1 H1 (WE W σZ) l.scope f c') [] σ H1 { s1 with heap := h₁, toks := s1.toks + bs.length } :=
      lam_in I L I1.env0 hr.hd un hns kp
    refine PySem.W.kla_codeExpr (wpAny_mono ((hbody _ _ s1 H1 (WE W σZ) (hr.deeper _)).run [] _ _ H1 Q J ht) (fun v s' hq => ?_) fun e s' hq => hq)
    obtain ⟨w', H', J', rv, q⟩ := hq
    exact ⟨w', H', J'.os, J'.bare, J'.base, J'.hok, rv, q⟩
  have hx := passAt tk σZ
  refine wpAny_call (codeAny_mono rc fun r s' hq => ?_)
  match r, hq with
  | .error e, hq => exact hx pinsZ H1 s1 e s' I1 hq
  | .ok (.ret u), hq => exact I1.after hq
  | .ok .next, hq => exact False.elim hq
  | .ok .brk, hq => exact False.elim hq
  | .ok .cont, hq => exact False.elim hq
end
/-! ### a def that calls what it got -/
abbrev Told := XK → Hp → VK → Prop
/-- from the reading of the call (tl), the heap and the caller's wish: what the def asks -/
abbrev SpC := Told → Hp → VK → Prop
/-- the def at g (its one parameter: slot 0 of N, named a) keeps this promise, whatever thing it gets -/
def GivesC (P : Program) (w : World) (K : PySem.W.Frag) (mg : Str → Option Value) (base : Heap) (k : Nat) (N : List Str) (a x : Str) (sg : Scope) (bg : List Stmt) (g : Addr) (cdg : Value) (sp : SpC) : Prop :=
  ∀ (A : Around) (stack : List Env) (f : Addr) (s : Shared) (H : Hp) (Q : VK) (tl : Told) (Kn : Hp → Prop), Room k (A.deeper (envOfC x sg s.heap.objs.size g cdg)) → (∀ H1 H2, Kn H1 → ExtN H1 H2 → Kn H2) →
    (∀ (W : WX) (pn : List (Addr × Obj)) (xe : Value → Shared → Prop) (p1 p2 : Pos), Takes ((cxOf CX0 P w K mg base N x sg g cdg A stack s H E0).tr pn xe) W →
      PE ((cxOf CX0 P w K mg base N x sg g cdg A stack s H E0).tr pn xe) (.Call (.Name a p1) [] [] p2) (fun σZ HZ Q => σZ[0]? = some (some (.ref f)) ∧ Kn HZ ∧ tl (WE W σZ) HZ Q)) →
    Kn H → sp tl H Q →
    ∃ t, PSs (cxOf CX0 P w K mg base N x sg g cdg A stack s H E0).nox bg t ∧ t { nx := fun _ H' => Q .non H', rt := Q } (L2.start N [.ref f]) H
/-- x(lambda: body) -/
def tLamC (T : List (Addr × Str)) (sp : SpC) (t : XK → TE) : TE := fun σ H Q => Tabs T H ∧ ∀ H1, ExtN H H1 → Tabs T H1 → sp (fun E H' Q' => t E σ H' Q') H1 Q
section
variable {X : Cx}
theorem pe_lamC {T : List (Addr × Str)} {sp : SpC} {x a : Str} {g c P : Addr} {k : Nat} {st : Stmt} {fd : FuncData} {Ng : List Str} {l : LW} {t : XK → TE} {p lpos pos : Pos} (F : L2.Fun X.K x x st g fd) (hg : Gl X x) (hm : X.mg x = some (.ref g)) (hb : L2.Binds X.K fd [a] []) (Sg : FnScope Ng [a] (defScope st)) (hNg : Ng[0]? = some a) (hva : Vis (defScope st) a)
    (G : ∀ cdv : Value, GivesC X.prog X.w X.K X.mg X.base (k + 1) Ng a x (defScope st) (defBody st) g cdv sp)
    (TB : TabB X.base X.mg c P) (hcode : X.env.code = .ref c) (hmT : (P, X.env.qual ++ "<lambda>") ∈ T) (hu : ∀ p ∈ T, p.1 = P → p.2 = X.env.qual ++ "<lambda>") (hr : Room (k + 2) X.A) (L : l.Ok X.N X.env.scope)
    (hbody : ∀ (A : Around) (outer : List Env) (s : Shared) (H : Hp) (E : XK) (f c' : Addr), Room k (A.deeper (lamEnv X l.scope s.heap.objs.size f c')) → PE (lamCx X A outer s H E l.scope f c') l.body (t E))
    (hdb : (x == ("__debug__" : Str)) = false := by decide) (hd : (a == ("__debug__" : Str)) = false := by decide) (hcd : (a == ("__classdict__" : Str)) = false := by decide) :
    PE X (.Call (.Name x p) [.Lambda l.params l.body l.scope lpos] [] pos) (tLamC T sp t) := by
  constructor
  intro pins s σ H Q I h
  obtain ⟨hT, h⟩ := h
  obtain ⟨oc, od, kV, doc, pm, an, cdv, ct, osl, rfl, lk, hcg⟩ := F.ex
  refine wpAny_Call_Name_kw (ld_glob I hg hm ?_ hdb)
  refine PySem.W.callWith_K (h₀ := X.base) I.ok.mod.kin F.kp ?_ (by rfl) (by rfl)
  show wpAny _ _ (spliced ((false, eval (.Lambda l.params l.body l.scope lpos) X.env) :: backTo pos (starEach [] X.env))) _ _ s
  refine Calls.spliced_cons (lam_mk I L TB hcode hmT hu hT fun f c' H1 s' I1 eN T1 at_ => ?_)
  refine Calls.spliced_nil ⟨I1.kIn, ?_⟩
  obtain ⟨dV, doc2, pm2, ctv, dv, hf, hfn, hfr, hco⟩ := at_
  have rc : codeAny (model X.prog X.w) X.A (.call (.ref g) ⟨[.ref f], []⟩) (CR CX0 X.stack X.prog X.w H1 s' Q E0) s' := by
    refine run_ofS (N := Ng) (ps := [a]) (us := [.ref f]) (vs := [.ref f]) lk hcg Sg hr I1.env0 (hb s' [.ref f] I1.kIn rfl) (.cons rfl .nil) rfl fun hr' => ?_
    obtain ⟨t', ht', hq'⟩ := G cdv X.A X.stack f s' H1 Q (fun E H' Q' => t E σ H' Q') (Kn X l c' dV) hr' (fun _ _ k e => k.ext e)
      (fun W pn xe p1 p2 tk => pe_act (i := 0) I1 L hf hfn hfr tk hr' (fun A outer s H E hr2 => hbody A outer s H E f c' hr2) hNg hva hd hcd) ⟨hco, dv⟩ (h H1 eN T1)
    exact ⟨t', ht'.nox, hq'⟩
  refine wpAny_call (codeAny_mono rc fun r s2 hq => ?_)
  match r, hq with
  | .error e, hq => exact (show False from hq).elim
  | .ok (.ret u), hq => exact I1.after hq
  | .ok .next, hq => exact False.elim hq
  | .ok .brk, hq => exact False.elim hq
  | .ok .cont, hq => exact False.elim hq
end
end TSx

/-! Own layer, part M3: the law's own end where defs make lambdas: their tables are tracked from the start. -/
namespace TSx
open PySem L2 PySem.Spec PyProof.Rows LamX
theorem law_endT {P : Program} {w : World} {K : PySem.W.Frag} {mg mb : Str → Option Value} {CX : CXT} {k : Nat} {fa a : Addr} {cs : List (Addr × Addr)} {fd : FuncData} {x : Str} {sp : Sp} {s₁ : Shared} {vs : List Value} {ns : List Int}
    (KX : K.In s₁.heap) (hns : s₁.heap.Ns mainGlobals mg) (hb : s₁.heap.Ns builtinsNs mb) (hbb : ∀ x : Str, x ≠ "__name__" → mb x = bootBuiltins x) (hlim : s₁.heap.NoLimit) (hg : s₁.gens = #[])
    (hT : ∀ p ∈ cs, s₁.heap.get? p.2 = some { cls := .none, data := .fields #[] }) (nT : ∀ p ∈ cs, K.lookup p.2 = none) (C : ∀ p ∈ cs, PySem.W.CodeHd s₁.heap p.1 p.2)
    (hbm : ∃ (bm : Addr) (ob : Obj), mg "__builtins__" = some (.ref bm) ∧ bm ≠ builtinsNs ∧ s₁.heap.get? bm = some ob ∧ ob.cls = .type "module" ∧ ob.dict = some builtinsNs ∧ ob.data = .plain)
    (ha : s₁.heap.get? a = some { cls := .type "list", data := .seq vs.toArray }) (hi : IntsAre vs ns) (hl : ns.length ≤ sizeLine) (hr : Room k callerA)
    (F : ∀ base : Heap, K.In base → base.Ns mainGlobals mg → (∀ p ∈ cs, TabB base mg p.1 p.2) → FnG P w K mg base CX k fa fd [x] sp) (hbind : ∀ (s : Shared) (u : Value), BindsTo s fd ⟨[u], []⟩ [(x, u)])
    (hsp : ∀ H : Hp, (∀ p ∈ cs, H p.2 = some (.tbl #[])) → SqL K H a (ns.map V.int) → sp [.ref a] H (fun v _ => v = .bl true) fun _ _ _ => False)
    (hCX : ∀ H e s', CX [] H s₁ (fun _ _ _ => False) e s' → False) :
    codeAny (model P w) callerA (.call (.ref fa) ⟨[.ref a], []⟩) (fun r s' => r = .ok (.ret (.bool true)) ∧ OldK s₁.heap s'.heap ∧ s'.os = s₁.os ∧ AllBare s'.gens) s₁ := by
  classical
  have rv := vals_ints hi
  have size_eq : vs.length = ns.length := hi.length
  let tabs : List Addr := cs.map (·.2)
  have tab_ : ∀ b ∈ tabs, s₁.heap.get? b = some { cls := .none, data := .fields #[] } ∧ K.lookup b = none := fun b hb => by
    obtain ⟨p, hp, e⟩ := List.mem_map.mp hb
    rw [← e]
    exact ⟨hT p hp, nT p hp⟩
  have a_no : a ∉ tabs := fun z => by
    have q := (tab_ a z).1
    rw [ha] at q
    cases q
  -- what is tracked: the tables, and the script if it is not written
  let H : Hp := fun b => if b ∈ tabs then some (.tbl #[]) else if b = a ∧ K.lookup a = none then some (.frz { cls := .type "list", data := .seq vs.toArray } (.lst (ns.map V.int))) else none
  have cases_ : ∀ b u, H b = some u → (b ∈ tabs ∧ u = .tbl #[]) ∨ (b = a ∧ K.lookup a = none ∧ u = .frz { cls := .type "list", data := .seq vs.toArray } (.lst (ns.map V.int))) := fun b u e => by
    have e' : (if b ∈ tabs then some (HO.tbl #[]) else if b = a ∧ K.lookup a = none then some (HO.frz { cls := .type "list", data := .seq vs.toArray } (.lst (ns.map V.int))) else none) = some u := e
    split at e'
    · exact .inl ⟨by assumption, (Option.some.inj e').symm⟩
    · split at e'
      · rename_i c
        exact .inr ⟨c.1, c.2, (Option.some.inj e').symm⟩
      · cases e'
  have atT : ∀ b ∈ tabs, H b = some (.tbl #[]) := fun b hb => if_pos hb
  have atA : K.lookup a = none → H a = some (.frz { cls := .type "list", data := .seq vs.toArray } (.lst (ns.map V.int))) := fun hk => by
    show (if a ∈ tabs then some (HO.tbl #[]) else _) = _
    rw [if_neg a_no, if_pos ⟨rfl, hk⟩]
  have script : SqL K H a (ns.map V.int) := by
    cases hk : K.lookup a with
    | none => exact Or.inl (Or.inr ⟨_, atA hk⟩)
    | some o =>
      have e := KX a o hk
      rw [ha] at e
      cases e
      exact Or.inr ⟨_, vs.toArray, _, hk, rfl, rfl, rfl, by rw [List.size_toArray, size_eq]; exact hl, by simpa using rv⟩
  have ok : HOk P w H s₁.heap := fun b u z => by
    rcases cases_ b u z with ⟨m, rfl⟩ | ⟨rfl, _, rfl⟩
    · exact (tab_ b m).1
    · exact ⟨ha, by rw [List.length_map]; exact hl, vs, _, rv, ha⟩
  have shown : ∀ {b : Addr} {o : Obj}, s₁.heap.get? b = some o → H b = none → (hidT s₁.heap H).get? b = some o := fun e n => hidT_get e n
  have open_ : ∀ {b : Addr} {o : Obj}, s₁.heap.get? b = some o → (∀ us n, o.data ≠ .seq us n) → o.data ≠ .fields #[] → H b = none := fun {b o} e h1 h2 => by
    cases q : H b with
    | none => rfl
    | some u =>
      rcases cases_ b u q with ⟨m, _⟩ | ⟨rfl, _, _⟩
      · rw [(tab_ b m).1] at e
        cases e
        exact (h2 rfl).elim
      · rw [ha] at e
        cases e
        exact (h1 _ _ rfl).elim
  have dicts : ∀ {b : Addr} {m : Str → Option Value}, s₁.heap.Ns b m → (hidT s₁.heap H).Ns b m := fun {b m} z => by
    obtain ⟨o, es, ep, e, d, r⟩ := z
    exact ⟨o, es, ep, shown e (open_ e (fun us n z => by rw [d] at z; cases z) fun z => by rw [d] at z; cases z), d, r⟩
  have Kb : K.In (hidT s₁.heap H) := fun b o e => shown (KX b o e) (by
    cases q : H b with
    | none => rfl
    | some u =>
      rcases cases_ b u q with ⟨m, _⟩ | ⟨rfl, hk, _⟩
      · rw [(tab_ b m).2] at e; cases e
      · rw [hk] at e; cases e)
  have M : Mod K mg (hidT s₁.heap H) := by
    refine ⟨Kb, dicts hns, ⟨mb, dicts hb, hbb⟩, ?_⟩
    obtain ⟨mc, h1, h2⟩ := hlim
    exact ⟨mc, dicts h1, h2⟩
  have TB : ∀ p ∈ cs, TabB (hidT s₁.heap H) mg p.1 p.2 := fun p hp => by
    have here := hT p hp
    refine ⟨?_, ?_, fun z => ?_⟩
    · obtain ⟨o, us, file, tf, flags, tg, inF, text, tt, e1, r1, r2, r3, rest⟩ := C p hp
      refine ⟨o, us, file, tf, flags, tg, inF, text, tt, shown e1 (open_ e1 (fun vs n z => by rw [r2] at z; cases z) fun z => ?_), r1, r2, r3, rest⟩
      rw [r2] at z
      cases z
      simp at r3
    · obtain ⟨bm, ob, b1, b2, b3, b4, b5, b6⟩ := hbm
      refine ⟨bm, ob, b1, b2, fun q => ?_, fun q => ?_, shown b3 (open_ b3 (fun vs n z => by rw [b6] at z; cases z) fun z => by rw [b6] at z; cases z), b4, b5, b6⟩
      · obtain ⟨o, es, ep, e, hd, _⟩ := hns
        rw [q, e] at b3
        cases b3
        rw [hd] at b6
        cases b6
      · rw [q, here] at b3
        cases b3
        cases b6
    · obtain ⟨o, es, ep, e, hd, _⟩ := hns
      rw [z, here] at e
      cases e
      cases hd
  have E0 : Env0 P w K mg (hidT s₁.heap H) callerA [] s₁ H := {
    frames := rfl
    mod := M
    bs := fun b o e => of_hidT e
    bsz := Nat.le_of_eq (hidT_size _ _)
    funs := trivial
    frf := fun b hb => by cases hb
    hok := ok
    bare := .of_eq hg }
  refine codeAny_mono ((F _ Kb (dicts hns) TB).go callerA [] s₁ H ⟨[.ref a], []⟩ [.ref a] [.ref a] _ _ rfl hr E0 (hbind s₁ (.ref a)) (.cons rfl .nil) (hsp H (fun p hp => atT p.2 (List.mem_map.mpr ⟨p, hp, rfl⟩)) script)) fun r s' h => ?_
  match r, h with
  | .error e, h => exact (hCX H e s' h).elim
  | .ok .next, h => exact False.elim h
  | .ok .brk, h => exact False.elim h
  | .ok .cont, h => exact False.elim h
  | .ok (.ret u), h =>
    obtain ⟨v, H', os, bare, un, ok', rel, q⟩ := h
    have q' : v = .bl true := q
    subst q'
    obtain rfl : u = Value.bool true := rel
    have kept : ∀ b o, b ∉ tabs → s₁.heap.get? b = some o → s'.heap.get? b = some o := fun b o nb e => by
      cases q : H b with
      | none => exact un.keep b o e q (fun z => by cases z) (fun z => by cases z)
      | some u =>
        rcases cases_ b u q with ⟨m, _⟩ | ⟨rfl, _, rfl⟩
        · exact absurd m nb
        · obtain ⟨e1, _⟩ := ok b _ q
          obtain ⟨e2, _⟩ := ok' b _ (un.frzs b _ _ q)
          rw [e] at e1
          cases e1
          exact e2
    have more : ∀ p ∈ cs, ∃ us : Array Value, s'.heap.get? p.2 = some { cls := .none, data := .fields us } := fun p hp => by
      obtain ⟨us, z⟩ := un.tbls p.2 #[] (atT p.2 (List.mem_map.mpr ⟨p, hp, rfl⟩))
      exact ⟨_, ok' p.2 _ z⟩
    refine ⟨rfl, ⟨fun b o e => ?_, fun b o e => ?_⟩, os, bare⟩
    · by_cases hb : b ∈ tabs
      · obtain ⟨p, hp, rfl⟩ := List.mem_map.mp hb
        obtain ⟨us, hm⟩ := more p hp
        have e0 := hT p hp
        rw [e] at e0
        cases e0
        exact .inr (.inl ⟨((C p hp).tab (hT p hp)).isCodeTable, rfl, #[], us, rfl, by rw [Array.empty_append]; exact hm⟩)
      · exact .inl (kept b o hb e)
    · by_cases hb : b ∈ tabs
      · obtain ⟨p, hp, rfl⟩ := List.mem_map.mp hb
        obtain ⟨us, hm⟩ := more p hp
        exact ⟨_, hm⟩
      · exact ⟨o, kept b o hb e⟩
/-- where the tables stand: the maker's code object, its table among the empty ones -/
def TabIn (ts : List Addr) (K : PySem.W.Frag) (p : Addr × Addr) : Prop := p.2 ∈ ts ∧ PySem.W.codeHdIn K p.1 p.2 = true ∧ K.lookup p.2 = none
theorem tab_in {ts : List Addr} {K : PySem.W.Frag} {c : Addr} (h : (ts.any fun P => PySem.W.codeHdIn K c P && (K.lookup P).isNone) = true) : ∃ P, TabIn ts K (c, P) := by
  obtain ⟨P, hP, e⟩ := List.any_eq_true.mp h
  rw [Bool.and_eq_true] at e
  exact ⟨P, hP, e.1, by simpa using e.2⟩
theorem walkT {l : PySem.W.OpenLaw} {n k : Nat} {q : Program} {loose : List Str} {XP : (Str → Option Value) → Heap → Prop} {YP : World → Heap → Prop} {d : DefRec} {K : Params → PySem.W.Frag} {sp : PySem.W.Frag → List (Addr × Addr) → Sp} {x : Str} {ts : List Addr}
    (hn : l.most = some n) (hn2 : n ≤ sizeLine) (hdf : d.params.defaults = []) (hr : Room k callerA)
    (hY : ∀ (w : World) (h : Heap), YP w h → (K w.params).In h) (hts : ∀ (w : World) (h : Heap), YP w h → ∀ P ∈ ts, h.get? P = some (PySem.W.tabObj #[]))
    (F : ∀ (w : World) (mg : Str → Option Value) (fa : Addr) (h : Heap), (K w.params).In h → h.Ns mainGlobals mg → mg d.name = some (.ref fa) →
      ∃ (fd : FuncData) (cs : List (Addr × Addr)), (∀ p ∈ cs, TabIn ts (K w.params) p) ∧ (∀ (s : Shared) (u : Value), BindsTo s fd ⟨[u], []⟩ [(x, u)]) ∧
        ∀ base : Heap, (K w.params).In base → base.Ns mainGlobals mg → (∀ p ∈ cs, TabB base mg p.1 p.2) → FnG l.prog w (K w.params) mg base CX0 k fa fd [x] (sp (K w.params) cs))
    (hsp : ∀ (w : World) (H : Hp) (a : Addr) (ns : List Int) (cs : List (Addr × Addr)), ns.length ≤ n → (∀ p ∈ cs, H p.2 = some (.tbl #[])) → SqL (K w.params) H a (ns.map V.int) → sp (K w.params) cs [.ref a] H (fun v _ => v = .bl true) fun _ _ _ => False) :
    PySem.W.WalkO q loose XP YP l.row.toRowW d [] (fun f vs => PySem.call f vs) := by
  refine Att.attach_callB hn hdf fun w s₀ s₁ mg mb fa o pm cd doc a vs ns G Y ho hd hcd hmg hobj hints hlen hbits hg => ?_
  have KX := hY w _ Y
  obtain ⟨fd, cs, ht, hb, hF⟩ := F w mg fa _ KX G.T.g hmg
  exact law_endT KX G.T.g G.T.b G.T.builtins G.T.nolimit hg (fun p hp => hts w _ Y _ (ht p hp).1) (fun p hp => (ht p hp).2.2) (fun p hp => PySem.W.codeHd_of_K KX (ht p hp).2.1) G.T.bmain hobj hints (Nat.le_trans hlen hn2) hr hF hb
    (fun H hT hS => hsp w H a ns cs hlen hT hS) fun _ _ _ z => z
end TSx

/-! Own layer, part X1: what stays where tables grow. -/
namespace TSx
open PySem L2 LamX
section
variable {K : PySem.W.Frag} {H H' : Hp}
theorem ext_T {a : Addr} {xs : List V} (g : ExtN H H') (h : SqT K H a xs) : SqT K H' a xs := by
  rcases h with (h | ⟨o, h⟩) | h
  · exact Or.inl (Or.inl (g _ _ h (fun _ z => by cases z)))
  · exact Or.inl (Or.inr ⟨o, g _ _ h (fun _ z => by cases z)⟩)
  · exact Or.inr h
theorem exq_nt {a C d : Addr} (ps : Array Value) : exq a C d ≠ .tbl ps := fun z => by
  unfold exq at z
  cases z
mutual
theorem Dt.ext (g : ExtN H H') : ∀ {v : V} {d : D}, Dt K H v d → Dt K H' v d
  | _, _, .non => .non
  | _, _, .bl b => .bl b
  | _, _, .int i => .int i
  | _, _, .str x => .str x
  | _, _, .lst e a => .lst (g _ _ e (fun _ z => by cases z)) (DtA.ext g a)
  | _, _, .tup e a => .tup (ext_T g e) (DtA.ext g a)
  | _, _, .dic e a => .dic (g _ _ e (fun _ z => by cases z)) (DtK.ext g a)
  | _, _, .exc e f a => .exc (g _ _ e exq_nt) (g _ _ f (fun _ z => by cases z)) (DtF.ext g a)
theorem DtA.ext (g : ExtN H H') : ∀ {v : List V} {d : List D}, DtA K H v d → DtA K H' v d
  | _, _, .nil => .nil
  | _, _, .cons a b => .cons (Dt.ext g a) (DtA.ext g b)
theorem DtK.ext (g : ExtN H H') : ∀ {v : List (Key × V)} {d : List (Key × D)}, DtK K H v d → DtK K H' v d
  | _, _, .nil => .nil
  | _, _, .cons a b => .cons (Dt.ext g a) (DtK.ext g b)
theorem DtF.ext (g : ExtN H H') : ∀ {v : List (Str × V)} {d : List (Str × D)}, DtF K H v d → DtF K H' v d
  | _, _, .nil => .nil
  | _, _, .cons a b => .cons (Dt.ext g a) (DtF.ext g b)
end
theorem wo_ext {B : Addr → Bool} (g : ExtN H H') : ExtN (wo B H) (wo B H') := fun b o e n => by
  unfold wo at e ⊢
  by_cases c : B b = true
  · rw [if_pos c] at e; cases e
  · rw [if_neg c] at e ⊢; exact g b o e n
variable {m c g : Addr} {r : Nat} {v : V} {d : D}
theorem Ap.ext (h : Ap K m g H v d) (e : ExtN H H') : Ap K m g H' v d := Dt.ext (wo_ext e) h
theorem MAt.ext (h : MAt m c g H r) (e : ExtN H H') : MAt m c g H' r := by
  obtain ⟨⟨n, cs, gs, h1, h2, h3, h4⟩, ne⟩ := h
  exact ⟨⟨n, cs, gs, e _ _ h1 (fun _ z => by cases z), e _ _ h2 (fun _ z => by cases z), e _ _ h3 (fun _ z => by cases z), h4⟩, ne⟩
theorem Tabs.kp {T : List (Addr × Str)} (t : Tabs T H) (M : MAt m c g H r) (k : Kp m g H H') : Tabs T H' := fun p hp => by
  obtain ⟨ps, h1, h2, h3⟩ := t p hp
  obtain ⟨⟨n, cs, gs, e1, e2, e3, _⟩, _⟩ := M
  refine ⟨ps, k _ _ (fun z => ?_) (fun z => ?_) h1, h2, fun pos cv hc => ?_⟩
  · rw [z, e1] at h1; cases h1
  · rw [z, e3] at h1; cases h1
  · obtain ⟨c0, q1, q2⟩ := h3 pos cv hc
    refine ⟨c0, q1, k _ _ (fun z => ?_) (fun z => ?_) q2⟩
    · rw [z, e1] at q2; unfold CodeO at q2; cases q2
    · rw [z, e3] at q2; unfold CodeO at q2; cases q2
theorem Tabs.sm {T : List (Addr × Str)} (t : Tabs T H) (s : Same H H') : Tabs T H' := t.ext s
/-- a thing that does not stand yet is written: what stood stays -/
theorem ext_mut {p : Addr} {o : HO} (s : ExtN H H') (n : H p = none) : ExtN H (upd H' p o) := fun b u e nt => by rw [upd_ne (ne_of_none e n)]; exact s b u e nt
theorem Tabs.upd' {T : List (Addr × Str)} {p : Addr} {o u : HO} (t : Tabs T H) (e : H p = some u) (n1 : ∀ ps, u ≠ .tbl ps) (n2 : ∀ c q, u ≠ CodeO c q) : Tabs T (upd H p o) := fun x hx => by
  obtain ⟨ps, h1, h2, h3⟩ := t x hx
  have a1 : x.1 ≠ p := fun z => by rw [z, e] at h1; exact n1 ps (Option.some.inj h1)
  refine ⟨ps, by rw [upd_ne a1]; exact h1, h2, fun pos cv hc => ?_⟩
  obtain ⟨c0, q1, q2⟩ := h3 pos cv hc
  have a2 : c0 ≠ p := fun z => by rw [z, e] at q2; exact n2 _ _ (Option.some.inj q2)
  exact ⟨c0, q1, by rw [upd_ne a2]; exact q2⟩
end
end TSx

/-! Own layer, part A8: except (C1, C2) as n. -/
namespace TSx
open PySem L2 PySem.Spec PyProof.Rows
theorem flyZ_keeps {B h h' : Heap} {l : List Env} {a : Addr} {Z : Obj → Prop} (x : HandSPX.FlyingZ B l a Z h) (kp : ∀ q o, h.get? q = some o → h'.get? q = some o) : HandSPX.FlyingZ B l a Z h' := by
  obtain ⟨f1, f2, f3, oe, vs, T, oT, ts, he, hz, hd, h1, hnT, hTe, hT, hdT, h3⟩ := x
  exact ⟨fun b o e => kp _ _ (f1 b o e), f2, f3.of_keeps fun b o hb _ => ⟨o, kp _ _ hb, rfl⟩, oe, vs, T, oT, ts, kp _ _ he, hz, hd, h1, hnT, hTe, kp _ _ hT, hdT, h3⟩
/-- what the one clause wishes -/
def w2 (K : PySem.W.Frag) (D : Ends) (c1 c2 : Value) (i : Nat) (ts : TS) : WX := fun cls d σ H => PySem.W.exmAny K cls [c1, c2] = some true ∧ ∃ (C dd : Addr), cls = .ref C ∧ d = some dd ∧ ∀ a, H a = none → ts { nx := fun σ' H' => D.nx (σ'.set i none) H', rt := D.rt, bk := fun σ' H' => D.bk (σ'.set i none) H', ct := fun σ' H' => D.ct (σ'.set i none) H' } (σ.set i (some (.ref a))) (upd H a (exq a C dd))
section
variable {X : Cx} {body : List Stmt} {x1 x2 n : Str} {c1 c2 : Value} {p1 p2 tpos pos pos' : Pos} {kk i : Nat} {b₀ : Stmt} {suite : List Stmt} {ts : TS} {tb : WX → TS} {Wout : WX}
theorem ps_tryT2 (hs : X.stack = X.env :: X.outer) (hf : X.env.frame = some X.env.locals) (hN : X.N.Nodup) (hex : X.ex = [])
    (hb : ∀ (W : WX) (pn : List (Addr × Obj)) (xe : Value → Shared → Prop), Takes (X.tr pn xe) W → PassesOwn (model X.prog X.w) X.A X.env xe → PSs (X.tr pn xe) body (tb W))
    (hc1 : Names X x1 c1) (hc2 : Names X x2 c2) (hi : X.N[i]? = some n) (hln : X.env.kindOf n = some .local) (hsu : ∀ (a : Addr) (pn : List (Addr × Obj)), PSs (X.suite a pn) (b₀ :: suite) ts) :
    PS X (.Try body [.ExceptHandler (some (.Tuple [.Name x1 p1, .Name x2 p2] kk tpos)) (some n) (b₀ :: suite) pos'] [] [] pos) (fun D σ H => tb (w2 X.K D c1 c2 i ts) D σ H) := by
  constructor
  intro pins s σ H D I h
  have ok := I.ok
  have fr : X.A.frames = some (X.env :: X.outer) := by rw [ok.frames, hs]
  refine wpAny_Try_except ?_
  refine wpAny_mono ((hb (w2 X.K D c1 c2 i ts) (X.pn ++ pins) (fun e s₁ => wpAny (model X.prog X.w) X.A (noteFrame e X.env) (fun _ s₂ => wpAny (model X.prog X.w) X.A (setFlight e none) (fun _ s₃ =>
    wpAny (model X.prog X.w) X.A (handleBy e X.env [.ExceptHandler (some (.Tuple [.Name x1 p1, .Name x2 p2] kk tpos)) (some n) (b₀ :: suite) pos']) (SP X pins D) X.xe s₃) X.xe s₂) X.xe s₁) (fun u s' xx => ?_) PassesOwn.looking).run [] s σ H D (I.toTry _) h) (fun f s1 hsp => ?_) (fun e s1 he => he)
  · obtain ⟨a, B, sI, pins', σ', H', cls, d, rfl, J', nb, up, sky, na, os, ag, w⟩ := xx
    have J : L2.Inv X pins σ' H' sI := J'.ofTry ok
    have sky2 : Sky B (X.env :: X.outer) a (Zc cls d) X.env.locals s'.heap := by rw [← hs]; exact sky
    show wpAny (model X.prog X.w) X.A (noteFrame (.ref a) X.env) _ _ _
    refine Sky.land Zc.steady fr hf sky2 fun h3 fl3 up3 => ?_
    have J3 : L2.Inv X pins σ' H' { s' with heap := h3 } := J.landed nb fl3.1 (up.trans up3) os ag
    obtain ⟨oe3, vs3, he3, hz3, hd3⟩ := fl3.there
    have nfr : a ∉ frs (X.env :: X.outer) := fun hm => by
      obtain ⟨_, o', e', hnf⟩ := fl3.2.2.1.mem hm
      rw [he3] at e'
      cases e'
      exact hnf _ hd3
    have nL : a ≠ X.env.locals := fun z => nfr (List.mem_filterMap.mpr ⟨X.env, List.mem_cons_self, by rw [hf, z]⟩)
    have nI : sI.heap.get? a = none := by
      cases q : sI.heap.get? a with
      | none => rfl
      | some o =>
        have z := nb a o q (by rw [hs]; exact nfr)
        rw [fl3.2.1] at z
        cases z
    have n0 : X.s_0.heap.get? a = none := by
      cases q : X.s_0.heap.get? a with
      | none => rfl
      | some o =>
        obtain ⟨o', z⟩ := J.base.there a o q (by rw [hex]; simp)
        rw [nI] at z
        cases z
    have nP : ∀ p ∈ X.pn ++ pins, p.1 ≠ a := fun p hp z => by
      have q := (J.pin p hp).1
      rw [z, nI] at q
      cases q
    have S3 := suite_in J3 a
    obtain ⟨hm, C, dd, rfl, rfl, want⟩ := w
    show wpAny (model X.prog X.w) X.A (handleBy (.ref a) X.env [.ExceptHandler (some (.Tuple [.Name x1 p1, .Name x2 p2] kk tpos)) (some n) (b₀ :: suite) pos']) (SP X pins D) X.xe { s' with heap := h3 }
    refine wpAny_handleBy_cons (codeAny_handlers_test ?_) (by intro q; cases q)
    have LT : PySem.W.Looks (model X.prog X.w) h3 (typeOf (.ref a)) (Value.ref C) := fun A Q E s k q => wpAny_typeOf_ref (k _ _ he3) (by rw [hz3.1]; exact q)
    have ask : ∀ {y : Str} {np : Pos} {c : Value} {Q : Value → Shared → Prop} {E : Value → Shared → Prop}, Names X y c → Q c { s' with heap := h3 } → wpAny (model X.prog X.w) (X.A.mark (some (.ref a))) (eval (.Name y np) X.env) Q E { s' with heap := h3 } := fun {y np c Q E} hc q => by
      obtain ⟨hg, hdbg, hm | ⟨hm, hv, hnn⟩⟩ := hc
      · exact ld_glob (X := X.suite a (X.pn ++ pins)) S3 hg hm q hdbg
      · exact ld_blt (X := X.suite a (X.pn ++ pins)) S3 hg hm hv q hnn hdbg
    refine wpAny_Tuple (wpAny_items_cons (ask hc1 (wpAny_items_cons (ask hc2 (wpAny_items_nil ⟨by size_fits, ?_⟩)))))
    have kp : ∀ q o, h3.get? q = some o → (h3.push { cls := .type "tuple", data := .seq [c1, c2].toArray }).get? q = some o := fun _ _ z => Heap.get?_push_of_some _ z
    have KP : X.K.In (h3.push { cls := .type "tuple", data := .seq [c1, c2].toArray }) := fun b o e => kp _ _ (J3.kIn b o e)
    refine (PySem.W.exm_tup2 (M := model X.prog X.w) KP (LT.keeps kp) (Heap.get?_push_size h3 rfl) hm).here ?_
    have flP := flyZ_keeps fl3 kp
    generalize h3.push { cls := .type "tuple", data := .seq [c1, c2].toArray } = hP at kp KP flP ⊢
    refine codeAny_handlers_suite_as ?_
    refine HandSPX.lands_againZ flP fun h4 fl4 up4 => ?_
    have upP : h3.UpToSlots hP := fun b o hb _ => ⟨o.slots, kp _ _ hb⟩
    have J4 : L2.Inv X pins σ' H' { s' with heap := h4 } := J.landed nb fl4.1 (((up.trans up3).trans upP).trans up4) os ag
    obtain ⟨oe4, vs4, he4, hz4, hd4⟩ := fl4.there
    have nC : ∀ y c', X.env.cells.lookup y = some c' → c' ≠ a := fun y c' e z => by
      obtain ⟨v, o, ho, hdat⟩ := J4.cell y c' e
      rw [z] at ho
      have ho' : h4.get? a = some o := ho
      rw [he4] at ho'
      cases ho'
      rw [hd4] at hdat
      cases hdat
    have J5 := Inv.track J4 na n0 nL nC nP (exq_ok (C := C) (d := dd) he4 hz4 hd4)
    have S5 := suite_in J5 a
    refine store_ok (X := X.suite a (X.pn ++ pins)) (v := .ref a) S5 hN hi (.inl hln) rfl (fun s6 S6 => ?_) (.inr hln)
    refine wpAny_mono ((hsu a (X.pn ++ pins)).run [] s6 _ _ _ S6 (want a na)) (fun f s7 hsp => ?_) (fun _ _ z => False.elim z)
    have close : ∀ {σ7 : Sg} {H7 : Hp} {Q : Shared → Prop}, L2.Inv (X.suite a (X.pn ++ pins)) [] σ7 H7 s7 → (∀ s8, L2.Inv X pins (σ7.set i none) H7 s8 → Q s8) →
        wpAny (model X.prog X.w) X.A (do bindName X.env n .none; unbindBehindTheSuite X.env n pos') (fun _ s8 => Q s8) X.xe s7 := fun {σ7 H7 Q} S7 hq => gone_ok (suite_out S7 ok) hN hi hln hq
    cases f with
    | next =>
      obtain ⟨σ7, H7, S7, q7⟩ := hsp
      exact close S7 fun s8 J8 => ⟨_, _, J8, q7⟩
    | brk =>
      obtain ⟨σ7, H7, S7, q7⟩ := hsp
      exact close S7 fun s8 J8 => ⟨_, _, J8, q7⟩
    | cont =>
      obtain ⟨σ7, H7, S7, q7⟩ := hsp
      exact close S7 fun s8 J8 => ⟨_, _, J8, q7⟩
    | ret u =>
      obtain ⟨v7, σ7, H7, S7, r7, q7⟩ := hsp
      exact close S7 fun s8 J8 => ⟨_, _, _, J8, r7, q7⟩
  · cases f with
    | next =>
      obtain ⟨σ', H', J', q⟩ := hsp
      exact wpAny_execs_nil ⟨σ', H', J'.ofTry ok, q⟩
    | brk =>
      obtain ⟨σ', H', J', q⟩ := hsp
      exact ⟨σ', H', J'.ofTry ok, q⟩
    | cont =>
      obtain ⟨σ', H', J', q⟩ := hsp
      exact ⟨σ', H', J'.ofTry ok, q⟩
    | ret u =>
      obtain ⟨v, σ', H', J', r, q⟩ := hsp
      exact ⟨v, σ', H', J'.ofTry ok, r, q⟩
end
end TSx

/-! Own layer, part S1: how great data are; what is small enough to be shown. -/
namespace TSx
open PySem L2 PySem.Spec PyProof.Rows
mutual
/-- ints of at most 10 ^ 30 + n, short texts, no full dict, no exception -/
def D.gd (n : Nat) : D → Bool
  | .non => true
  | .bl _ => true
  | .int i => decide (i.natAbs ≤ 10 ^ 30 + n)
  | .str x => decide (x.length ≤ 1000) && x.cps.toList.all fun c => decide (c < 16 ^ 8)
  | .lst xs => gdA n xs
  | .tup xs => gdA n xs
  | .dic kvs => kvs.isEmpty
  | .exc _ _ => false
def gdA (n : Nat) : List D → Bool
  | [] => true
  | d :: ds => d.gd n && gdA n ds
end
mutual
def D.wg : D → Nat
  | .int _ => 150
  | .str x => x.cps.size + 1
  | .lst xs => wgA xs + 1
  | .tup xs => wgA xs + 1
  | _ => 1
def wgA : List D → Nat
  | [] => 0
  | d :: ds => d.wg + 1 + wgA ds
end
mutual
def D.dg : D → Nat
  | .lst xs => dgA xs + 1
  | .tup xs => dgA xs + 1
  | .dic _ => 1
  | _ => 0
def dgA : List D → Nat
  | [] => 0
  | d :: ds => max d.dg (dgA ds)
end
theorem gdA_mem {n : Nat} : ∀ {ds : List D}, gdA n ds = true ↔ ∀ d ∈ ds, d.gd n = true
  | [] => by simp [gdA]
  | x :: xs => by simp only [gdA, Bool.and_eq_true, List.mem_cons, forall_eq_or_imp, gdA_mem (ds := xs)]
theorem wgA_app : ∀ (a b : List D), wgA (a ++ b) = wgA a + wgA b
  | [], b => by simp [wgA]
  | x :: a, b => by simp only [List.cons_append, wgA, wgA_app a b]; omega
theorem wgA_mem : ∀ {ds : List D} {d : D}, d ∈ ds → d.wg + 1 ≤ wgA ds
  | x :: xs, d, h => by
    simp only [wgA]
    rcases List.mem_cons.mp h with rfl | h
    · omega
    · have := wgA_mem h; omega
theorem wgA_len : ∀ (ds : List D), ds.length ≤ wgA ds
  | [] => Nat.le_refl _
  | x :: xs => by have := wgA_len xs; simp only [wgA, List.length_cons]; omega
theorem dgA_le {k : Nat} : ∀ {ds : List D}, dgA ds ≤ k ↔ ∀ d ∈ ds, d.dg ≤ k
  | [] => by simp [dgA]
  | x :: xs => by simp only [dgA, List.mem_cons, forall_eq_or_imp, Nat.max_le, dgA_le (ds := xs)]
theorem wgA_rev : ∀ (ds : List D), wgA ds.reverse = wgA ds
  | [] => rfl
  | x :: xs => by rw [List.reverse_cons, wgA_app, wgA_rev xs]; simp only [wgA]; omega
mutual
theorem gd_mono {n m : Nat} (h : n ≤ m) : ∀ {d : D}, d.gd n = true → d.gd m = true
  | .non, _ => rfl
  | .bl _, _ => rfl
  | .int i, e => by simp only [D.gd, decide_eq_true_eq] at e ⊢; omega
  | .str x, e => e
  | .lst xs, e => gdA_mono h (ds := xs) e
  | .tup xs, e => gdA_mono h (ds := xs) e
  | .dic _, e => e
  | .exc _ _, e => e
theorem gdA_mono {n m : Nat} (h : n ≤ m) : ∀ {ds : List D}, gdA n ds = true → gdA m ds = true
  | [], _ => rfl
  | x :: xs, e => by
    simp only [gdA, Bool.and_eq_true] at e ⊢
    exact ⟨gd_mono h e.1, gdA_mono h e.2⟩
end
mutual
theorem gd_nx {n : Nat} : ∀ {d : D}, d.gd n = true → d.nx = true
  | .non, _ => rfl
  | .bl _, _ => rfl
  | .int i, e => rfl
  | .str x, e => by simp only [D.gd, Bool.and_eq_true] at e; exact e.1
  | .lst xs, e => gdA_nx (ds := xs) e
  | .tup xs, e => gdA_nx (ds := xs) e
  | .dic _, e => e
  | .exc _ _, e => e
theorem gdA_nx {n : Nat} : ∀ {ds : List D}, gdA n ds = true → nxA ds = true
  | [], _ => rfl
  | x :: xs, e => by
    simp only [gdA, nxA, Bool.and_eq_true] at e ⊢
    exact ⟨gd_nx e.1, gdA_nx e.2⟩
end
theorem int_ok {n : Nat} {i : Int} (hn : n ≤ 1000) (h : i.natAbs ≤ 10 ^ 30 + n) : i.natAbs.log2 < 130 ∧ (PyData.shown (.int i)).length ≤ 50 := by
  have lt : i.natAbs < 10 ^ 31 := by omega
  refine ⟨?_, ?_⟩
  · by_cases z : i.natAbs = 0
    · rw [z]; decide
    · exact (Nat.log2_lt z).2 (Nat.lt_trans lt (by decide))
  · have e := int_text_length_le10 (k := 31) (by decide) lt
    show (Str.ofString (toString i)).length ≤ 50
    rw [PySem.ofString_length]
    omega
mutual
theorem gd_sh {n : Nat} (hn : n ≤ 1000) : ∀ {d : D}, d.gd n = true → d.sh = true ∧ d.pd.showable = true ∧ d.pd.leavesShort 50 = true ∧ d.pd.weight ≤ d.wg ∧ d.pd.depth ≤ d.dg
  | .non, _ => ⟨rfl, rfl, rfl, by simp [D.pd, PyData.weight], by simp [D.pd, PyData.depth]⟩
  | .bl _, _ => ⟨rfl, rfl, rfl, by simp [D.pd, PyData.weight], by simp [D.pd, PyData.depth]⟩
  | .int i, e => by
    simp only [D.gd, decide_eq_true_eq] at e
    obtain ⟨h1, h2⟩ := int_ok hn e
    refine ⟨rfl, ?_, ?_, ?_, by simp [D.pd, PyData.depth]⟩
    · simp only [D.pd, PyData.showable, decide_eq_true_eq]; omega
    · simp only [D.pd, PyData.leavesShort, decide_eq_true_eq]; exact h2
    · simp only [D.pd, PyData.weight, D.wg]; split <;> omega
  | .str x, e => by
    simp only [D.gd, Bool.and_eq_true] at e
    refine ⟨rfl, rfl, ?_, ?_, by simp [D.pd, PyData.depth]⟩
    · simp only [D.pd, PyData.leavesShort]; exact e.2
    · simp only [D.pd, PyData.weight, D.wg]; omega
  | .lst xs, e => by
    obtain ⟨h1, h2, h3, h4, h5⟩ := gdA_sh hn (ds := xs) e
    refine ⟨by simp only [D.sh, h1], by simp only [D.pd, PyData.showable, h2], by simp only [D.pd, PyData.leavesShort, h3], ?_, ?_⟩
    · simp only [D.pd, PyData.weight, D.wg]; omega
    · simp only [D.pd, PyData.depth, D.dg]; omega
  | .tup xs, e => by
    obtain ⟨h1, h2, h3, h4, h5⟩ := gdA_sh hn (ds := xs) e
    refine ⟨by simp only [D.sh, h1], by simp only [D.pd, PyData.showable, h2], by simp only [D.pd, PyData.leavesShort, h3], ?_, ?_⟩
    · simp only [D.pd, PyData.weight, D.wg]; omega
    · simp only [D.pd, PyData.depth, D.dg]; omega
  | .dic [], _ => ⟨rfl, rfl, rfl, by simp [D.pd, PyData.weight, PyData.weightKv], by simp [D.pd, D.dg, PyData.depth, PyData.depthKv]⟩
  | .dic (_ :: _), e => by cases e
  | .exc _ _, e => by cases e
theorem gdA_sh {n : Nat} (hn : n ≤ 1000) : ∀ {ds : List D}, gdA n ds = true → shA ds = true ∧ PyData.showableAll (pdA ds) = true ∧ PyData.leavesShortAll 50 (pdA ds) = true ∧ PyData.weightAll (pdA ds) ≤ wgA ds ∧ PyData.depthAll (pdA ds) ≤ dgA ds
  | [], _ => ⟨rfl, rfl, rfl, Nat.le_refl _, Nat.le_refl _⟩
  | x :: xs, e => by
    simp only [gdA, Bool.and_eq_true] at e
    obtain ⟨h1, h2, h3, h4, h5⟩ := gd_sh hn e.1
    obtain ⟨g1, g2, g3, g4, g5⟩ := gdA_sh hn (ds := xs) e.2
    refine ⟨by simp only [shA, h1, g1, Bool.and_true], by simp only [pdA, PyData.showableAll, h2, g2, Bool.and_true], by simp only [pdA, PyData.leavesShortAll, h3, g3, Bool.and_true], ?_, ?_⟩
    · simp only [pdA, PyData.weightAll, wgA]; omega
    · simp only [pdA, PyData.depthAll, dgA]; omega
end
/-- how great a thing is: ints, weight, depth -/
structure Gd (n w k : Nat) (d : D) : Prop where
  g : d.gd n = true
  w : d.wg ≤ w
  k : d.dg ≤ k
theorem Gd.up {n w k n' w' k' : Nat} {d : D} (h : Gd n w k d) (hn : n ≤ n') (hw : w ≤ w') (hk : k ≤ k') : Gd n' w' k' d := ⟨gd_mono hn h.g, Nat.le_trans h.w hw, Nat.le_trans h.k hk⟩
theorem Gd.nx {n w k : Nat} {d : D} (h : Gd n w k d) : d.nx = true := gd_nx h.g
theorem Gd.rd {n w k : Nat} {d : D} (h : Gd n w k d) (hn : n ≤ 1000) (hw : w ≤ 2 ^ 18) (hk : k ≤ 50) : d.rd := by
  obtain ⟨h1, h2, h3, h4, h5⟩ := gd_sh hn h.g
  refine ⟨h1, h2, ?_, Nat.le_trans h5 (Nat.le_trans h.k hk)⟩
  have l := PyData.shown_le 50 (by decide) d.pd h3
  have e : (2 : Nat) ^ 18 = 262144 := by decide
  have w1 := h.w
  have l2 : (50 + 2) * d.pd.weight ≤ 52 * 262144 := Nat.mul_le_mul (by omega) (by omega)
  rw [sizeLine_eq]
  omega
theorem Gd.part {n w k : Nat} {ds : List D} (h : Gd n w k (.tup ds)) {d : D} (m : d ∈ ds) : Gd n w (k - 1) d := by
  have a := h.w
  have b := h.k
  simp only [D.wg, D.dg] at a b
  have := wgA_mem m
  exact ⟨gdA_mem.mp h.g d m, by omega, by have := dgA_le.mp (Nat.le_refl (dgA ds)) d m; omega⟩
theorem gd_tup {n w k : Nat} {ds : List D} (h : ∀ d ∈ ds, Gd n w k d) {m : Nat} (hm : ds.length ≤ m) : Gd n ((w + 1) * m + 1) (k + 1) (.tup ds) := by
  refine ⟨gdA_mem.mpr fun d hd => (h d hd).g, ?_, ?_⟩
  · have : ∀ l : List D, (∀ d ∈ l, d.wg ≤ w) → wgA l ≤ (w + 1) * l.length := by
      intro l
      induction l with
      | nil => intro _; simp [wgA]
      | cons x xs ih =>
        intro a
        have := a x (List.mem_cons_self ..)
        have := ih fun y hy => a y (List.mem_cons_of_mem _ hy)
        simp only [wgA, List.length_cons]
        rw [Nat.mul_succ]
        omega
    have q := this ds fun d hd => (h d hd).w
    have := Nat.mul_le_mul_left (w + 1) hm
    simp only [D.wg]
    omega
  · have := dgA_le.mpr fun d hd => (h d hd).k
    simp only [D.dg]
    omega
theorem gd_lst {n w k : Nat} {ds : List D} (h : ∀ d ∈ ds, Gd n w k d) {m : Nat} (hm : ds.length ≤ m) : Gd n ((w + 1) * m + 1) (k + 1) (.lst ds) := by
  have q := gd_tup h hm
  exact ⟨q.g, q.w, q.k⟩
end TSx

/-! Own layer, part T1: tuples: == of the empty one, the whole of it backwards, +, slices, *. -/
namespace TSx
open PySem L2 PySem.Spec PyProof.Rows HT
theorem fmc {α β : Type} {f g : α → Option β} : ∀ {l : List α}, (∀ a ∈ l, f a = g a) → l.filterMap f = l.filterMap g
  | [], _ => rfl
  | x :: xs, h => by
    rw [List.filterMap_cons, List.filterMap_cons, h x (List.mem_cons_self ..), fmc fun a m => h a (List.mem_cons_of_mem _ m)]
section
variable {prog : Program} {w : World} {A : Around} {E : Value → Shared → Prop} {s : Shared}
theorem back_applied {sl : Addr} {vl vu vs : Value} {n : Nat} {Q : Int × Int × Nat → Shared → Prop} (hs : s.heap.IsSliceOf sl vl vu vs) (pl : IsPart vl none) (pu : IsPart vu none) (ps : IsPart vs (some (-1)))
    (h : Q ((n : Int) - 1, -1, n) s) : wpAny (model prog w) A (Builtin.Slice.sliceApplied (.ref sl) (pure (n : Int))) Q E s := by
  obtain ⟨os, at_, _, dat⟩ := id hs
  unfold Builtin.Slice.sliceApplied Builtin.Slice.sliceFields
  refine wpAny_bind (wpAny_bind (wpAny_field at_ dat (x := vl) rfl (wpAny_bind (wpAny_field at_ dat (x := vu) rfl (wpAny_bind (wpAny_field at_ dat (x := vs) rfl (wpAny_pure ?_)))))))
  refine wpAny_bind (slicePart_ ps ?_)
  show wpAny _ _ (if ((-1 : Int) == 0) = true then _ else _) _ _ s
  rw [if_neg (by decide)]
  refine wpAny_bind (slicePart_ pl (wpAny_bind (slicePart_ pu (wpAny_bind (wpAny_pure ?_)))))
  have e1 : Builtin.Slice.sliceAdjust none none (-1) (n : Int) = ((n : Int) - 1, -1) := rfl
  have e2 : Builtin.Slice.slicePlaces ((n : Int) - 1) (-1) (-1) = n := by
    unfold Builtin.Slice.slicePlaces
    simp
    split <;> omega
  show wpAny _ _ (match Builtin.Slice.sliceAdjust none none (-1) (n : Int) with | (lo, hi) => pure (lo, (-1 : Int), Builtin.Slice.slicePlaces lo hi (-1))) _ _ s
  rw [e1]
  show wpAny _ _ (pure ((n : Int) - 1, (-1 : Int), Builtin.Slice.slicePlaces ((n : Int) - 1) (-1) (-1))) _ _ s
  rw [e2]
  exact wpAny_pure h
theorem back_pick (xs : Array Value) : ((List.range xs.size).filterMap fun (k : Nat) => xs[((xs.size : Int) - 1 + (k : Int) * (-1)).toNat]?).toArray = xs.toList.reverse.toArray := by
  congr 1
  have e : ∀ l : List Value, (List.range l.length).filterMap (fun (k : Nat) => l[((l.length : Int) - 1 + (k : Int) * (-1)).toNat]?) = l.reverse := by
    intro l
    have q : (List.range l.length).filterMap (fun (k : Nat) => l[((l.length : Int) - 1 + (k : Int) * (-1)).toNat]?) = (List.range l.length).filterMap (fun k => l.reverse[k]?) := by
      refine fmc fun k hk => ?_
      have lt := List.mem_range.mp hk
      rw [List.getElem?_reverse lt]
      congr 1
      omega
    rw [q]
    have r := fm_get (fun x : Value => x) l.reverse
    simp only [List.length_reverse, List.map_id'] at r
    refine Eq.trans (fmc fun k _ => ?_) r
    cases l.reverse[k]? <;> rfl
  have := e xs.toList
  simpa using this
theorem back_item {t sl : Addr} {items : Array Value} {vl vu vs : Value} {Q : Value → Shared → Prop} (ht : IsTup s.heap t items) (hs : s.heap.IsSliceOf sl vl vu vs) (pl : IsPart vl none) (pu : IsPart vu none) (ps : IsPart vs (some (-1)))
    (h : Q (.ref s.heap.objs.size) { s with heap := s.heap.push { cls := .type "tuple", data := .seq items.toList.reverse.toArray } }) (hsz : items.size ≤ sizeLine) : wpAny (model prog w) A (getItem (.ref t) (.ref sl)) Q E s := by
  have fits : sizeOk (.seq items.toList.reverse.toArray) := by
    show items.toList.reverse.toArray.size ≤ sizeLine
    rw [List.size_toArray, List.length_reverse, Array.length_toList]
    exact hsz
  obtain ⟨os, at_, isS, dat⟩ := id hs
  have kind : s.TypeIs (.ref sl) "slice" := ⟨os, at_, isS⟩
  unfold getItem
  try with_reducible refine wpAny_holding ?_
  first | refine wpAny_bind (wpAny_pure ?_) | skip
  refine wpAny_bind (wpAny_sequenceKey ht.typeIs (by decide) ?_)
  refine wpAny_bind (wpAny_callSpecial?_slot (name := Str.ofString "__getitem__") ht.typeIs PyProof.Rows.slot_tuple_getitem (wpAny_call_entry PyProof.Rows.slot_tuple_getitem ht.typeIs entry_tuple_getitem ?_ (args_tuple_getitem _ _)))
  show wpAny _ _ (Builtin.Tuple.tupleItemsOf (.ref t) >>= _) _ _ s
  refine wpAny_bind (tupleItemsOf_ ht ?_)
  refine wpAny_bind (wpAny_typeOf kind ?_)
  rw [if_pos (by decide)]
  refine wpAny_bind (back_applied hs pl pu ps ?_)
  show wpAny _ _ (if (((items.size : Int) - 1) == 0 && (-1 : Int) == 1 && items.size == items.size) = true then _ else _) _ _ s
  rw [if_neg (by simp), back_pick]
  first
    | exact wpAny_bind (m := Builtin.Tuple.tupleExact _) (wpAny_newObj_type (wpAny_pure ⟨_, rfl, wpAny_pure h⟩) fits)
    | exact wpAny_bind (m := Builtin.Tuple.tupleExact _) (wpAny_newObj_type (wpAny_bind (wpAny_pure (wpAny_pure ⟨_, rfl, wpAny_pure h⟩))) fits)
    | exact wpAny_bind (wpAny_bind (m := Builtin.Tuple.tupleExact _) (wpAny_newObj_type (wpAny_pure (wpAny_pure ⟨_, rfl, wpAny_pure h⟩)) fits))
    | exact wpAny_bind (wpAny_bind (m := Builtin.Tuple.tupleExact _) (wpAny_newObj_type (wpAny_pure ⟨_, rfl, wpAny_pure h⟩) fits))
end
/-- t[::-1] -/
def tBack (K : PySem.W.Frag) (te : TE) : TE := fun σ H Q => te σ H fun x H1 => ∃ a xs, x = .ref a ∧ SqT K H1 a xs ∧ ∀ p, H1 p = none → Q (.ref p) (upd H1 p (.tup xs.reverse))
theorem pe_back {X : Cx} {e : Expr} {te : TE} {k : Nat} {p1 p2 p3 pos : Pos} (he : PE X e te) : PE X (.Subscript e (.Slice none none (some (.UnaryOp .USub (.Constant (.int 1) k p1) p2)) p3) pos) (tBack X.K te) := by
  constructor
  intro pins s σ H Q I h
  refine Subscript_ (thn (he.run pins s σ H _ I h) fun v s1 z => ?_)
  obtain ⟨x, H1, I1, r1, a, xs, rfl, hx, q⟩ := z
  cases r1
  have step : PO X (some (.UnaryOp .USub (.Constant (.int 1) k p1) p2)) (tPart (tUn (rU fun i => .int (-i)) (tC (.int 1)))) := po_some (pe_un un_neg pe_int)
  refine wpAny_Slice (thn (po_none.run pins s1 σ H1 (fun o H2 => o = none ∧ H2 = H1) I1 ⟨rfl, rfl⟩) fun vl s2 z => ?_)
  obtain ⟨l, H2, I2, pl, rfl, rfl⟩ := z
  refine thn (po_none.run pins s2 σ H2 (fun o H3 => o = none ∧ H3 = H2) I2 ⟨rfl, rfl⟩) fun vu s3 z => ?_
  obtain ⟨u, H3, I3, pu, rfl, rfl⟩ := z
  refine thn (step.run pins s3 σ H3 (fun o H4 => o = some (-1) ∧ H4 = H3) I3 ⟨1, rfl, -1, rfl, rfl, rfl⟩) fun vs s4 z => ?_
  obtain ⟨o, H4, I4, ps, rfl, rfl⟩ := z
  have I5 : L2.Inv X pins σ H4 { s4 with heap := s4.heap.push { cls := .type "slice", data := .fields #[vl, vu, vs] } } := I4.kept (t' := s4.toks) fun b ob q => Heap.get?_push_of_some _ q
  obtain ⟨its, r, ht, hz⟩ := I5.tuple hx
  have hlen := r.length
  show wpAny (model X.prog X.w) X.A (subscriptTail e (.Slice none none (some (.UnaryOp .USub (.Constant (.int 1) k p1) p2)) p3) (.ref a) (.ref s4.heap.objs.size)) (EP X pins σ Q) X.xe { s4 with heap := s4.heap.push { cls := .type "slice", data := .fields #[vl, vu, vs] } }
  refine tail_any (ops := [.ref a, .ref s4.heap.objs.size]) ht.typeIs (PyProof.Rows.slot_tuple_getitem.lookup) ?_ (by with_unfolding_all rfl)
  refine back_item ht (Heap.IsSliceOf.new _ vl vu vs) pl pu ps ?_ (by rw [List.size_toArray]; omega)
  refine ⟨.ref _, _, I5.laid (t' := s4.toks) (o := .tup xs.reverse) (fun b ob q => Heap.get?_push_of_some _ q) (Nat.le_refl _) ?_, rfl, q _ (I5.hok.fresh (Nat.le_refl _))⟩
  exact ⟨by rw [List.length_reverse]; exact hz, its.reverse, r.reverse, IsTup.new _ _⟩
/-- t == (), t a tuple of anything -/
def rEqE (K : PySem.W.Frag) : R2 := fun x y H Q => ∃ a b xs, x = .ref a ∧ y = .ref b ∧ SqT K H a xs ∧ SqT K H b [] ∧ Q (.bl xs.isEmpty) H
theorem op_eqE {X : Cx} (hu : X.A.units < cLine) : OpR X (compareOp .Eq) (rEqE X.K) := by
  intro pins s σ H x y v u Q I rx ry h
  obtain ⟨a, b, xs, rfl, rfl, ha, hb, q⟩ := h
  cases rx
  cases ry
  obtain ⟨its, r, p1, _⟩ := I.tuple ha
  obtain ⟨its2, r2, p2, _⟩ := I.tuple hb
  cases r2
  refine SeqAt.eq_tupleAt (e := fun _ => true) p1 p2 hu (fun j h1 h2 => absurd h2 (by simp)) ?_
  have e : ((List.range (min its.toArray.size ([] : List Value).toArray.size)).all (fun _ => true) && its.toArray.size == ([] : List Value).toArray.size) = xs.isEmpty := by
    cases r <;> simp
  rw [e]
  exact ⟨.bl _, H, I, rfl, q⟩
section
variable {K : PySem.W.Frag} {σ : Sg} {H : Hp} {te ta tb tc ti : TE} {tl th : TO} {t : TA} {d r : D} {ds es : List D} {B : Addr → Bool}
theorem mk_eqE (h : Mk K ta σ H (.tup ds)) : Mk K (tOp (rEqE K) ta (tTup tNil)) σ H (.bl ds.isEmpty) := fun H1 s Q q => h H1 s _ fun v H2 s2 a => by
  refine ⟨sz1 (Nat.zero_le _), fun p np => ?_⟩
  cases a with
  | @tup b xs _ e aa =>
    refine ⟨b, p, xs, rfl, rfl, gr_T (same_new np) e, SqT.of upd_same, ?_⟩
    have : xs.isEmpty = ds.isEmpty := by
      have := aa.len
      cases xs <;> cases ds <;> simp_all
    rw [this]
    exact q _ _ (s2.trans (same_new np)) (.bl _)
/-- a part of a slice that is known -/
def MkO (tl : TO) (σ : Sg) (H : Hp) (o : Option Int) : Prop := ∀ H1, Same H H1 → ∀ Q : Option Int → Hp → Prop, (∀ H2, Same H1 H2 → Q o H2) → tl σ H1 Q
theorem mo_no : MkO tNoPart σ H none := fun H1 _ Q q => q H1 Gr.rfl'
theorem mo_int {i : Int} (h : Mk K ta σ H (.int i)) : MkO (tPart ta) σ H (some i) := fun H1 s Q q => h H1 s _ fun v H2 s2 a => by
  cases a
  exact ⟨i, rfl, q H2 s2⟩
def cutD (xs : List D) (lo hi : Option Int) : List D := (xs.drop (HT.sIx xs.length 0 lo)).take (HT.sIx xs.length xs.length hi - HT.sIx xs.length 0 lo)
theorem DtA.drop {vs : List V} : ∀ {ds : List D}, DtA K H vs ds → ∀ n, DtA K H (vs.drop n) (ds.drop n) := by
  induction vs with
  | nil => intro ds h n; cases h; simpa using DtA.nil
  | cons v vs ih =>
    intro ds h n
    cases h with
    | cons a b =>
      cases n with
      | zero => exact .cons a b
      | succ n => exact ih b n
theorem DtA.take {vs : List V} : ∀ {ds : List D}, DtA K H vs ds → ∀ n, DtA K H (vs.take n) (ds.take n) := by
  induction vs with
  | nil => intro ds h n; cases h; simpa using DtA.nil
  | cons v vs ih =>
    intro ds h n
    cases h with
    | cons a b =>
      cases n with
      | zero => exact .nil
      | succ n => exact .cons a (ih b n)
theorem DtA.rev {vs : List V} : ∀ {ds : List D}, DtA K H vs ds → DtA K H vs.reverse ds.reverse := by
  induction vs with
  | nil => intro ds h; cases h; exact .nil
  | cons v vs ih =>
    intro ds h
    cases h with
    | cons a b =>
      rw [List.reverse_cons, List.reverse_cons]
      exact (ih b).app (.cons a .nil)
theorem cut_whole {xs : List D} {lo hi : Option Int} (h : HT.sIx xs.length 0 lo = 0 ∧ HT.sIx xs.length xs.length hi = xs.length) : cutD xs lo hi = xs := by
  unfold cutD
  rw [h.1, h.2]
  simp
/-- the same, apart from what stands in B -/
theorem kb_sl {lo hi : Option Int} (hB : ∀ b, B b = true → H b ≠ none) (h : MkB K B ta σ H (.tup ds)) (hl : MkO tl σ H lo) (hh : MkO th σ H hi) : MkB K B (tSl (rSlA K) ta tl th) σ H (.tup (cutD ds lo hi)) := fun H1 s Q q => h H1 s _ fun v H2 s2 a => hl H2 (s.trans s2) _ fun H3 s3 => hh H3 ((s.trans s2).trans s3) _ fun H4 s4 => by
  have a4 := a.gr (wo_same (s3.trans s4))
  cases a4 with
  | @tup b xs _ e aa =>
    have lx := aa.len
    refine ⟨b, xs, rfl, gr_T wo_le e, fun hw => ?_, fun hw p np => ?_⟩
    · rw [lx] at hw
      rw [cut_whole hw] at q
      exact q _ _ ((s2.trans s3).trans s4) (.tup e aa)
    · have sa := (s2.trans s3).trans s4
      refine q _ _ (sa.trans (same_new np)) (.tup (SqT.of (by rw [wo_at (apart hB (s.trans sa) np), upd_same])) ?_)
      have := ((aa.drop (HT.sIx xs.length 0 lo)).take (HT.sIx xs.length xs.length hi - HT.sIx xs.length 0 lo)).gr (wo_same (B := B) (same_new (o := .tup (cutV xs lo hi)) np))
      unfold cutD
      rw [lx] at this
      unfold cutV at this ⊢
      rw [lx] at this ⊢
      exact this
theorem kb_catA (hB : ∀ b, B b = true → H b ≠ none) (h : MkB K B ta σ H (.tup ds)) (h2 : MkB K B tb σ H (.tup es)) (z : ds.length + es.length ≤ 100000) : MkB K B (tOp (rCatA K) ta tb) σ H (.tup (ds ++ es)) := fun H1 s Q q => h H1 s _ fun v H2 s2 a => h2 H2 (s.trans s2) _ fun u H3 s3 c => by
  have a3 := a.gr (wo_same s3)
  cases a3 with
  | @tup p xs _ e aa =>
  cases c with
  | @tup r ys _ e2 cc =>
    have lx := aa.len
    have ly := cc.len
    refine ⟨p, r, xs, ys, rfl, rfl, gr_T wo_le e, gr_T wo_le e2, by rw [lx, ly]; exact sz1 z, fun hx => ?_, fun hx hy => ?_, fun hx hy w nw => ?_⟩
    · subst hx
      cases aa
      exact q _ _ (s2.trans s3) (.tup e2 cc)
    · subst hy
      cases cc
      rw [List.append_nil] at q
      exact q _ _ (s2.trans s3) (.tup e aa)
    · exact q _ _ ((s2.trans s3).trans (same_new nw)) (.tup (SqT.of (by rw [wo_at (apart hB ((s.trans s2).trans s3) nw), upd_same])) ((aa.app cc).gr (wo_same (same_new nw))))
theorem kb_back (hB : ∀ b, B b = true → H b ≠ none) (h : MkB K B ta σ H (.tup ds)) : MkB K B (tBack K ta) σ H (.tup ds.reverse) := fun H1 s Q q => h H1 s _ fun v H2 s2 a => by
  cases a with
  | @tup p xs _ e aa => exact ⟨p, xs, rfl, gr_T wo_le e, fun w nw => q _ _ (s2.trans (same_new nw)) (.tup (SqT.of (by rw [wo_at (apart hB (s.trans s2) nw), upd_same])) (aa.rev.gr (wo_same (same_new nw))))⟩
theorem kb_listT (hB : ∀ b, B b = true → H b ≠ none) (h : MkB K B ta σ H (.tup ds)) : MkB K B (tCB (fun xs H Q => ∃ p ys, xs = [.ref p] ∧ (SqL K H p ys ∨ SqT K H p ys) ∧ ∀ l, H l = none → Q (.ref l) (upd H l (.lst ys))) (tCons ta tNil)) σ H (.lst ds) := fun H1 s Q q => h H1 s _ fun v H2 s2 a => by
  cases a with
  | @tup p xs ds e aa => exact ⟨p, xs, rfl, Or.inr (gr_T wo_le e), fun l nl => q _ _ (s2.trans (same_new nl)) (.lst (by rw [wo_at (apart hB (s.trans s2) nl), upd_same]) (aa.gr (wo_same (same_new nl))))⟩
theorem kb_ixT {i : Nat} (h : MkB K B ta σ H (.tup ds)) (h2 : MkB K B tb σ H (.int (i : Int))) (e : ds[i]? = some d) : MkB K B (tOp (rIxT K) ta tb) σ H d := fun H1 s Q q => h H1 s _ fun v H2 s2 a => h2 H2 (s.trans s2) _ fun u H3 s3 b => by
  cases b
  have a3 := a.gr (wo_same s3)
  cases a3 with
  | @tup p xs _ el aa =>
    obtain ⟨x, hx, ax⟩ := aa.nth e
    exact ⟨p, xs, (i : Int), x, rfl, rfl, gr_T wo_le el, atI_nat hx, q x _ (s2.trans s3) ax⟩
theorem MkB.mk (h : MkB K B ta σ H d) : Mk K ta σ H d := fun H1 s Q q => h H1 s _ fun v H2 s2 a => q v H2 s2 (a.gr wo_le)
theorem mkb0 (h : Mk K ta σ H d) : MkB K (fun _ => false) ta σ H d := fun H1 s Q q => h H1 s _ fun v H2 s2 a => q v H2 s2 (a.gr fun b o e => by unfold wo; rw [if_neg (by simp)]; exact e)
theorem no0 : ∀ b : Addr, (fun _ : Addr => false) b = true → H b ≠ none := fun b z => by cases z
theorem mk_sl {lo hi : Option Int} (h : Mk K ta σ H (.tup ds)) (hl : MkO tl σ H lo) (hh : MkO th σ H hi) : Mk K (tSl (rSlA K) ta tl th) σ H (.tup (cutD ds lo hi)) := (kb_sl no0 (mkb0 h) hl hh).mk
theorem mk_catA (h : Mk K ta σ H (.tup ds)) (h2 : Mk K tb σ H (.tup es)) (z : ds.length + es.length ≤ 100000) : Mk K (tOp (rCatA K) ta tb) σ H (.tup (ds ++ es)) := (kb_catA no0 (mkb0 h) (mkb0 h2) z).mk
theorem mk_repT {k : Int} (h : Mk K ta σ H (.tup ds)) (h2 : Mk K tb σ H (.int k)) (ne : ds ≠ []) (k2 : 2 ≤ k) (k1 : k ≤ 1000) (z : ds.length ≤ 1000) : Mk K (tOp (rRepT K) ta tb) σ H (.tup (List.replicate k.toNat ds).flatten) := fun H1 s Q q => h H1 s _ fun v H2 s2 a => h2 H2 (s.trans s2) _ fun u H3 s3 b => by
  cases b
  cases a with
  | @tup p xs _ e aa =>
    have lx := aa.len
    refine ⟨p, k, xs, rfl, rfl, gr_T s3 e, fun x => ne ?_, k2, k1, by omega, fun w nw => ?_⟩
    · subst x; cases aa; rfl
    · exact q _ _ ((s2.trans s3).trans (same_new nw)) (.tup (SqT.of upd_same) (DtA.gr ((s3).trans (same_new nw)) (aa.rep k.toNat)))
end
end TSx

/-! Own layer, part T2: more readings over data. -/
namespace TSx
open PySem L2
/-- int(k), k a bool -/
def rIntB : List V → Hp → VK → Prop := fun xs H Q => ∃ k, xs = [.bl k] ∧ Q (.int (if k then 1 else 0)) H
theorem call_intB {X : Cx} : CallR X (.type "int") rIntB := fun pins s σ H xs us Q I r h => by
  obtain ⟨i, e, q⟩ := h
  exact call_int1 pins s σ H xs us Q I r (Or.inr ⟨i, e, q⟩)
section
variable {K : PySem.W.Frag} {σ : Sg} {H : Hp} {te ta tb tc ti : TE} {tt uu : TT} {t : TA} {d r : D} {ds es : List D} {B : Addr → Bool}
theorem mk_intB {k : Bool} (h : Mk K ta σ H (.bl k)) : Mk K (tCB rIntB (tCons ta tNil)) σ H (.int (if k then 1 else 0)) := fun H1 s Q q => h H1 s _ fun v H2 s2 a => by
  cases a
  exact ⟨k, rfl, q _ H2 s2 (.int _)⟩
theorem mk_intI {i : Int} (h : Mk K ta σ H (.int i)) : Mk K (tCB rInt (tCons ta tNil)) σ H (.int i) := fun H1 s Q q => h H1 s _ fun v H2 s2 a => by
  cases a
  exact ⟨i, rfl, q _ H2 s2 (.int _)⟩
theorem mk_notInT {x : Str} {ws : List Str} (h : Mk K ta σ H (.str x)) (h2 : Mk K tb σ H (.tup (ws.map D.str))) : Mk K (tOp (rIn K true) ta tb) σ H (.bl (!ws.any fun y => y == x)) := fun H1 s Q q => h H1 s _ fun v H2 s2 a => h2 H2 (s.trans s2) _ fun u H3 s3 b => by
  cases a
  cases b with
  | @tup p xs _ e aa =>
    obtain ⟨h3, h4⟩ := inV_str x aa
    refine ⟨p, xs, rfl, Or.inr e, rfl, h4, ?_⟩
    rw [if_pos rfl, h3]
    exact q _ H3 (s2.trans s3) (.bl _)
/-- [x] * int(b) -/
theorem mk_rep1 {b : Bool} (h : Mk K ta σ H d) (h2 : Mk K tb σ H (.bl b)) : Mk K (tOp rRep (tLst (tCons ta tNil)) (tCB rIntB (tCons tb tNil))) σ H (.lst (if b then [d] else [])) := by
  have q := mk_rep (K := K) (mk_lst (mka_cons h mka_nil) (show 1 ≤ 100000 by decide)) (mk_intB h2) (by cases b <;> decide) (by cases b <;> decide) (show 1 ≤ 100 by decide)
  have e : (List.replicate (if b = true then (1 : Int) else 0).toNat [d]).flatten = (if b = true then [d] else []) := by cases b <;> rfl
  rw [e] at q
  exact q
/-- while, the test known -/
theorem while_mk {c : TT} {tb : TS} {D : Ends} {σ : Sg} {H : Hp} (Pv : Sg → Hp → Prop) (μ : Sg → Hp → Nat) (b : Sg → Hp → Bool) (h0 : Pv σ H) (ht : ∀ σ H, Pv σ H → MkT c σ H (b σ H))
    (hs : ∀ σ H H1, Pv σ H → Same H H1 → b σ H = true → tb { D with nx := fun σ' H' => Pv σ' H' ∧ μ σ' H' < μ σ H, ct := fun σ' H' => Pv σ' H' ∧ μ σ' H' < μ σ H, bk := D.nx } σ H1)
    (hd : ∀ σ H H1, Pv σ H → Same H H1 → b σ H = false → D.nx σ H1) : tWhile c tb D σ H := by
  refine ⟨fun m σ H => m = μ σ H ∧ Pv σ H, ⟨_, rfl, h0⟩, ?_⟩
  rintro m σ H ⟨rfl, p⟩
  refine ht σ H p H Gr.rfl' _ fun H1 s1 => ?_
  cases e : b σ H with
  | true =>
    rw [if_pos rfl]
    exact ⟨fun σ' H' => Pv σ' H' ∧ μ σ' H' < μ σ H, fun σ' H' q => ⟨_, q.2, rfl, q.1⟩, hs σ H H1 p s1 e⟩
  | false =>
    rw [if_neg (by decide)]
    exact hd σ H H1 p s1 e
theorem fm_bind {α β : Type} (f : α → Option β) : ∀ l : List α, (List.range l.length).filterMap (fun k => (l[k]?).bind f) = l.filterMap f
  | [] => rfl
  | a :: l => by
    rw [List.length_cons, List.range_succ_eq_map, List.filterMap_cons, List.filterMap_map]
    have ih := fm_bind f l
    have e : (List.range l.length).filterMap ((fun k => ((a :: l)[k]?).bind f) ∘ Nat.succ) = (List.range l.length).filterMap (fun k => (l[k]?).bind f) := rfl
    rw [e, ih, List.filterMap_cons]
    rfl
/-- [e for x in list if t], the things made without parts -/
theorem mk_lcFL {i : Nat} {f : D → Option D} (h : ∀ H1, Same H H1 → Ev K ti σ H1 (.lst ds)) (sc : ∀ d ∈ ds, ∀ x, f d = some x → x.sc = true) (hl : ds.length ≤ 1000)
    (step : ∀ d ∈ ds, ∀ x H1, Same H H1 → Dt K H1 x d → (∀ y, f d = some y → MkT tt ((σ.set i none).set i (some x)) H1 true ∧ Mk K te ((σ.set i none).set i (some x)) H1 y) ∧ (f d = none → MkT tt ((σ.set i none).set i (some x)) H1 false)) :
    Mk K (tLc (iList K ti) (gName i) tt te [i]) σ H (.lst (ds.filterMap f)) := fun H1 s Q q => by
  obtain ⟨v, a, k⟩ := h H1 s
  refine k _ ?_
  cases a with
  | @lst p xs _ e aa =>
    have lx := aa.len
    refine ⟨p, rfl, ⟨xs, SqL.of e⟩, fun L nL => lc_flat (K := K) (walk_list (K := K) (a := p) (xs := xs)) (fun k => (ds[k]?).bind f) (fun k d hk => ?_) nL (fun H' s' => SqL.of (s' _ _ e)) (by omega) ?_ ?_⟩
    · cases hd : ds[k]? with
      | none => rw [hd] at hk; cases hk
      | some y => rw [hd] at hk; exact sc y (List.mem_of_getElem? hd) d hk
    · rintro k x H' H'' hk s' ⟨rfl, hx⟩
      obtain ⟨y, hy, ay⟩ := aa.at hx
      obtain ⟨z1, z2⟩ := step y (List.mem_of_getElem? hy) x _ (s.trans s') (ay.gr s')
      refine ⟨Gr.rfl', fun R r => r_name (r _ ?_ (fun d hd => ?_) fun hd => ?_)⟩
      · show ((σ.set i none).set i (some x)).set i none = σ.set i none
        rw [List.set_set, List.set_set]
      · rw [hy] at hd
        exact z1 d hd
      · rw [hy] at hd
        exact z2 hd
    · intro H' ys s' e' a'
      refine q _ _ s' (.lst e' ?_)
      rw [lx, fm_bind] at a'
      exact a'
/-- [k for k in range(n) if t] -/
theorem mk_lcRF {i n : Nat} {p : Nat → Bool} (hi : i < σ.length) (hn : Mk K ta σ H (.int (n : Int))) (hz : n ≤ 1000) (step : ∀ k, k < n → ∀ H1, Same H H1 → MkT tt ((σ.set i none).set i (some (.int (k : Int)))) H1 (p k)) :
    Mk K (tLc (iRng1 (tCons ta tNil)) (gName i) tt (tVar i) [i]) σ H (.lst (((List.range n).filter p).map fun k => .int (k : Nat))) := fun H1 s Q q => hn H1 s _ fun v H2 s2 a => by
  cases a
  refine ⟨(n : Int), rfl, by omega, by omega, fun L nL => ?_⟩
  have st : ((n : Int)).toNat = n := by omega
  rw [st]
  refine lc_flat (K := K) (walk_range (lo := 0) (n := n)) (fun k => if k < n then (if p k then some (.int (k : Nat)) else none) else none) (fun k d hk => ?_) nL (fun _ _ => trivial) hz ?_ ?_
  · split at hk
    · split at hk
      · cases hk; rfl
      · cases hk
    · cases hk
  · rintro k x H' H'' hk s' ⟨rfl, rfl⟩
    have st := step k hk H'' ((s.trans s2).trans s')
    have z0 : ((fun i : Nat => V.int (0 + (i : Int))) k) = V.int (k : Int) := by show V.int (0 + (k : Int)) = _; rw [Int.zero_add]
    rw [z0]
    refine ⟨Gr.rfl', fun R r => r_name (r _ ?_ (fun d hd => ?_) fun hd => ?_)⟩
    · show ((σ.set i none).set i (some _)).set i none = σ.set i none
      rw [List.set_set, List.set_set]
    · rw [if_pos hk] at hd
      cases e : p k with
      | false => rw [e] at hd; cases hd
      | true =>
        rw [e] at hd
        cases hd
        rw [e] at st
        exact ⟨st, mk_var (by show ((σ.set i none).set i _)[i]? = _; rw [List.set_set]; exact List.getElem?_set_self hi) (.int _)⟩
    · rw [if_pos hk] at hd
      cases e : p k with
      | true => rw [e] at hd; cases hd
      | false => rw [e] at st; exact st
  · intro H' ys s' e' a'
    refine q _ _ (s2.trans s') (.lst e' ?_)
    have : (List.range n).filterMap (fun k => if k < n then (if p k then some (D.int (k : Nat)) else none) else none) = ((List.range n).filter p).map fun k => .int (k : Nat) := by
      rw [← List.filterMap_eq_map, List.filterMap_filter]
      refine fmc fun k hk => ?_
      rw [if_pos (List.mem_range.mp hk)]
      rfl
    rw [this] at a'
    exact a'
end
end TSx

namespace TSx
open PySem L2 LamX
local macro_rules | `(tactic| walk_at "rd") => `(tactic| repeat (first
  | ((with_reducible show tVar _ _ _ _); refine r_v rfl ?_)
  | with_reducible refine r_c ?_
  | with_reducible refine r_op ?_
  | with_reducible refine r_I0 ?_
  | with_reducible refine r_cb ?_
  | with_reducible refine r_nil ?_
  | with_reducible refine r_cons ?_
  | with_reducible refine r_seq ?_
  | with_reducible refine r_next ?_
  | with_reducible refine r_asg ?_
  | with_reducible refine r_name ?_
  | with_reducible refine r_ret ?_
  | with_reducible refine r_drop ?_
  | with_reducible refine r_if ?_
  | with_reducible refine r_test ?_
  | with_reducible refine r_bl ?_
  | with_reducible refine r_call ?_))
local macro_rules | `(tactic| walk_at "st") => `(tactic| repeat (first
  | with_reducible refine r_seq ?_
  | with_reducible refine r_next ?_
  | with_reducible refine r_asg ?_
  | with_reducible refine r_name ?_
  | with_reducible refine r_ret ?_
  | with_reducible refine r_drop ?_
  | with_reducible refine r_if ?_))
local macro_rules | `(tactic| walk_at "mk") => `(tactic| repeat (first
  | with_reducible exact mk_non
  | with_reducible exact mk_int
  | with_reducible exact mk_str
  | with_reducible exact mk_bl
  | with_reducible exact mk_dic
  | with_reducible exact mka_nil
  | with_reducible refine mka_cons ?_ ?_
  | ((with_reducible refine mk_tup ?_ ?hz); (case hz => decide))
  | ((with_reducible refine mk_lst ?_ ?hz); (case hz => decide))
  | with_reducible refine mk_neg ?_))
local macro_rules | `(tactic| walk_at "kb") => `(tactic| repeat (first
  | with_reducible exact kb_non
  | with_reducible exact kb_int
  | with_reducible exact kb_str
  | with_reducible exact kb_bl
  | with_reducible exact kb_dic (by assumption)
  | with_reducible exact kba_nil
  | with_reducible refine kba_cons ?_ ?_
  | ((with_reducible refine kb_tup (by assumption) ?_ ?hz); (case hz => decide))
  | ((with_reducible refine kb_lst (by assumption) ?_ ?hz); (case hz => decide))
  | with_reducible refine kb_neg ?_))
abbrev sHE : Stmt := top 45
theorem scHE : FnScope ["call", "error", "heard", "found", "caught"] ["call"] (defScope sHE) := ⟨rfl, rfl, rfl, by decide +kernel, rfl, by decide +kernel, by decide +kernel⟩
/-- the classes that are heard -/
structure HA where
  seat : Addr
  great : Addr
  house : Addr
  stand : Addr
  choices : Addr
  band : Addr
  number : Addr
  paper : Addr
structure HN (mg : Str → Option Value) (a : HA) : Prop where
  gSeatError : mg "SeatError" = some (.ref a.seat)
  gTooGreat : mg "TooGreat" = some (.ref a.great)
  gBadHouse : mg "BadHouse" = some (.ref a.house)
  gBadStand : mg "BadStand" = some (.ref a.stand)
  gBadChoices : mg "BadChoices" = some (.ref a.choices)
  gBadBand : mg "BadBand" = some (.ref a.band)
  gBadNumber : mg "BadNumber" = some (.ref a.number)
  gBadPaper : mg "BadPaper" = some (.ref a.paper)
/-- a class among them: the word that tells it, its field -/
structure HRow (K : PySem.W.Frag) (a : HA) (C : Addr) (fl word : Str) (j : Nat) : Prop where
  x : ExcC K C
  ex : PySem.W.exmAny K (.ref C) [.ref a.seat, .ref a.great] = some true
  k0 : PySem.W.kitOne K (.ref C) (.ref a.great) = some (decide (j = 0))
  k1 : PySem.W.kitOne K (.ref C) (.ref a.house) = some (decide (j = 1))
  k2 : PySem.W.kitOne K (.ref C) (.ref a.stand) = some (decide (j = 2))
  k3 : PySem.W.kitOne K (.ref C) (.ref a.choices) = some (decide (j = 3))
  k4 : PySem.W.kitOne K (.ref C) (.ref a.band) = some (decide (j = 4))
  k5 : PySem.W.kitOne K (.ref C) (.ref a.number) = some (decide (j = 5))
  k6 : PySem.W.kitOne K (.ref C) (.ref a.paper) = some (decide (j = 6))
  no : PySem.W.findIn K (.ref C) fl = some none
  w : ([("most", "great"), ("place", "house"), ("value", "stand"), ("place", "choices"), ("part", "band"), ("value", "number"), ("word", "paper")] : List (Str × Str))[j]? = some (fl, word)
/-- what is heard of a raised one -/
def HGood (K : PySem.W.Frag) (a : HA) (Q : VK) (cls : Value) (dd : Option Addr) (H' : Hp) : Prop := ∃ (C e : Addr) (fl word : Str) (j : Nat) (v : V) (r : D), cls = .ref C ∧ dd = some e ∧ H' e = some (.xd [(fl, v)]) ∧ Dt K H' v r ∧ HRow K a C fl word j ∧ ∀ v' H'', Same H' H'' → Dt K H'' v' (.tup [.str word, r]) → Q v' H''
def VGood (K : PySem.W.Frag) (Q : VK) (v : V) (H' : Hp) : Prop := ∃ r, Dt K H' v r ∧ ∀ v' H'', Same H' H'' → Dt K H'' v' (.lst [r]) → Q v' H''
def spHeard (K : PySem.W.Frag) (a : HA) : SpC := fun tl H Q => ∀ H2, Same H H2 → ∀ (E : XK) (Q' : VK), (∀ cls dd H', HGood K a Q cls dd H' → E cls dd H') → (∀ v H', VGood K Q v H' → Q' v H') → tl E H2 Q'
section
variable {P : Program} {w : World} {K : PySem.W.Frag} {mg : Str → Option Value} {base : Heap} {σ : Sg} {H : Hp} {te ta tb : TE} {tt : TT} {d : D} {a : HA}
theorem mk_ifV {b : Bool} (ht : MkT tt σ H b) (h1 : b = true → ∀ H1, Same H H1 → Mk K ta σ H1 d) (h2 : b = false → ∀ H1, Same H H1 → Mk K tb σ H1 d) : Mk K (tIf tt ta tb) σ H d := fun H1 s Q q => ht H1 s _ fun H2 s2 => by
  cases b with
  | true => exact iteT (h1 rfl H2 (s.trans s2) H2 Gr.rfl' _ fun v H3 s3 a => q v H3 (s2.trans s3) a)
  | false => exact iteF (h2 rfl H2 (s.trans s2) H2 Gr.rfl' _ fun v H3 s3 a => q v H3 (s2.trans s3) a)
theorem mk_wordX {C ai : Addr} {fl word fi wi : Str} {i j p q : Nat} {ds : List D} {r : D} (R : HRow K a C fl word j) (ki : PySem.W.kitOne K (.ref C) (.ref ai) = some (decide (j = i))) (w : ([("most", "great"), ("place", "house"), ("value", "stand"), ("place", "choices"), ("part", "band"), ("value", "number"), ("word", "paper")] : List (Str × Str))[i]? = some (fi, wi))
    (hx : Mk K (tVar q) σ H (.exc C [(fl, r)])) (hh : Mk K tb σ H (.lst ds)) (z : ds.length ≤ 1000) (hgr : ∀ H1, Same H H1 → Mk K (tVar q) σ H1 (.exc C [(fl, r)])) (hgb : ∀ H1, Same H H1 → Mk K tb σ H1 (.lst ds)) :
    Mk K (tIf (tB (tCB (rIsX K) (tCons (tVar q) (tCons (tC (.ref ai)) tNil)))) (tOp rCat tb (tLst (tCons (tTup (tCons (tC (.str wi)) (tCons (tXa K fi (tVar q)) tNil))) tNil))) tb) σ H (.lst (if j = i then ds ++ [.tup [.str word, r]] else ds)) := by
  refine mk_ifV (mt_B (mk_isX hx R.x ki (fun _ h => h))) (fun b H1 s1 => ?_) (fun b H1 s1 => ?_)
  · have e := of_decide_eq_true b
    subst e
    rw [if_pos rfl]
    have e2 := R.w.symm.trans w
    cases e2
    exact mk_cat (hgb H1 s1) (mk_lst (mka_cons (mk_tup (mka_cons mk_str (mka_cons (mk_xa (hgr H1 s1) R.x R.no (by simp [List.lookup])) mka_nil)) (show 2 ≤ 100000 by decide)) mka_nil) (show 1 ≤ 100000 by decide)) (by simp only [List.length_cons, List.length_nil]; omega)
  · rw [if_neg (of_decide_eq_false b)]
    exact hgb H1 s1
theorem ok_HE {g : Addr} {fd : FuncData} (F : L2.Fun K "_law_heard" "_law_heard" sHE g fd) (B : Blt mg) (T : HN mg a) (cdg : Value) (k : Nat) : GivesC P w K mg base k ["call", "error", "heard", "found", "caught"] "call" "_law_heard" (defScope sHE) (defBody sHE) g cdg (spHeard K a) := by
  intro A stack f s H Q tl Kn hr kn pcall hk h
  refine ⟨_, (pss_cons (ps_asg (pe_tup (pa_cons pe_non (pa_cons pe_non pa_nil))) (pg_tup rfl (pgs_cons (pg_name (i := 3) scHE.nd rfl (Or.inl rfl)) (pgs_cons (pg_name (i := 4) scHE.nd rfl (Or.inl rfl)) pgs_nil))))
  (pss_cons (ps_tryT2 (x1 := "SeatError") (x2 := "TooGreat") (n := "error") (i := 1) rfl rfl scHE.nd rfl (fun W pn xe tk _ => pss_one (ps_set (i := 3) scHE.nd rfl (Or.inl rfl) (pcall W pn xe _ _ tk))) ⟨rfl, by decide, Or.inl T.gSeatError⟩ ⟨rfl, by decide, Or.inl T.gTooGreat⟩ rfl rfl (fun a pn => (pss_one (ps_set (i := 4) scHE.nd rfl (Or.inl rfl) (pv 1)))))
  (pss_cons (ps_if (pt_cmpR op_isN (pv 4) pe_non (nomark _)) (pss_one (ps_ret (pe_lst (pa_cons (pv 3) pa_nil)))) pss_nil)
  (pss_cons (ps_set (i := 2) scHE.nd rfl (Or.inl rfl) (pe_ifExp (pt_val (pe_callB call_isX (by rfl) B.isinstance PyProof.Rows.boot_isinstance (pa_cons (pv 4) (pa_cons (pe_cls rfl T.gTooGreat) pa_nil)))) (pe_lst (pa_cons (pe_tup (pa_cons pe_str (pa_cons (pe_xa (pv 4)) pa_nil))) pa_nil)) (pe_lst pa_nil)))
  (pss_cons (ps_set (i := 2) scHE.nd rfl (Or.inl rfl) (pe_ifExp (pt_val (pe_callB call_isX (by rfl) B.isinstance PyProof.Rows.boot_isinstance (pa_cons (pv 4) (pa_cons (pe_cls rfl T.gBadHouse) pa_nil)))) (pe_op op_cat (pv 2) (pe_lst (pa_cons (pe_tup (pa_cons pe_str (pa_cons (pe_xa (pv 4)) pa_nil))) pa_nil))) (pv 2)))
  (pss_cons (ps_set (i := 2) scHE.nd rfl (Or.inl rfl) (pe_ifExp (pt_val (pe_callB call_isX (by rfl) B.isinstance PyProof.Rows.boot_isinstance (pa_cons (pv 4) (pa_cons (pe_cls rfl T.gBadStand) pa_nil)))) (pe_op op_cat (pv 2) (pe_lst (pa_cons (pe_tup (pa_cons pe_str (pa_cons (pe_xa (pv 4)) pa_nil))) pa_nil))) (pv 2)))
  (pss_cons (ps_set (i := 2) scHE.nd rfl (Or.inl rfl) (pe_ifExp (pt_val (pe_callB call_isX (by rfl) B.isinstance PyProof.Rows.boot_isinstance (pa_cons (pv 4) (pa_cons (pe_cls rfl T.gBadChoices) pa_nil)))) (pe_op op_cat (pv 2) (pe_lst (pa_cons (pe_tup (pa_cons pe_str (pa_cons (pe_xa (pv 4)) pa_nil))) pa_nil))) (pv 2)))
  (pss_cons (ps_set (i := 2) scHE.nd rfl (Or.inl rfl) (pe_ifExp (pt_val (pe_callB call_isX (by rfl) B.isinstance PyProof.Rows.boot_isinstance (pa_cons (pv 4) (pa_cons (pe_cls rfl T.gBadBand) pa_nil)))) (pe_op op_cat (pv 2) (pe_lst (pa_cons (pe_tup (pa_cons pe_str (pa_cons (pe_xa (pv 4)) pa_nil))) pa_nil))) (pv 2)))
  (pss_cons (ps_set (i := 2) scHE.nd rfl (Or.inl rfl) (pe_ifExp (pt_val (pe_callB call_isX (by rfl) B.isinstance PyProof.Rows.boot_isinstance (pa_cons (pv 4) (pa_cons (pe_cls rfl T.gBadNumber) pa_nil)))) (pe_op op_cat (pv 2) (pe_lst (pa_cons (pe_tup (pa_cons pe_str (pa_cons (pe_xa (pv 4)) pa_nil))) pa_nil))) (pv 2)))
  (pss_cons (ps_set (i := 2) scHE.nd rfl (Or.inl rfl) (pe_ifExp (pt_val (pe_callB call_isX (by rfl) B.isinstance PyProof.Rows.boot_isinstance (pa_cons (pv 4) (pa_cons (pe_cls rfl T.gBadPaper) pa_nil)))) (pe_op op_cat (pv 2) (pe_lst (pa_cons (pe_tup (pa_cons pe_str (pa_cons (pe_xa (pv 4)) pa_nil))) pa_nil))) (pv 2)))
  (pss_one (ps_ret (pe_ifExp (pt_cmpR op_eq (pe_callB call_len_seq (by rfl) B.len PySem.boot_len (pa_cons (pv 2) pa_nil)) pe_int (nomark _)) (pe_ix ix_list (pv 2) pe_int (fun _ _ => rfl)) (pe_tup (pa_cons pe_str pa_nil))))))))))))))), ?_⟩
  walk_at "st"
  refine r_tup (r_cons (r_c (r_cons (r_c (r_nil ⟨sz1 (show 2 ≤ 100000 by decide), fun p np => ?_⟩)))))
  have s1 : Same H (upd H p (.tup [.non, .non])) := same_new np
  have aT : Dt K (upd H p (.tup [.non, .non])) (.ref p) (.tup [.non, .non]) := .tup (SqT.of upd_same) (.cons .non (.cons .non .nil))
  generalize upd H p (.tup [.non, .non]) = H1 at s1 aT ⊢
  refine r_unp2 aT fun u1 u2 f1 f2 => ?_
  cases f1
  cases f2
  walk_at "st"
  refine ⟨rfl, kn _ _ hk (ExtN.of s1), h H1 s1 _ _ (fun cls dd H2 hg => ?_) (fun v H2 hg => ?_)⟩
  · obtain ⟨C, e, fl, word, j, v, r, rfl, rfl, hx, av, R, k⟩ := hg
    refine ⟨R.ex, C, e, rfl, rfl, fun x nx => ?_⟩
    have s2 : Same H2 (upd H2 x (exq x C e)) := same_new nx
    have aX : Dt K (upd H2 x (exq x C e)) (.ref x) (.exc C [(fl, r)]) := .exc (d := e) (xs := [(fl, v)]) upd_same (s2 _ _ hx) (.cons (av.gr s2) .nil)
    generalize upd H2 x (exq x C e) = H3 at s2 aX ⊢
    walk_at "st"
    refine r_v rfl (r_name ?_)
    walk_at "rd"
    refine ⟨rfl, _, rfl, r_ifF (decide_eq_false fun z => nomatch z) ?_⟩
    walk_at "st"
    have mx : ∀ {σ : Sg} {H9 : Hp}, σ[4]? = some (some (.ref x)) → Same H3 H9 → Mk K (tVar 4) σ H9 (.exc C [(fl, r)]) := fun e s9 => mk_var e (aX.gr s9)
    refine mk_ifV (K := K) (d := .lst (if j = 0 then [.tup [.str word, r]] else [])) (mt_B (mk_isX (c := .ref a.great) (mx rfl Gr.rfl') R.x R.k0 (fun _ h => h))) (fun b H1 s1 => ?_) (fun b H1 s1 => ?_) H3 Gr.rfl' _ fun v0 H10 s10 a10 => ?_
    · have e0 := of_decide_eq_true b
      subst e0
      have e2 := R.w
      cases e2
      exact mk_lst (mka_cons (mk_tup (mka_cons mk_str (mka_cons (mk_xa (mx rfl s1) R.x R.no (by simp [List.lookup])) mka_nil)) (show 2 ≤ 100000 by decide)) mka_nil) (show 1 ≤ 100000 by decide)
    · rw [if_neg (of_decide_eq_false b)]
      exact mk_lst mka_nil (show 0 ≤ 100000 by decide)
    have l0 : (if j = 0 then [D.tup [.str word, r]] else []).length ≤ 1 := by split <;> simp
    generalize q0 : (if j = 0 then [D.tup [.str word, r]] else []) = d0 at a10 l0
    walk_at "st"
    refine mk_wordX (K := K) (a := a) (p := 0) R R.k1 (i := 1) rfl (mx rfl s10) (mk_var (n := 2) rfl a10) (by omega) (fun H9 s9 => mx rfl (s10.trans s9)) (fun H9 s9 => mk_var (n := 2) rfl (a10.gr s9)) H10 Gr.rfl' _ fun v1 H11 s11' a11 => ?_
    have s11 := s10.trans s11'
    have l1 : (if j = 1 then d0 ++ [D.tup [.str word, r]] else d0).length ≤ 2 := by
      split
      · rw [List.length_append]; simp only [List.length_cons, List.length_nil]; omega
      · omega
    generalize q1 : (if j = 1 then d0 ++ [D.tup [.str word, r]] else d0) = d1 at a11 l1
    walk_at "st"
    refine mk_wordX (K := K) (a := a) (p := 0) R R.k2 (i := 2) rfl (mx rfl s11) (mk_var (n := 2) rfl a11) (by omega) (fun H9 s9 => mx rfl (s11.trans s9)) (fun H9 s9 => mk_var (n := 2) rfl (a11.gr s9)) H11 Gr.rfl' _ fun v2 H12 s12' a12 => ?_
    have s12 := s11.trans s12'
    have l2 : (if j = 2 then d1 ++ [D.tup [.str word, r]] else d1).length ≤ 3 := by
      split
      · rw [List.length_append]; simp only [List.length_cons, List.length_nil]; omega
      · omega
    generalize q2 : (if j = 2 then d1 ++ [D.tup [.str word, r]] else d1) = d2 at a12 l2
    walk_at "st"
    refine mk_wordX (K := K) (a := a) (p := 0) R R.k3 (i := 3) rfl (mx rfl s12) (mk_var (n := 2) rfl a12) (by omega) (fun H9 s9 => mx rfl (s12.trans s9)) (fun H9 s9 => mk_var (n := 2) rfl (a12.gr s9)) H12 Gr.rfl' _ fun v3 H13 s13' a13 => ?_
    have s13 := s12.trans s13'
    have l3 : (if j = 3 then d2 ++ [D.tup [.str word, r]] else d2).length ≤ 4 := by
      split
      · rw [List.length_append]; simp only [List.length_cons, List.length_nil]; omega
      · omega
    generalize q3 : (if j = 3 then d2 ++ [D.tup [.str word, r]] else d2) = d3 at a13 l3
    walk_at "st"
    refine mk_wordX (K := K) (a := a) (p := 0) R R.k4 (i := 4) rfl (mx rfl s13) (mk_var (n := 2) rfl a13) (by omega) (fun H9 s9 => mx rfl (s13.trans s9)) (fun H9 s9 => mk_var (n := 2) rfl (a13.gr s9)) H13 Gr.rfl' _ fun v4 H14 s14' a14 => ?_
    have s14 := s13.trans s14'
    have l4 : (if j = 4 then d3 ++ [D.tup [.str word, r]] else d3).length ≤ 5 := by
      split
      · rw [List.length_append]; simp only [List.length_cons, List.length_nil]; omega
      · omega
    generalize q4 : (if j = 4 then d3 ++ [D.tup [.str word, r]] else d3) = d4 at a14 l4
    walk_at "st"
    refine mk_wordX (K := K) (a := a) (p := 0) R R.k5 (i := 5) rfl (mx rfl s14) (mk_var (n := 2) rfl a14) (by omega) (fun H9 s9 => mx rfl (s14.trans s9)) (fun H9 s9 => mk_var (n := 2) rfl (a14.gr s9)) H14 Gr.rfl' _ fun v5 H15 s15' a15 => ?_
    have s15 := s14.trans s15'
    have l5 : (if j = 5 then d4 ++ [D.tup [.str word, r]] else d4).length ≤ 6 := by
      split
      · rw [List.length_append]; simp only [List.length_cons, List.length_nil]; omega
      · omega
    generalize q5 : (if j = 5 then d4 ++ [D.tup [.str word, r]] else d4) = d5 at a15 l5
    walk_at "st"
    refine mk_wordX (K := K) (a := a) (p := 0) R R.k6 (i := 6) rfl (mx rfl s15) (mk_var (n := 2) rfl a15) (by omega) (fun H9 s9 => mx rfl (s15.trans s9)) (fun H9 s9 => mk_var (n := 2) rfl (a15.gr s9)) H15 Gr.rfl' _ fun v6 H16 s16' a16 => ?_
    have s16 := s15.trans s16'
    have l6 : (if j = 6 then d5 ++ [D.tup [.str word, r]] else d5).length ≤ 7 := by
      split
      · rw [List.length_append]; simp only [List.length_cons, List.length_nil]; omega
      · omega
    generalize q6 : (if j = 6 then d5 ++ [D.tup [.str word, r]] else d5) = d6 at a16 l6
    walk_at "st"
    have all : d6 = [.tup [.str word, r]] := by
      have j7 : j < 7 := by
        rcases Nat.lt_or_ge j 7 with h | h
        · exact h
        · have := R.w
          rw [List.getElem?_eq_none (by simpa using h)] at this
          cases this
      rw [← q6, ← q5, ← q4, ← q3, ← q2, ← q1, ← q0]
      match j, j7 with
      | 0, _ => rfl
      | 1, _ => rfl
      | 2, _ => rfl
      | 3, _ => rfl
      | 4, _ => rfl
      | 5, _ => rfl
      | 6, _ => rfl
      | j + 7, h => omega
    subst all
    refine mk_ifV (K := K) (b := true) (d := .tup [.str word, r]) (mt_test (mk_eqI (i := 1) (j := 1) (mk_len (ds := [.tup [.str word, r]]) (mk_var (n := 2) rfl a16)) mk_int)) (fun _ H1 s1 => mk_ixL (i := 0) (mk_var (n := 2) rfl (a16.gr s1)) mk_int rfl) (fun z => by cases z) H16 Gr.rfl' _ fun v H20 s20 a20 => k v H20 (s2.trans (s16.trans s20)) a20
  · obtain ⟨r, av, k⟩ := hg
    refine r_name ?_
    walk_at "rd"
    refine ⟨rfl, _, rfl, r_ifT (decide_eq_true rfl) ?_⟩
    walk_at "st"
    refine mk_lst (K := K) (ds := [r]) (mka_cons (mk_var (n := 3) rfl av) mka_nil) (show 1 ≤ 100000 by decide) H2 Gr.rfl' _ fun v' H20 s20 a20 => k v' H20 s20 a20
end
end TSx

/-! Own layer, part S2: the round, as it is counted up. -/
namespace TSx
open PySem L2
def termI : D → Int
  | .tup (.int t :: _) => t
  | _ => 1
def termsB : D → List Int
  | .tup ss => ss.map termI
  | _ => []
def termsH (bs : List D) : List Int := (bs.map termsB).flatten
theorem terms_ok {bs : List D} (h : ∀ b ∈ bs, tmB b) : ∀ t ∈ termsH bs, 1 ≤ t ∧ t ≤ 6 := fun t ht => by
  obtain ⟨l, hl, hm⟩ := List.mem_flatten.mp ht
  obtain ⟨b, hb, rfl⟩ := List.mem_map.mp hl
  obtain ⟨ss, rfl, hs⟩ := h b hb
  obtain ⟨s, hs', rfl⟩ := List.mem_map.mp hm
  obtain ⟨t, r, rfl, h1, h6⟩ := hs s hs'
  exact ⟨h1, h6⟩
theorem lcB_dvd {ss : List D} {x : Nat} : ∀ {c : Nat}, (∀ s ∈ ss, ∃ (t : Int) (r : List D), s = .tup (.int t :: r) ∧ 1 ≤ t ∧ t ≤ 6) → ((ss.foldl (fun c s => (Nat.lcm 1 c).lcm (termD s)) c) ∣ x ↔ c ∣ x ∧ ∀ t ∈ ss.map termI, t.toNat ∣ x) := by
  induction ss with
  | nil => intro c _; simp
  | cons s l ih =>
    intro c a
    obtain ⟨t, r, rfl, h1, h6⟩ := a s (List.mem_cons_self ..)
    have q := ih (c := (Nat.lcm 1 c).lcm (termD (.tup (.int t :: r)))) fun y hy => a y (List.mem_cons_of_mem _ hy)
    rw [List.foldl_cons, q, Nat.lcm_one_left, Nat.lcm_dvd_iff]
    simp only [List.map_cons, List.mem_cons, forall_eq_or_imp]
    constructor
    · rintro ⟨⟨h1, h2⟩, h3⟩; exact ⟨h1, h2, h3⟩
    · rintro ⟨h1, h2, h3⟩; exact ⟨⟨h1, h2⟩, h3⟩
theorem lcF_dvd {bs : List D} {x : Nat} : ∀ {c : Nat}, (∀ b ∈ bs, tmB b) → (bs.foldl lcB c ∣ x ↔ c ∣ x ∧ ∀ t ∈ termsH bs, t.toNat ∣ x) := by
  induction bs with
  | nil => intro c _; simp [termsH]
  | cons b l ih =>
    intro c a
    obtain ⟨ss, rfl, hs⟩ := a b (List.mem_cons_self ..)
    have q := ih (c := lcB c (.tup ss)) fun y hy => a y (List.mem_cons_of_mem _ hy)
    have p := lcB_dvd (x := x) (c := c) hs
    rw [List.foldl_cons, q]
    show ((ss.foldl _ c) ∣ x ∧ _) ↔ _
    rw [p]
    have e : termsH (.tup ss :: l) = ss.map termI ++ termsH l := rfl
    rw [e]
    simp only [List.mem_append]
    constructor
    · rintro ⟨⟨h1, h2⟩, h3⟩
      exact ⟨h1, fun t ht => ht.elim (h2 t) (h3 t)⟩
    · rintro ⟨h1, h2⟩
      exact ⟨⟨h1, fun t ht => h2 t (Or.inl ht)⟩, fun t ht => h2 t (Or.inr ht)⟩
theorem lcH_dvd {bs : List D} {x : Nat} (h : ∀ b ∈ bs, tmB b) : lcH bs ∣ x ↔ ∀ t ∈ termsH bs, t.toNat ∣ x := by
  have := lcF_dvd (x := x) (c := 1) h
  rw [show lcH bs = bs.foldl lcB 1 from rfl, this]
  simp
theorem lcH_pos {bs : List D} (h : ∀ b ∈ bs, tmB b) : 1 ≤ lcH bs ∧ lcH bs ≤ 60 := by
  have := lcF_60 (c := 1) (by decide) h
  exact ⟨Nat.pos_of_dvd_of_pos this (by decide), Nat.le_of_dvd (by decide) this⟩
/-- whether some term does not come round -/
def outOf (ts : List Int) (f : Int) : List Int := ts.filter fun t => !decide (f % t = 0)
theorem outOf_nil {bs : List D} (h : ∀ b ∈ bs, tmB b) {f : Nat} : outOf (termsH bs) (f : Int) = [] ↔ lcH bs ∣ f := by
  rw [lcH_dvd h]
  unfold outOf
  rw [List.filter_eq_nil_iff]
  constructor
  · intro a t ht
    have z := a t ht
    obtain ⟨h1, h6⟩ := terms_ok h t ht
    simp only [Bool.not_eq_true', decide_eq_false_iff_not, Decidable.not_not] at z
    have d : t ∣ (f : Int) := Int.dvd_of_emod_eq_zero z
    obtain ⟨n, rfl⟩ : ∃ n : Nat, t = (n : Int) := ⟨t.toNat, by omega⟩
    exact Int.natCast_dvd_natCast.mp d
  · intro a t ht
    have z := a t ht
    obtain ⟨h1, h6⟩ := terms_ok h t ht
    obtain ⟨n, rfl⟩ : ∃ n : Nat, t = (n : Int) := ⟨t.toNat, by omega⟩
    have d : (n : Int) ∣ (f : Int) := Int.natCast_dvd_natCast.mpr z
    simp only [Bool.not_eq_true', decide_eq_false_iff_not, Decidable.not_not]
    exact Int.emod_eq_zero_of_dvd d
/-- counted up: nowhere past it -/
theorem round_step {bs : List D} (h : ∀ b ∈ bs, tmB b) {f : Nat} (f1 : 1 ≤ f) (fl : f ≤ lcH bs) (o : outOf (termsH bs) (f : Int) ≠ []) : f + 1 ≤ lcH bs := by
  have : f ≠ lcH bs := fun e => o ((outOf_nil h).mpr (by rw [e]; exact Nat.dvd_refl _))
  omega
theorem round_end {bs : List D} (h : ∀ b ∈ bs, tmB b) {f : Nat} (f1 : 1 ≤ f) (fl : f ≤ lcH bs) (o : outOf (termsH bs) (f : Int) = []) : f = lcH bs := by
  have := Nat.le_of_dvd (by omega) ((outOf_nil h).mp o)
  omega
theorem lens_terms {bs : List D} (h : ∀ b ∈ bs, tmB b) : ((termsH bs).length : Int) = (bs.map fun b => (lenD b : Int)).sum := by
  induction bs with
  | nil => rfl
  | cons b l ih =>
    obtain ⟨ss, rfl, _⟩ := h b (List.mem_cons_self ..)
    have e : termsH (.tup ss :: l) = ss.map termI ++ termsH l := rfl
    rw [e, List.length_append, List.length_map, List.map_cons, List.sum_cons, ← ih fun y hy => h y (List.mem_cons_of_mem _ hy)]
    show _ = ((ss.length : Nat) : Int) + _
    push_cast
    rfl
end TSx

/-! Own layer, part J0: what the drawn houses and stands need. -/
namespace TSx
open PySem L2
mutual
def D.nl : D → Bool
  | .tup xs => nlA xs
  | .non => true
  | .bl _ => true
  | .int _ => true
  | .str _ => true
  | _ => false
def nlA : List D → Bool
  | [] => true
  | x :: xs => x.nl && nlA xs
end
theorem nlA_map {α : Type} {f : α → D} (h : ∀ a, (f a).nl = true) : ∀ l : List α, nlA (l.map f) = true
  | [] => rfl
  | a :: l => by
    show ((f a).nl && nlA (l.map f)) = true
    rw [h a, nlA_map h l]
    rfl
theorem nl_way (w : Way) : w.d.nl = true := by cases w <;> rfl
theorem nl_seat (s : Seat) : s.d.nl = true := by
  show (true && (true && (s.way.d.nl && true))) = true
  rw [nl_way]; rfl
theorem nl_body (b : List Seat) : (bodyD b).nl = true := nlA_map nl_seat b
theorem mk_tupL {ta : TE} {σ : Sg} {H : Hp} {ds : List D} (h : Mk K ta σ H (.lst ds)) : Mk K (tCB (fun xs H Q => ∃ p ys, xs = [.ref p] ∧ ((SqL K H p ys ∧ ∀ l, H l = none → Q (.ref l) (upd H l (.tup ys))) ∨ (SqT K H p ys ∧ Q (.ref p) H))) (tCons ta tNil)) σ H (.tup ds) := fun H1 s Q q => h H1 s _ fun v H2 s2 a => by
  cases a with
  | @lst p xs _ e aa => exact ⟨p, xs, rfl, Or.inl ⟨SqL.of e, fun l nl => q _ _ (s2.trans (same_new nl)) (.tup (SqT.of upd_same) (aa.gr (same_new nl)))⟩⟩
def standD (s : List (List Bool)) : D := .tup (s.map fun l => .str (sideS l))
def Fits (h : House) (s : List (List Bool)) : Prop := s.map List.length = h.bodies.map List.length
theorem join_ok {l : List Bool} (h : l.length ≤ 1000) : ((l.map fun x => sideS [x]).map (·.length)).sum + (l.map fun x => sideS [x]).length * (Str.ofString "").length ≤ 16777216 := by
  have sm : ∀ l : List Bool, ((l.map fun x => sideS [x]).map (·.length)).sum = l.length := by
    intro l
    induction l with
    | nil => rfl
    | cons x l ih => rw [List.map_cons, List.map_cons, List.sum_cons, ih, List.length_cons, sideS_len]; simp; omega
  rw [sm, List.length_map]
  show l.length + l.length * 0 ≤ 16777216
  omega
/-! ### tuples stay where other things are written -/
def KT (H H' : Hp) : Prop := ∀ (b : Addr) (xs : List V), (H b = some (.tup xs) → H' b = some (.tup xs)) ∧ ∀ u, H b = some (.frz u (.tup xs)) → H' b = some (.frz u (.tup xs))
theorem KT.of {H H' : Hp} (s : Same H H') : KT H H' := fun b xs => ⟨s b _, fun u => s b _⟩
theorem KT.tr {H H1 H2 : Hp} (a : KT H H1) (b : KT H1 H2) : KT H H2 := fun x xs => ⟨fun e => (b x xs).1 ((a x xs).1 e), fun u e => (b x xs).2 u ((a x xs).2 u e)⟩
theorem KT.updL {H : Hp} {p : Addr} {xs : List V} {o : HO} (hp : H p = some (.lst xs)) : KT H (upd H p o) := fun b ys => ⟨fun e => by rw [upd_ne (fun z => by rw [z, hp] at e; cases e)]; exact e, fun u e => by rw [upd_ne (fun z => by rw [z, hp] at e; cases e)]; exact e⟩
theorem KT.kp {m c g : Addr} {H H' : Hp} {r : Nat} (M : MAt m c g H r) (k : Kp m g H H') : KT H H' := by
  obtain ⟨⟨n, cs, gs, h1, h2, h3, _⟩, _⟩ := M
  exact fun b xs => ⟨fun e => k b _ (fun z => by rw [z, h1] at e; cases e) (fun z => by rw [z, h3] at e; cases e) e, fun u e => k b _ (fun z => by rw [z, h1] at e; cases e) (fun z => by rw [z, h3] at e; cases e) e⟩
mutual
theorem Dt.kt {K : PySem.W.Frag} {H H' : Hp} (k : KT H H') : ∀ {d : D} {v : V}, Dt K H v d → d.nl = true → Dt K H' v d
  | .non, _, h, _ => by cases h; exact .non
  | .bl b, _, h, _ => by cases h; exact .bl b
  | .int i, _, h, _ => by cases h; exact .int i
  | .str x, _, h, _ => by cases h; exact .str x
  | .lst _, _, _, f => by cases f
  | .dic _, _, _, f => by cases f
  | .exc _ _, _, _, f => by cases f
  | .tup ds, _, h, f => by
    cases h with
    | @tup a xs _ e aa =>
    refine .tup ?_ (DtA.kt k aa f)
    rcases e with (e | ⟨u, e⟩) | e
    · exact Or.inl (Or.inl ((k a xs).1 e))
    · exact Or.inl (Or.inr ⟨u, (k a xs).2 u e⟩)
    · exact Or.inr e
theorem DtA.kt {K : PySem.W.Frag} {H H' : Hp} (k : KT H H') : ∀ {ds : List D} {vs : List V}, DtA K H vs ds → nlA ds = true → DtA K H' vs ds
  | [], _, h, _ => by cases h; exact .nil
  | d :: ds, _, h, f => by
    cases h with
    | cons a b =>
    simp only [nlA, Bool.and_eq_true] at f
    exact .cons (Dt.kt k a f.1) (DtA.kt k b f.2)
end
theorem MAt.upd' {m c g p : Addr} {H : Hp} {r : Nat} {o : HO} (M : MAt m c g H r) (h1 : p ≠ m) (h2 : p ≠ c) (h3 : p ≠ g) : MAt m c g (upd H p o) r := by
  obtain ⟨⟨n, cs, gs, a1, a2, a3, a4⟩, ne⟩ := M
  exact ⟨⟨n, cs, gs, by rw [upd_ne (Ne.symm h1)]; exact a1, by rw [upd_ne (Ne.symm h2)]; exact a2, by rw [upd_ne (Ne.symm h3)]; exact a3, a4⟩, ne⟩
theorem new_m3 {m c g : Addr} {H : Hp} {r : Nat} (M : MAt m c g H r) {p : Addr} (np : H p = none) : p ≠ m ∧ p ≠ c ∧ p ≠ g := by
  obtain ⟨⟨n, cs, gs, h1, h2, h3, _⟩, _⟩ := M
  exact ⟨(fun z => by rw [z, h1] at np; cases np), (fun z => by rw [z, h2] at np; cases np), (fun z => by rw [z, h3] at np; cases np)⟩
/-! ### the houses that are drawn -/
def common (ns : List Int) : Nat := if ns = [1, 2, 3, 4, 6] then 12 else if ns = [1, 2, 3] then 6 else if ns = [1, 2, 4] then 4 else if ns = [1, 5] then 5 else if ns = [2, 3, 3] then 6 else 1
theorem common_ok : ∀ ns ∈ termLists, common ns ≤ 12 ∧ ∀ n ∈ ns, 1 ≤ n ∧ n ≤ 6 ∧ n.toNat ∣ common ns := by decide +kernel
structure DrawnS (ns : List Int) (n wards : Nat) (s : Seat) : Prop where
  t : (s.term : Int) ∈ ns
  p : s.phase < s.term
  w : s.way.ok n wards
theorem lcmB_dvd {L : Nat} {b : List Seat} : ∀ {c : Nat}, c ∣ L → (∀ s ∈ b, s.term ∣ L) → lcmB c b ∣ L := by
  induction b with
  | nil => intro c h _; exact h
  | cons s l ih =>
    intro c h a
    refine ih (c := (Nat.lcm 1 c).lcm s.term) ?_ fun x hx => a x (List.mem_cons_of_mem _ hx)
    rw [Nat.lcm_one_left]
    exact Nat.lcm_dvd h (a s (List.mem_cons_self ..))
theorem drawn_ok {ns : List Int} {bs : List (List Seat)} {wards : Nat} (hn : ns ∈ termLists) (w4 : wards ≤ 4) (l1 : 1 ≤ bs.length) (l3 : bs.length ≤ 3) (hb : ∀ b ∈ bs, 1 ≤ b.length ∧ b.length ≤ 3 ∧ ∀ s ∈ b, DrawnS ns bs.length wards s) : House.ok ⟨bs, wards⟩ := by
  obtain ⟨c12, cn⟩ := common_ok ns hn
  have tt : ∀ b ∈ bs, ∀ s ∈ b, 1 ≤ s.term ∧ s.term ≤ 6 ∧ s.term ∣ common ns := fun b hb' s hs => by
    have := cn _ ((hb b hb').2.2 s hs).t
    exact ⟨by omega, by omega, this.2.2⟩
  refine ⟨w4, l1, l3, fun b hb' => ⟨(hb b hb').1, by have := (hb b hb').2.1; omega⟩, ?_, fun b hb' s hs => ⟨(tt b hb' s hs).1, (tt b hb' s hs).2.1, ((hb b hb').2.2 s hs).p, ((hb b hb').2.2 s hs).w⟩, ?_⟩
  · have : ∀ l : List (List Seat), (∀ b ∈ l, b.length ≤ 3) → (l.map fun b => (b.length : Int)).sum ≤ 3 * (l.length : Int) := by
      intro l
      induction l with
      | nil => intro _; decide
      | cons b l ih =>
        intro h
        have q := ih fun x hx => h x (List.mem_cons_of_mem _ hx)
        have q2 := h b (List.mem_cons_self ..)
        rw [List.map_cons, List.sum_cons, List.length_cons]
        push_cast
        omega
    have q := this bs fun b hb' => (hb b hb').2.1
    show (bs.map fun b => (b.length : Int)).sum ≤ 9
    omega
  · have : lcmH ⟨bs, wards⟩ ∣ common ns := by
      have gen : ∀ (l : List (List Seat)) (c : Nat), c ∣ common ns → (∀ b ∈ l, ∀ s ∈ b, s.term ∣ common ns) → l.foldl lcmB c ∣ common ns := by
        intro l
        induction l with
        | nil => intro c h _; exact h
        | cons b l ih => intro c h a; exact ih _ (lcmB_dvd h (a b (List.mem_cons_self ..))) fun x hx => a x (List.mem_cons_of_mem _ hx)
      exact gen bs 1 (Nat.one_dvd _) fun b hb' s hs => (tt b hb' s hs).2.2
    have pos : 0 < common ns := by unfold common; split <;> (try split) <;> (try split) <;> (try split) <;> (try split) <;> omega
    exact Nat.le_trans (Nat.le_of_dvd pos this) c12
theorem nl_house (h : House) : h.d.nl = true := by
  show (nlA (h.bodies.map bodyD) && (true && true)) = true
  rw [nlA_map nl_body]; rfl
def spHome (K : PySem.W.Frag) : Sp := fun vs H Q _ => ∃ (m c g : Addr) (r : Nat), vs = [.ref m, .int 3, .int 3, .int 4] ∧ MAt m c g H (r + 100) ∧ ∀ v H' (h : House), h.ok → Dt K H' v h.d → MAt m c g H' r → Kp m g H H' → Q v H'
theorem r_for {wi : TI} {gg : TG} {tb : TS} {D : Ends} {σ : Sg} {H : Hp} (q : wi σ H fun J H1 => ∃ W : Nat → Nat → Sg → Hp → Prop, (∃ m, W 0 m σ H1) ∧ ∀ i m σ H, W i m σ H →
    (J.stop i H ∧ D.nx σ H) ∨ (J.go i H ∧ ∃ N : Sg → Hp → Prop, (∀ σ' H', N σ' H' → ∃ m', m' < m ∧ W (i + 1) m' σ' H') ∧ ∀ x H', J.yld i H x H' → gg x σ H' fun σ2 H2 => tb { D with nx := N, ct := N, bk := D.nx } σ2 H2)) : tFor wi gg tb D σ H := q
theorem r_rng1 {ta : TA} {σ : Sg} {H : Hp} {R : It → Hp → Prop} (q : ta σ H fun vs H1 => ∃ j : Int, vs = [.int j] ∧ -(2 ^ 62) ≤ j ∧ j < 2 ^ 62 ∧ R (Itr 0 j.toNat) H1) : iRng1 ta σ H R := q
theorem len_terms : ∀ ns ∈ termLists, 0 < ns.length ∧ ns.length ≤ 5 := by decide
def spFirst (K : PySem.W.Frag) : Sp := fun vs H Q _ => ∃ (m c g : Addr) (r : Nat) (x : V) (h : House), vs = [.ref m, x] ∧ Dt K H x h.d ∧ h.ok ∧ MAt m c g H (r + 27) ∧ ∀ v H' s, Fits h s → Dt K H' v (standD s) → MAt m c g H' r → Kp m g H H' → Q v H'
theorem lc_letters {K : PySem.W.Frag} {J : It} {n : Nat} {G : Hp → Prop} {Y : Nat → Hp → V → Hp → Prop} (w : Walk J n G Y) (hY : ∀ i H x H', Y i H x H' → H' = H) {m c g L : Addr} {r i0 : Nat} {σ : Sg} {H : Hp} {Qd : Hp → Prop} (hG : ∀ H', KT H H' → G H') (hn : n ≤ 9)
    (hm : ∀ x, ((wipe σ [i0]).set i0 (some x))[0]? = some (some (.ref m))) (hw : ∀ x, wipe ((wipe σ [i0]).set i0 (some x)) [i0] = wipe σ [i0]) (M : MAt m c g H (r + n)) (nL : H L = none)
    (hd : ∀ H' (l : List Bool), l.length = n → H' L = some (.lst (l.map fun x => V.str (sideS [x]))) → MAt m c g H' r → Kp m g H H' → KT H H' → Qd H') :
    ∃ W : Nat → Nat → Hp → Prop, (∃ m, W 0 m (upd H L (.lst []))) ∧ ∀ i m H, W i m H →
      (J.stop i H ∧ Qd H) ∨ (J.go i H ∧ ∃ Nx : Hp → Prop, (∀ H', Nx H' → ∃ m', m' < m ∧ W (i + 1) m' H') ∧ ∀ x H', J.yld i H x H' → gName i0 x (wipe σ [i0]) H' fun σ2 H2 => wipe σ2 [i0] = wipe σ [i0] ∧ tYes σ2 H2 fun b H3 =>
        if b = true then tCall (spOf K) [] E0 (tCons (tVar 0) (tCons (tC (.str "ab")) tNil)) σ2 H3 fun y H4 => ∃ acc, H4 L = some (.lst acc) ∧ acc.length < sizeLine ∧ Nx (upd H4 L (.lst (acc ++ [y]))) else Nx H3) := by
  obtain ⟨Lm, Lc, Lg⟩ := new_m3 M nL
  refine lc_it w (fun j H' => ∃ l : List Bool, l.length = j ∧ H' L = some (.lst (l.map fun x => V.str (sideS [x]))) ∧ MAt m c g H' (r + (n - j)) ∧ Kp m g H H' ∧ KT H H') ⟨[], rfl, upd_same, M.same (same_new nL), Kp.of (same_new nL), KT.of (same_new nL)⟩ (fun j H' _ z => by obtain ⟨_, _, _, _, _, z⟩ := z; exact hG _ z) ?_ ?_
  · rintro j x H' H'' hj ⟨l, ll, hL, M', kp, kt⟩ y
    have := hY _ _ _ _ y
    subst this
    refine r_name ⟨hw x, r_yes ?_⟩
    refine r_call (r_cons (r_v (hm x) (r_cons (r_c (r_nil ?_)))))
    refine ⟨m, c, g, r + (n - (j + 1)), _, rfl, M'.less (by omega), Or.inr ⟨[true, false], by rw [show sideS [true, false] = Str.ofString "ab" by decide +kernel], by decide, by decide, fun b H3 _ M3 k3 => ?_⟩⟩
    have hL3 := k3 _ _ Lm Lg hL
    have kt3 : KT H'' H3 := KT.kp M' k3
    refine ⟨_, hL3, by rw [List.length_map, ll]; exact sz2 (by omega), l ++ [b], by rw [List.length_append, ll]; rfl, by rw [upd_same, List.map_append]; rfl, M3.upd' Lm Lc Lg, fun a o h1 h2 e => ?_, (kt.tr kt3).tr (KT.updL hL3)⟩
    rw [upd_ne (fun z => by rw [z, nL] at e; cases e)]
    exact k3 _ _ h1 h2 (kp _ _ h1 h2 e)
  · rintro H' ⟨l, ll, hL, M', kp, kt⟩
    exact hd H' l ll hL (M'.less (by omega)) kp kt
end TSx

namespace TSx
open PySem L2
local macro_rules | `(tactic| walk_at "rd") => `(tactic| repeat (first
  | ((with_reducible show tVar _ _ _ _); refine r_v rfl ?_)
  | with_reducible refine r_c ?_
  | with_reducible refine r_op ?_
  | with_reducible refine r_I0 ?_
  | with_reducible refine r_cb ?_
  | with_reducible refine r_nil ?_
  | with_reducible refine r_cons ?_
  | with_reducible refine r_seq ?_
  | with_reducible refine r_next ?_
  | with_reducible refine r_asg ?_
  | with_reducible refine r_name ?_
  | with_reducible refine r_ret ?_
  | with_reducible refine r_drop ?_
  | with_reducible refine r_if ?_
  | with_reducible refine r_test ?_
  | with_reducible refine r_bl ?_
  | with_reducible refine r_call ?_))
local macro_rules | `(tactic| walk_at "st") => `(tactic| repeat (first
  | with_reducible refine r_seq ?_
  | with_reducible refine r_next ?_
  | with_reducible refine r_asg ?_
  | with_reducible refine r_name ?_
  | with_reducible refine r_ret ?_
  | with_reducible refine r_drop ?_
  | with_reducible refine r_if ?_))
local macro_rules | `(tactic| walk_at "mk") => `(tactic| repeat (first
  | with_reducible exact mk_non
  | with_reducible exact mk_int
  | with_reducible exact mk_str
  | with_reducible exact mk_bl
  | with_reducible exact mk_dic
  | with_reducible exact mka_nil
  | with_reducible refine mka_cons ?_ ?_
  | ((with_reducible refine mk_tup ?_ ?hz); (case hz => decide))
  | ((with_reducible refine mk_lst ?_ ?hz); (case hz => decide))
  | with_reducible refine mk_neg ?_))
local macro_rules | `(tactic| walk_at "kb") => `(tactic| repeat (first
  | with_reducible exact kb_non
  | with_reducible exact kb_int
  | with_reducible exact kb_str
  | with_reducible exact kb_bl
  | with_reducible exact kba_nil
  | with_reducible refine kba_cons ?_ ?_
  | ((with_reducible refine kb_tup (by assumption) ?_ ?hz); (case hz => decide))
  | ((with_reducible refine kb_lst (by assumption) ?_ ?hz); (case hz => decide))))
abbrev sOF : Stmt := top 37
abbrev sTE : Stmt := top 38
abbrev sWY : Stmt := top 39
abbrev sHO : Stmt := top 40
abbrev sFS : Stmt := top 41
abbrev sLike : Stmt := top 36
theorem scOF : FnScope ["m", "some"] ["m", "some"] (defScope sOF) := ⟨rfl, rfl, rfl, by decide +kernel, rfl, by decide +kernel, by decide +kernel⟩
theorem scTE : FnScope ["m"] ["m"] (defScope sTE) := ⟨rfl, rfl, rfl, by decide +kernel, rfl, by decide +kernel, by decide +kernel⟩
theorem scWY : FnScope ["m", "bodies", "wards", "pick", "tie"] ["m", "bodies", "wards"] (defScope sWY) := ⟨rfl, rfl, rfl, by decide +kernel, rfl, by decide +kernel, by decide +kernel⟩
theorem scHO : FnScope ["m", "bodies", "each", "most", "k", "terms", "wards", "many", "found", "row", "spot", "term"] ["m", "bodies", "each", "most"] (defScope sHO) := ⟨rfl, rfl, rfl, by decide +kernel, rfl, by decide +kernel, by decide +kernel⟩
theorem scFS : FnScope ["m", "home", "row", "seat"] ["m", "home"] (defScope sFS) := ⟨rfl, rfl, rfl, by decide +kernel, rfl, by decide +kernel, by decide +kernel⟩
theorem scLike : FnScope ["heard", "due"] ["heard", "due"] (defScope sLike) := ⟨rfl, rfl, rfl, by decide +kernel, rfl, by decide +kernel, by decide +kernel⟩
/-- two that are the same data -/
def spLike (K : PySem.W.Frag) : Sp := fun vs H Q _ => ∃ (x y : V) (d : D), vs = [x, y] ∧ Dt K H x d ∧ Dt K H y d ∧ d.rd ∧ Q (.bl true) H
section
variable {P : Program} {w : World} {K : PySem.W.Frag} {mg : Str → Option Value} {base : Heap}
theorem ok_like {f : Addr} {fd : FuncData} (F : L2.Fun K "_law_like" "_law_like" sLike f fd) (B : Blt mg) : FnG P w K mg base CX0 1 f fd ["heard", "due"] (spLike K) := by
  refine fnG_of0 F scLike (fun vs H Q E h => ?_) (fun cdv A outer s H vs Q E g hr h => ?_)
  · obtain ⟨x, y, d, rfl, _⟩ := h
    rfl
  · obtain ⟨x, y, d, rfl, hx, hy, hd, k⟩ := h
    have g2 := guards_deeper g (PyProof.Rows.envOfC "_law_like" (defScope sLike) s.heap.objs.size f cdv)
    refine ⟨_, (pss_one (ps_ret (pe_cmpR op_eq (pe_callB (call_reprD g2 hr.units) (by rfl) B.repr PyProof.Rows.boot_repr (pa_cons (pv 0) pa_nil)) (pe_callB (call_reprD g2 hr.units) (by rfl) B.repr PyProof.Rows.boot_repr (pa_cons (pv 1) pa_nil)) (nomark _)))), ?_⟩
    walk_at "rd"
    refine ⟨x, d, rfl, hx, hd, ?_⟩
    walk_at "rd"
    refine ⟨y, d, rfl, hy, hd, rfl, ?_⟩
    rw [decide_eq_true rfl]
    exact k
end
section
variable {P : Program} {w : World} {K : PySem.W.Frag} {mg : Str → Option Value} {base : Heap} {pT : Addr}
theorem ok_OF {f fD : Addr} {fd fdD : FuncData} (F : L2.Fun K "_law_of" "_law_of" sOF f fd) (B : Blt mg) (d_law_draw : Dok P w K mg base 2 "_law_draw" ["m", "limit"] spDraw fD fdD) : FnOk P w K mg base CX0 3 f fd ["m", "some"] (spOf K) := by
  refine F.ok scOF (fun vs H Q E h => ?_) (fun cdv A outer s H vs Q E hr h => ?_)
  · obtain ⟨m, c, g, r, x, rfl, _⟩ := h
    rfl
  · obtain ⟨m, c, g, r, x, rfl, M, (⟨ns, ax, l0, l1, k⟩ | ⟨l, rfl, l0, l1, k⟩)⟩ := h
    · cases ax with
      | @lst p xs _ e aa =>
      have := aa.ints
      subst this
      refine ⟨_, (pss_one (ps_ret (pe_ix ix_list (pv 1) (pe_call d_law_draw.G (hr.mono (by decide)) rfl d_law_draw.g d_law_draw.k d_law_draw.b .nil pass0 (pa_cons (pv 0) (pa_cons (pe_callB call_len_seq (by rfl) B.len PySem.boot_len (pa_cons (pv 1) pa_nil)) pa_nil))) (fun _ _ => rfl)))), ?_⟩
      walk_at "rd"
      refine ⟨p, _, rfl, Or.inl (SqL.of (wo_le _ _ e)), ?_⟩
      refine r_nil ⟨m, c, g, r, _, rfl, by rw [List.length_map]; omega, by rw [List.length_map]; omega, M, fun v H1 p0 p1 M1 k1 => ?_⟩
      rw [List.length_map] at p1
      obtain ⟨i, rfl⟩ : ∃ i : Nat, v = (i : Int) := ⟨v.toNat, by omega⟩
      have li : i < ns.length := by omega
      refine ⟨p, _, (i : Int), .int ns[i], rfl, rfl, SqL.of (wo_le _ _ (wo_kp k1 B2_m B2_g _ _ e)), atI_nat (by rw [List.getElem?_map, List.getElem?_eq_getElem li]; rfl), ?_⟩
      exact k _ H1 (List.getElem_mem li) M1 k1
    · refine ⟨_, (pss_one (ps_ret (pe_ix ix_str (pv 1) (pe_call d_law_draw.G (hr.mono (by decide)) rfl d_law_draw.g d_law_draw.k d_law_draw.b .nil pass0 (pa_cons (pv 0) (pa_cons (pe_callB call_len_str (by rfl) B.len PySem.boot_len (pa_cons (pv 1) pa_nil)) pa_nil))) (fun _ _ => rfl)))), ?_⟩
      walk_at "rd"
      refine ⟨_, rfl, by rw [sideS_len]; exact sz1 (by omega), ?_⟩
      refine r_nil ⟨m, c, g, r, _, rfl, by rw [sideS_len]; omega, by rw [sideS_len]; omega, M, fun v H1 p0 p1 M1 k1 => ?_⟩
      rw [sideS_len] at p1
      obtain ⟨i, rfl⟩ : ∃ i : Nat, v = (i : Int) := ⟨v.toNat, by omega⟩
      have li : i < l.length := by omega
      refine ⟨_, (i : Int), sideC l[i], rfl, rfl, by rw [sideS_len]; exact sz1 (by omega), atI_nat ?_, k _ H1 (List.getElem_mem li) M1 k1⟩
      show (l.map sideC)[i]? = _
      rw [List.getElem?_map, List.getElem?_eq_getElem li]
      rfl
theorem ok_TE {f fD : Addr} {fd fdD : FuncData} (F : L2.Fun K "_law_terms" "_law_terms" sTE f fd) (d_law_draw : Dok P w K mg base 2 "_law_draw" ["m", "limit"] spDraw fD fdD) : FnOk P w K mg base CX0 3 f fd ["m"] (spTerms K) := by
  refine F.ok scTE (fun vs H Q E h => ?_) (fun cdv A outer s H vs Q E hr h => ?_)
  · obtain ⟨m, c, g, r, rfl, _⟩ := h
    rfl
  · obtain ⟨m, c, g, r, rfl, M, k⟩ := h
    refine ⟨_, (pss_one (ps_ret (pe_ix ix_list (pe_lst (pa_cons (pe_lst (pa_cons pe_int (pa_cons pe_int (pa_cons pe_int (pa_cons pe_int (pa_cons pe_int pa_nil)))))) (pa_cons (pe_lst (pa_cons pe_int (pa_cons pe_int (pa_cons pe_int pa_nil)))) (pa_cons (pe_lst (pa_cons pe_int (pa_cons pe_int (pa_cons pe_int pa_nil)))) (pa_cons (pe_lst (pa_cons pe_int (pa_cons pe_int pa_nil))) (pa_cons (pe_lst (pa_cons pe_int (pa_cons pe_int (pa_cons pe_int pa_nil)))) (pa_cons (pe_lst (pa_cons pe_int pa_nil)) pa_nil))))))) (pe_call d_law_draw.G (hr.mono (by decide)) rfl d_law_draw.g d_law_draw.k d_law_draw.b .nil pass0 (pa_cons (pv 0) (pa_cons pe_int pa_nil))) (fun _ _ => rfl)))), ?_⟩
    walk_at "st"
    refine r_op ?_
    have dB := m_there M
    refine (show MkB K (B2 m g) _ _ H (.lst (termLists.map fun ns => .lst (ns.map D.int))) from ?m1) H Gr.rfl' _ fun v H1 s1 a1 => ?_
    case m1 =>
      show MkB K (B2 m g) _ _ H (.lst [.lst [.int 1, .int 2, .int 3, .int 4, .int 6], .lst [.int 1, .int 2, .int 3], .lst [.int 1, .int 2, .int 4], .lst [.int 1, .int 5], .lst [.int 2, .int 3, .int 3], .lst [.int 1]])
      walk_at "kb"
    refine r_call (r_cons (r_v rfl (r_cons (r_c (r_nil ?_)))))
    refine ⟨m, c, g, r, 6, rfl, by decide, by decide, M.same s1, fun n H2 p0 p1 M2 k2 => ?_⟩
    obtain ⟨i, rfl⟩ : ∃ i : Nat, n = (i : Int) := ⟨n.toNat, by omega⟩
    have li : i < termLists.length := by show i < 6; omega
    have a2 := Ap.kp a1 k2
    cases a2 with
    | @lst p xs _ e aa =>
    have hi : (termLists.map fun ns => D.lst (ns.map D.int))[i]? = some (.lst (termLists[i].map D.int)) := by rw [List.getElem?_map, List.getElem?_eq_getElem li]; rfl
    obtain ⟨x, hx, ax⟩ := aa.nth hi
    refine ⟨p, xs, (i : Int), x, rfl, rfl, SqL.of (wo_le _ _ e), atI_nat hx, ?_⟩
    exact k x H2 _ (List.getElem_mem li) ax M2 ((Kp.of s1).tr k2)
theorem ok_WY {f fD : Addr} {fd fdD : FuncData} (F : L2.Fun K "_law_way" "_law_way" sWY f fd) (d_law_draw : Dok P w K mg base 2 "_law_draw" ["m", "limit"] spDraw fD fdD) : FnOk P w K mg base CX0 3 f fd ["m", "bodies", "wards"] (spWay K) := by
  refine F.ok scWY (fun vs H Q E h => ?_) (fun cdv A outer s H vs Q E hr h => ?_)
  · obtain ⟨m, c, g, r, n, wd, rfl, _⟩ := h
    rfl
  · obtain ⟨m, c, g, r, n, wd, rfl, n1, n2, w2, M, k⟩ := h
    refine ⟨_, (pss_cons (ps_par (i := 3) (j := 4) (by rfl) scWY.nd rfl rfl (by decide) rfl rfl (pa_cons (pe_call d_law_draw.G (hr.mono (by decide)) rfl d_law_draw.g d_law_draw.k d_law_draw.b .nil pass0 (pa_cons (pv 0) (pa_cons pe_int pa_nil))) (pa_cons (pe_ix ix_list (pe_lst (pa_cons pe_str (pa_cons pe_str (pa_cons pe_str pa_nil)))) (pe_call d_law_draw.G (hr.mono (by decide)) rfl d_law_draw.g d_law_draw.k d_law_draw.b .nil pass0 (pa_cons (pv 0) (pa_cons pe_int pa_nil))) (fun _ _ => rfl)) pa_nil)) (by rfl))
  (pss_cons (ps_if (PW.pt (pw_and (pt_cmpR op_lt (pv 3) pe_int (nomark _)) (pw_and1 (pt_cmpR op_gt (pv 2) pe_int (nomark _))))) (pss_one (ps_ret (pe_tup (pa_cons pe_str (pa_cons (pe_call d_law_draw.G (hr.mono (by decide)) rfl d_law_draw.g d_law_draw.k d_law_draw.b .nil pass0 (pa_cons (pv 0) (pa_cons (pv 2) pa_nil))) pa_nil))))) pss_nil)
  (pss_cons (ps_if (pt_cmpR op_eq (pv 3) pe_int (nomark _)) (pss_one (ps_ret (pe_tup (pa_cons pe_str pa_nil)))) pss_nil)
  (pss_one (ps_ret (pe_tup (pa_cons (pe_ix ix_list (pe_lst (pa_cons pe_str (pa_cons pe_str pa_nil))) (pe_call d_law_draw.G (hr.mono (by decide)) rfl d_law_draw.g d_law_draw.k d_law_draw.b .nil pass0 (pa_cons (pv 0) (pa_cons pe_int pa_nil))) (fun _ _ => rfl)) (pa_cons (pe_call d_law_draw.G (hr.mono (by decide)) rfl d_law_draw.g d_law_draw.k d_law_draw.b .nil pass0 (pa_cons (pv 0) (pa_cons (pv 1) pa_nil))) (pa_cons (pv 4) pa_nil))))))))), ?_⟩
    walk_at "st"
    refine r_cons (r_call (r_cons (r_v rfl (r_cons (r_c (r_nil ?_))))))
    refine ⟨m, c, g, r + 3, 6, rfl, by decide, by decide, M, fun pick H1 p0 p1 M1 k1 => ?_⟩
    refine r_cons ?_
    refine r_pick (K := K) (ss := ["a", "b", "kept"]) (r := r + 2) rfl M1 (by decide) (by decide) rfl fun t H2 ht M2 k2 => ?_
    refine r_nil ⟨_, _, rfl, ?_⟩
    walk_at "st"
    have k12 := k1.tr k2
    -- pick < 3 and wards > 0
    have fin2 : ∀ H3, Same H2 H3 → tSeq (tIfS (tTest (tOp rEq (tVar 3) (tC (.int 5)))) (tRet (tTup (tCons (tC (.str "kept")) tNil))) tNext) (tRet (tTup (tCons (tOp (rIxL K) (tLst (tCons (tC (.str "body")) (tCons (tC (.str "rest")) tNil))) (tCall spDraw [] E0 (tCons (tVar 0) (tCons (tC (.int 2)) tNil)))) (tCons (tCall spDraw [] E0 (tCons (tVar 0) (tCons (tVar 1) tNil))) (tCons (tVar 4) tNil)))))
        { nx := fun _ H' => Q .non H', rt := Q } [some (.ref m), some (.int n), some (.int wd), some (.int pick), some (.str t)] H3 := by
      intro H3 s3
      walk_at "st"
      refine (mt_test (mk_eqI (K := K) (mk_var (n := 3) rfl (.int pick)) mk_int) : MkT _ _ H3 (decide (pick = 5))) H3 Gr.rfl' _ fun H4 s4 => ?_
      have s34 := s3.trans s4
      have M4 := (M2.same s34)
      have kA := k12.tr (Kp.of s34)
      by_cases z : pick = 5
      · refine r_ifT (decide_eq_true z) ?_
        walk_at "rd"
        refine ⟨sz1 (show 1 ≤ 100000 by decide), fun p np => ?_⟩
        obtain ⟨pm, pg⟩ := new_m M4 np
        exact k _ _ .kept trivial (.tup (SqT.of (by rw [wo_at (B2_no pm pg), upd_same])) (.cons (.str _) .nil)) ((M4.same (same_new np)).less (by omega)) (kA.tr (Kp.of (same_new np)))
      · refine r_ifF (decide_eq_false z) ?_
        walk_at "st"
        refine r_tup (r_cons ?_)
        refine r_pick (K := K) (ss := ["body", "rest"]) (r := r + 1) rfl M4 (by decide) (by decide) rfl fun wd' H5 hw M5 k5 => ?_
        refine r_cons (r_call (r_cons (r_v rfl (r_cons (r_v rfl (r_nil ?_))))))
        refine ⟨m, c, g, r, n, rfl, by omega, by omega, M5, fun b H6 b0 b1 M6 k6 => ?_⟩
        obtain ⟨i, rfl⟩ : ∃ i : Nat, b = (i : Int) := ⟨b.toNat, by omega⟩
        refine r_cons (r_v rfl (r_nil ?_))
        refine ⟨sz1 (show 3 ≤ 100000 by decide), fun p np => ?_⟩
        obtain ⟨pm, pg⟩ := new_m M6 np
        have kB := ((kA.tr k5).tr k6).tr (Kp.of (same_new (o := .tup [.str wd', .int i, .str t]) np))
        have at_ : SqT K (wo (B2 m g) (upd H6 p (.tup [.str wd', .int i, .str t]))) p [.str wd', .int i, .str t] := SqT.of (by rw [wo_at (B2_no pm pg), upd_same])
        simp only [List.mem_cons, List.not_mem_nil, or_false] at hw
        rcases hw with rfl | rfl
        · exact k _ _ (.body i t) ⟨by omega, ht⟩ (.tup at_ (.cons (.str _) (.cons (.int _) (.cons (.str _) .nil)))) (M6.same (same_new np)) kB
        · exact k _ _ (.rest i t) ⟨by omega, ht⟩ (.tup at_ (.cons (.str _) (.cons (.int _) (.cons (.str _) .nil)))) (M6.same (same_new np)) kB
    have t1 := mt_test (mk_I0b (K := K) (g := fun i j => decide (i < j)) (σ := [some (.ref m), some (.int n), some (.int wd), some (.int pick), some (.str t)]) (H := H2) (mk_var (n := 3) rfl (.int pick)) (mk_int (i := 3)))
    refine t1 H2 Gr.rfl' _ fun H3 s3 => ?_
    by_cases z : pick < 3
    · refine r_ifT (decide_eq_true z) ?_
      have t2 := mt_test (mk_I0b (K := K) (g := fun i j => decide (i > j)) (σ := [some (.ref m), some (.int n), some (.int wd), some (.int pick), some (.str t)]) (H := H3) (mk_var (n := 2) rfl (.int wd)) (mk_int (i := 0)))
      refine t2 H3 Gr.rfl' _ fun H4 s4 => ?_
      by_cases z2 : (wd : Int) > 0
      · refine r_ifT (decide_eq_true z2) ?_
        walk_at "st"
        have s34 := s3.trans s4
        have M4 := M2.same s34
        refine r_tup (r_cons (r_c (r_cons (r_call (r_cons (r_v rfl (r_cons (r_v rfl (r_nil ?_)))))))))
        refine ⟨m, c, g, r + 1, wd, rfl, z2, by omega, M4, fun b H6 b0 b1 M6 k6 => ?_⟩
        obtain ⟨i, rfl⟩ : ∃ i : Nat, b = (i : Int) := ⟨b.toNat, by omega⟩
        refine r_nil ⟨sz1 (show 2 ≤ 100000 by decide), fun p np => ?_⟩
        obtain ⟨pm, pg⟩ := new_m M6 np
        exact k _ _ (.ward i) (show i < wd by omega) (.tup (SqT.of (by rw [wo_at (B2_no pm pg), upd_same])) (.cons (.str _) (.cons (.int _) .nil))) ((M6.same (same_new np)).less (by omega)) (((k12.tr (Kp.of s34)).tr k6).tr (Kp.of (same_new np)))
      · refine r_ifF (decide_eq_false z2) ?_
        exact fin2 H4 (s3.trans s4)
    · refine r_ifF (decide_eq_false z) ?_
      exact fin2 H3 s3
end
section
variable {P : Program} {w : World} {K : PySem.W.Frag} {mg : Str → Option Value} {base : Heap} {pT : Addr}
theorem ok_HO {f fD fT fO fW : Addr} {fd fdD fdT fdO fdW : FuncData} (F : L2.Fun K "_law_home" "_law_home" sHO f fd) (B : Blt mg) (Z : Blt2 mg) (d_law_draw : Dok P w K mg base 2 "_law_draw" ["m", "limit"] spDraw fD fdD)
    (d_law_terms : Dok P w K mg base 3 "_law_terms" ["m"] (spTerms K) fT fdT) (d_law_of : Dok P w K mg base 3 "_law_of" ["m", "some"] (spOf K) fO fdO) (d_law_way : Dok P w K mg base 3 "_law_way" ["m", "bodies", "wards"] (spWay K) fW fdW) :
    FnOk P w K mg base CX0 4 f fd ["m", "bodies", "each", "most"] (spHome K) := by
  refine F.ok scHO (fun vs H Q E h => ?_) (fun cdv A outer s H vs Q E hr h => ?_)
  · obtain ⟨m, c, g, r, rfl, _⟩ := h
    rfl
  · obtain ⟨m, c, g, r, rfl, M, k⟩ := h
    refine ⟨_, (pss_cons (ps_asg (pe_tup (pa_cons (pe_call d_law_terms.G (hr.mono (by decide)) rfl d_law_terms.g d_law_terms.k d_law_terms.b .nil pass0 (pa_cons (pv 0) pa_nil)) (pa_cons (pe_call d_law_draw.G (hr.mono (by decide)) rfl d_law_draw.g d_law_draw.k d_law_draw.b .nil pass0 (pa_cons (pv 0) (pa_cons (pe_op op_add (pv 3) pe_int) pa_nil))) (pa_cons (pe_op op_add pe_int (pe_call d_law_draw.G (hr.mono (by decide)) rfl d_law_draw.g d_law_draw.k d_law_draw.b .nil pass0 (pa_cons (pv 0) (pa_cons (pv 1) pa_nil)))) (pa_cons (pe_lst pa_nil) pa_nil))))) (pg_tup rfl (pgs_cons (pg_name (i := 5) scHO.nd rfl (Or.inl rfl)) (pgs_cons (pg_name (i := 6) scHO.nd rfl (Or.inl rfl)) (pgs_cons (pg_name (i := 7) scHO.nd rfl (Or.inl rfl)) (pgs_cons (pg_name (i := 8) scHO.nd rfl (Or.inl rfl)) pgs_nil))))))
  (pss_cons (ps_for PassesOwn.never rfl (pi_range1 rfl B.range (pa_cons (pv 7) pa_nil)) (pg_name (i := 4) scHO.nd rfl (Or.inl rfl))
  (pss_cons (ps_set (i := 9) scHO.nd rfl (Or.inl rfl) (pe_lst pa_nil))
  (pss_cons (ps_for PassesOwn.never rfl (pi_range1 rfl B.range (pa_cons (pe_op op_add pe_int (pe_call d_law_draw.G (hr.mono (by decide)) rfl d_law_draw.g d_law_draw.k d_law_draw.b .nil pass0 (pa_cons (pv 0) (pa_cons (pv 2) pa_nil)))) pa_nil)) (pg_name (i := 10) scHO.nd rfl (Or.inl rfl))
  (pss_cons (ps_set (i := 11) scHO.nd rfl (Or.inl rfl) (pe_call d_law_of.G (hr.mono (by decide)) rfl d_law_of.g d_law_of.k d_law_of.b .nil pass0 (pa_cons (pv 0) (pa_cons (pv 5) pa_nil))))
  (pss_one (ps_expr (pe_bm PySem.F.plainAttrs_list PySem.F.slot_list_append PySem.F.type_list_append mt_append (pv 9) (pa_cons (pe_tup (pa_cons (pv 11) (pa_cons (pe_call d_law_draw.G (hr.mono (by decide)) rfl d_law_draw.g d_law_draw.k d_law_draw.b .nil pass0 (pa_cons (pv 0) (pa_cons (pv 11) pa_nil))) (pa_cons (pe_call d_law_way.G (hr.mono (by decide)) rfl d_law_way.g d_law_way.k d_law_way.b .nil pass0 (pa_cons (pv 0) (pa_cons (pv 7) (pa_cons (pv 6) pa_nil)))) pa_nil)))) pa_nil))))))
  (pss_one (ps_expr (pe_bm PySem.F.plainAttrs_list PySem.F.slot_list_append PySem.F.type_list_append mt_append (pv 8) (pa_cons (pe_callTy call_tuple_of (by rfl) Z.tuple (by decide +kernel) (pa_cons (pv 9) pa_nil)) pa_nil)))))))
  (pss_one (ps_ret (pe_tup (pa_cons (pe_callTy call_tuple_of (by rfl) Z.tuple (by decide +kernel) (pa_cons (pv 8) pa_nil)) (pa_cons (pv 6) pa_nil))))))), ?_⟩
    walk_at "st"
    refine r_tup (r_cons (r_call (r_cons (r_v rfl (r_nil ?_)))))
    refine ⟨m, c, g, r + 99, rfl, M, fun vt H1 ns hns at1 M1 k1 => ?_⟩
    refine r_cons (r_call (r_cons (r_v rfl (r_cons (r_op (r_v rfl (r_c (r_I0 (r_nil ?_)))))))))
    refine ⟨m, c, g, r + 98, _, rfl, by decide, by decide, M1, fun wd H2 w0 w1 M2 k2 => ?_⟩
    refine r_cons (r_op (r_c (r_call (r_cons (r_v rfl (r_cons (r_v rfl (r_nil ?_))))))))
    refine ⟨m, c, g, r + 97, 3, rfl, by decide, by decide, M2, fun mb H3 b0 b1 M3 k3 => ?_⟩
    refine r_I0 ?_
    refine r_cons (r_lst (r_nil ⟨Nat.zero_le _, fun p np => ?_⟩))
    refine r_nil ⟨sz1 (show 4 ≤ 100000 by decide), fun T nT => ?_⟩
    refine ⟨T, _, rfl, SqT.of upd_same, rfl, _, _, rfl, r_name ⟨_, _, rfl, r_name ⟨_, _, rfl, r_name ⟨_, _, rfl, r_name ⟨rfl, ?_⟩⟩⟩⟩⟩
    obtain ⟨wn, rfl⟩ : ∃ i : Nat, wd = (i : Int) := ⟨wd.toNat, by omega⟩
    obtain ⟨mn, emn⟩ : ∃ i : Nat, 1 + mb = (i : Int) := ⟨(1 + mb).toNat, by omega⟩
    rw [emn]
    have w4 : wn ≤ 4 := by omega
    have m1 : 1 ≤ mn := by omega
    have m3 : mn ≤ 3 := by omega
    have at3 := Ap.kp (Ap.kp at1 k2) k3
    obtain ⟨lt0, lt5⟩ := len_terms ns hns
    obtain ⟨_, cn⟩ := common_ok ns hns
    cases at3 with
    | @lst pt ts _ et aat =>
    have := aat.ints
    subst this
    have ptm : pt ≠ m ∧ pt ≠ g := by
      refine ⟨fun z => ?_, fun z => ?_⟩
      · have : wo (B2 m g) H3 pt = none := by unfold wo; rw [z, if_pos B2_m]
        rw [this] at et; cases et
      · have : wo (B2 m g) H3 pt = none := by unfold wo; rw [z, if_pos B2_g]
        rw [this] at et; cases et
    have pp : pt ≠ p := fun z => by have q := wo_le _ _ et; rw [z, np] at q; cases q
    have s5 : Same H3 (upd (upd H3 p (.lst [])) T (.tup [.ref pt, .int (wn : Nat), .int (mn : Nat), .ref p])) := (same_new np).trans (same_new nT)
    have Tp : p ≠ T := fun z => by rw [← z, upd_same] at nT; cases nT
    have hp5 : (upd (upd H3 p (.lst [])) T (.tup [.ref pt, .int (wn : Nat), .int (mn : Nat), .ref p])) p = some (.lst []) := by rw [upd_ne Tp, upd_same]
    have hpt5 := s5 _ _ (wo_le _ _ et)
    have M5 := M3.same s5
    obtain ⟨pm, pc, pg⟩ := new_m3 M3 np
    have kp5 : Kp m g H (upd (upd H3 p (.lst [])) T (.tup [.ref pt, .int (wn : Nat), .int (mn : Nat), .ref p])) := ((k1.tr k2).tr k3).tr (Kp.of s5)
    have npH : H p = none := by
      cases q : H p with
      | none => rfl
      | some o => have := ((k1.tr k2).tr k3) p o pm pg q; rw [this] at np; cases np
    generalize upd (upd H3 p (.lst [])) T (.tup [.ref pt, .int (wn : Nat), .int (mn : Nat), .ref p]) = H5 at hp5 hpt5 M5 kp5 ⊢
    walk_at "st"
    refine r_for (r_rng1 (r_cons (r_v rfl (r_nil ⟨(mn : Int), rfl, by omega, by omega, for_range (lo := 0) (n := (mn : Int).toNat)
      (fun i σ H' => ∃ (o4 o9 o10 o11 : Option V) (xs : List V) (bs : List (List Seat)), σ = [some (.ref m), some (.int 3), some (.int 3), some (.int 4), o4, some (.ref pt), some (.int (wn : Nat)), some (.int (mn : Nat)), some (.ref p), o9, o10, o11] ∧ H' p = some (.lst xs) ∧ xs.length = i ∧ bs.length = i ∧ DtA K H' xs (bs.map bodyD) ∧
        (∀ b ∈ bs, 1 ≤ b.length ∧ b.length ≤ 3 ∧ ∀ s ∈ b, DrawnS ns mn wn s) ∧ MAt m c g H' (r + (97 - 19 * i)) ∧ H' pt = some (.lst (ns.map V.int)) ∧ Kp m g H H')
      ⟨_, _, _, _, [], [], rfl, hp5, rfl, rfl, .nil, (fun _ z => nomatch z), M5, hpt5, kp5⟩ ?_ ?_⟩))))
    · rintro i σ H6 hi ⟨o4, o9, o10, o11, xs, bs, rfl, hp6, lx, lb, ax, gb, M6, hpt6, kp6⟩
      rw [Int.toNat_natCast] at hi
      walk_at "st"
      refine r_lst (r_nil ⟨Nat.zero_le _, fun q nq => ?_⟩)
      walk_at "st"
      have s7 : Same H6 (upd H6 q (.lst [])) := same_new nq
      obtain ⟨qm, qc, qg⟩ := new_m3 M6 nq
      have qp : p ≠ q := fun z => by rw [z, nq] at hp6; cases hp6
      have qt : pt ≠ q := fun z => by rw [z, nq] at hpt6; cases hpt6
      have nqH : H q = none := by
        cases z : H q with
        | none => rfl
        | some o => have := kp6 q o qm qg z; rw [this] at nq; cases nq
      refine r_for (r_rng1 (r_cons (r_op (r_c (r_call (r_cons (r_v rfl (r_cons (r_v rfl (r_nil ?_))))))))))
      refine ⟨m, c, g, r + (96 - 19 * i), 3, rfl, by decide, by decide, (M6.same s7).less (by omega), fun sp H8 sp0 sp1 M8 k8 => ?_⟩
      refine r_I0 (r_nil ?_)
      obtain ⟨sn, esn⟩ : ∃ i : Nat, 1 + sp = (i : Int) := ⟨(1 + sp).toNat, by omega⟩
      rw [esn]
      have hp8 := k8 _ _ pm pg (s7 _ _ hp6)
      have hpt8 := k8 _ _ ptm.1 ptm.2 (s7 _ _ hpt6)
      have hq8 := k8 _ _ qm qg (upd_same (H := H6) (a := q) (o := .lst []))
      have kt8 : KT H6 H8 := (KT.of s7).tr (KT.kp (M6.same s7) k8)
      refine ⟨(sn : Int), rfl, by omega, by omega, for_range (lo := 0) (n := (sn : Int).toNat)
        (fun j σ H' => ∃ (o10 o11 : Option V) (ys : List V) (b : List Seat), σ = [some (.ref m), some (.int 3), some (.int 3), some (.int 4), some (.int (0 + (i : Int))), some (.ref pt), some (.int (wn : Nat)), some (.int (mn : Nat)), some (.ref p), some (.ref q), o10, o11] ∧ H' q = some (.lst ys) ∧ ys.length = j ∧ b.length = j ∧ DtA K H' ys (b.map Seat.d) ∧
          (∀ s ∈ b, DrawnS ns mn wn s) ∧ MAt m c g H' (r + (96 - 19 * i - 6 * j)) ∧ H' pt = some (.lst (ns.map V.int)) ∧ H' p = some (.lst xs) ∧ KT H6 H' ∧ Kp m g H H')
        ⟨_, _, [], [], rfl, hq8, rfl, rfl, .nil, (fun _ z => nomatch z), M8, hpt8, hp8, kt8, (kp6.tr (Kp.of s7)).tr k8⟩ ?_ ?_⟩
      · rintro j σ H9 hj ⟨o10, o11, ys, b, rfl, hq9, ly, lb2, ay, gs, M9, hpt9, hp9, kt9, kp9⟩
        rw [Int.toNat_natCast] at hj
        walk_at "st"
        refine r_call (r_cons (r_v rfl (r_cons (r_v rfl (r_nil ?_)))))
        refine ⟨m, c, g, r + (95 - 19 * i - 6 * j), .ref pt, rfl, M9.less (by omega), Or.inl ⟨ns, .lst (by rw [wo_at (B2_no ptm.1 ptm.2)]; exact hpt9) (dts ns), lt0, by omega, fun tm H10 htm M10 k10 => ?_⟩⟩
        have tm6 := cn tm htm
        walk_at "st"
        have hq10 := k10 _ _ qm qg hq9
        refine ⟨_, rfl, Or.inl ⟨rfl, _, SqL.of hq10⟩, ?_⟩
        refine r_cons (r_tup (r_cons (r_v rfl (r_cons (r_call (r_cons (r_v rfl (r_cons (r_v rfl (r_nil ?_)))))))))) 
        refine ⟨m, c, g, r + (94 - 19 * i - 6 * j), tm, rfl, by omega, by omega, M10.less (by omega), fun ph H11 ph0 ph1 M11 k11 => ?_⟩
        refine r_cons (r_call (r_cons (r_v rfl (r_cons (r_v rfl (r_cons (r_v rfl (r_nil ?_))))))))
        refine ⟨m, c, g, r + (90 - 19 * i - 6 * j), mn, wn, rfl, m1, by omega, by omega, M11.less (by omega), fun vw H12 wy hwy aw M12 k12 => ?_⟩
        refine r_nil ⟨sz1 (show 3 ≤ 100000 by decide), fun T2 nT2 => ?_⟩
        refine r_nil ?_
        have s13 : Same H12 (upd H12 T2 (.tup [.int tm, .int ph, vw])) := same_new nT2
        have kq : Kp m g H9 (upd H12 T2 (.tup [.int tm, .int ph, vw])) := ((k10.tr k11).tr k12).tr (Kp.of s13)
        have hq13 := kq _ _ qm qg hq9
        have hp13 := kq _ _ pm pg hp9
        have hpt13 := kq _ _ ptm.1 ptm.2 hpt9
        have kt13 : KT H9 (upd H12 T2 (.tup [.int tm, .int ph, vw])) := (((KT.kp M9 k10).tr (KT.kp M10 k11)).tr (KT.kp M11 k12)).tr (KT.of s13)
        have M13 := M12.same s13
        obtain ⟨tn, rfl⟩ : ∃ i : Nat, tm = (i : Int) := ⟨tm.toNat, by omega⟩
        obtain ⟨pn, rfl⟩ : ∃ i : Nat, ph = (i : Int) := ⟨ph.toNat, by omega⟩
        have aT : Dt K (upd H12 T2 (.tup [.int (tn : Int), .int (pn : Int), vw])) (.ref T2) (Seat.d ⟨tn, pn, wy⟩) := .tup (SqT.of upd_same) (.cons (.int _) (.cons (.int _) (.cons ((aw.dt).gr s13) .nil)))
        generalize upd H12 T2 (.tup [.int (tn : Int), .int (pn : Int), vw]) = H13 at hq13 hp13 hpt13 kt13 M13 aT kq ⊢
        refine ⟨q, ys, .ref T2, rfl, rfl, hq13, sz2 (by omega), ?_⟩
        walk_at "st"
        have ktE : KT H13 (upd H13 q (.lst (ys ++ [.ref T2]))) := KT.updL hq13
        refine ⟨_, _, ys ++ [.ref T2], b ++ [⟨tn, pn, wy⟩], rfl, upd_same, by rw [List.length_append, ly]; rfl, by rw [List.length_append, lb2]; rfl, ?_, fun s hs => ?_, (M13.upd' qm qc qg).less (by omega), by rw [upd_ne qt]; exact hpt13, by rw [upd_ne qp]; exact hp13, (kt9.tr kt13).tr ktE, fun a o h1 h2 e => ?_⟩
        · rw [List.map_append]
          exact DtA.app (DtA.kt (kt13.tr ktE) ay (nlA_map nl_seat b)) (.cons (Dt.kt ktE aT (nl_seat _)) .nil)
        · rcases List.mem_append.mp hs with hs | hs
          · exact gs s hs
          · rw [List.mem_singleton] at hs
            subst hs
            exact ⟨htm, show pn < tn by omega, hwy⟩
        · rw [upd_ne (fun z => by rw [z, nqH] at e; cases e)]
          exact kq _ _ h1 h2 (kp9 _ _ h1 h2 e)
      · rintro σ H9 ⟨o10, o11, ys, b, rfl, hq9, ly, lb2, ay, gs, M9, hpt9, hp9, kt9, kp9⟩
        rw [Int.toNat_natCast] at ly lb2 M9
        walk_at "st"
        have mkT := mk_tupL (K := K) (σ := [some (.ref m), some (.int 3), some (.int 3), some (.int 4), some (.int (0 + (i : Int))), some (.ref pt), some (.int (wn : Nat)), some (.int (mn : Nat)), some (.ref p), some (.ref q), o10, o11]) (mk_var (n := 9) rfl (.lst hq9 ay))
        refine r_app (K := K) (d := bodyD b) rfl hp9 (by omega) mkT fun v H10 s10 a => ?_
        walk_at "st"
        have hp10 := s10 _ _ hp9
        have ktE : KT H10 (upd H10 p (.lst (xs ++ [v]))) := KT.updL hp10
        refine ⟨_, _, _, _, xs ++ [v], bs ++ [b], rfl, upd_same, by rw [List.length_append, lx]; rfl, by rw [List.length_append, lb]; rfl, ?_, fun b' hb' => ?_, ((M9.same s10).upd' pm pc pg).less (by omega), by rw [upd_ne pp]; exact s10 _ _ hpt9, fun a' o h1 h2 e => ?_⟩
        · rw [List.map_append]
          exact DtA.app (DtA.kt ((kt9.tr (KT.of s10)).tr ktE) ax (nlA_map nl_body bs)) (.cons (Dt.kt ktE a (nl_body b)) .nil)
        · rcases List.mem_append.mp hb' with hb' | hb'
          · exact gb b' hb'
          · rw [List.mem_singleton] at hb'
            subst hb'
            exact ⟨by omega, by omega, gs⟩
        · rw [upd_ne (fun z => by rw [z, npH] at e; cases e)]
          exact s10 _ _ (kp9 _ _ h1 h2 e)
    · rintro σ H6 ⟨o4, o9, o10, o11, xs, bs, rfl, hp6, lx, lb, ax, gb, M6, hpt6, kp6⟩
      rw [Int.toNat_natCast] at lx lb M6
      walk_at "st"
      subst lb
      have okH := drawn_ok hns w4 m1 m3 gb
      have res := mk_tup (K := K) (σ := [some (.ref m), some (.int 3), some (.int 3), some (.int 4), o4, some (.ref pt), some (.int (wn : Nat)), some (.int (bs.length : Nat)), some (.ref p), o9, o10, o11]) (mka_cons (mk_tupL (mk_var (n := 8) rfl (.lst hp6 ax))) (mka_cons (mk_var (n := 6) rfl (.int (wn : Int))) mka_nil)) (show 2 ≤ 100000 by decide)
      exact res H6 Gr.rfl' _ fun v H7 s7 a => k v H7 ⟨bs, wn⟩ okH a ((M6.same s7).less (by omega)) (kp6.tr (Kp.of s7))
end
section
variable {P : Program} {w : World} {K : PySem.W.Frag} {mg : Str → Option Value} {base : Heap} {pT : Addr}
theorem ok_FS {f fO : Addr} {fd fdO : FuncData} (F : L2.Fun K "_law_first" "_law_first" sFS f fd) (Z : Blt2 mg) (d_law_of : Dok P w K mg base 3 "_law_of" ["m", "some"] (spOf K) fO fdO) : FnOk P w K mg base CX0 4 f fd ["m", "home"] (spFirst K) := by
  refine F.ok scFS (fun vs H Q E h => ?_) (fun cdv A outer s H vs Q E hr h => ?_)
  · obtain ⟨m, c, g, r, x, hh, rfl, _⟩ := h
    rfl
  · obtain ⟨m, c, g, r, x, hh, rfl, x1, ok, M, k⟩ := h
    have ok3 := ok.n3
    refine ⟨_, (pss_one (ps_ret (pe_callTy call_tuple_of (by rfl) Z.tuple (by decide +kernel) (pa_cons (pe_lc (own := [("row", 2)]) (g := gName 2) (tt := tYes) rfl scFS.nd (pi_tup (pe_ix ix_tup (pv 1) pe_int (fun _ _ => rfl))) (blkOk_by (N := ["m", "home", "row", "seat"]) (sc := defScope sFS) (by decide +kernel)) (fun _ _ _ _ _ => pg_name (i := 2) scFS.nd rfl (Or.inl rfl)) (fun _ _ _ _ _ => pts_nil) (fun _ _ _ _ _ => (pe_m1 PySem.F.slot_str_join PySem.F.type_str_join (mt_joinK (K := K) rfl) pe_str (pe_lc (own := [("seat", 3)]) (g := gName 3) (tt := tYes) rfl scFS.nd (pi_tupK (K := K) rfl (pv 2)) (blkOk_by (by rfl)) (fun _ _ _ _ _ => pg_name (i := 3) scFS.nd rfl (Or.inl rfl)) (fun _ _ _ _ _ => pts_nil) (fun _ _ _ _ _ => (pe_call d_law_of.G (hr.mono (by decide)) rfl d_law_of.g d_law_of.k d_law_of.b .nil pass0 (pa_cons (pv 0) (pa_cons pe_str pa_nil)))))))) pa_nil)))), ?_⟩
    walk_at "st"
    refine r_cb (r_cons ?_)
    cases x1 with
    | @tup q qs _ eq aq =>
    obtain ⟨u1, u2, rfl, au1, au2⟩ := aq.two
    cases au1 with
    | @tup p xs _ e aa =>
    have lx := aa.len
    rw [List.length_map] at lx
    refine ⟨_, rfl, q, _, 0, _, rfl, rfl, eq, rfl, p, rfl, ⟨xs, e⟩, fun L nL => ?_⟩
    obtain ⟨Lm, Lc, Lg⟩ := new_m3 M nL
    refine lc_it (walk_tup (K := K) (a := p) (xs := xs)) (fun j H' => ∃ ss : List (List Bool), ss.length = j ∧ ss.map List.length = (hh.bodies.take j).map List.length ∧ H' L = some (.lst (ss.map fun l => V.str (sideS l))) ∧ MAt m c g H' (r + (27 - 9 * j)) ∧ Kp m g H H' ∧ KT H H')
      ⟨[], rfl, rfl, upd_same, (M.same (same_new nL)).less (by omega), Kp.of (same_new nL), KT.of (same_new nL)⟩ (fun j H' _ z => ?_) ?_ ?_
    · obtain ⟨_, _, _, _, _, _, kt⟩ := z
      rcases e with (e | ⟨u, e⟩) | e
      · exact Or.inl (Or.inl ((kt p xs).1 e))
      · exact Or.inl (Or.inr ⟨u, (kt p xs).2 u e⟩)
      · exact Or.inr e
    · rintro j y H' H'' hj ⟨ss, lss, fss, hL, M', kp, kt⟩ ⟨rfl, hy⟩
      obtain ⟨z, hz, az⟩ := aa.at hy
      obtain ⟨b, hb, rfl⟩ := at_map hz
      have b9 := (ok.b b (List.mem_of_getElem? hb)).2
      have ay := Dt.kt kt az (nl_body b)
      refine r_name ⟨rfl, r_yes ?_⟩
      refine ⟨⟨_, rfl⟩, ?_⟩
      cases ay with
      | @tup pb ys _ eb ab =>
      have ly := ab.len
      rw [List.length_map] at ly
      refine ⟨_, rfl, ⟨pb, rfl, ⟨ys, eb⟩, fun L2 nL2 => lc_letters (K := K) (walk_tup (K := K) (a := pb) (xs := ys)) (fun i H x H' z => z.1) (r := r + (27 - 9 * (j + 1))) (fun H3 kt3 => ?_) (by omega) (fun _ => rfl) (fun _ => rfl) (M'.less (by omega)) nL2 fun H3 l ll hL2 M3 k3 kt3 => ?_⟩⟩
      · rcases eb with (eb | ⟨u, eb⟩) | eb
        · exact Or.inl (Or.inl ((kt3 pb ys).1 eb))
        · exact Or.inl (Or.inr ⟨u, (kt3 pb ys).2 u eb⟩)
        · exact Or.inr eb
      · refine ⟨_, L2, l.map fun x => sideS [x], rfl, rfl, Or.inl (SqL.of (by rw [List.map_map]; exact hL2)), join_ok (by omega), ?_⟩
        rw [join_side]
        have hL3 := k3 _ _ Lm Lg hL
        refine ⟨_, hL3, by rw [List.length_map, lss]; exact sz2 (by omega), ss ++ [l], by rw [List.length_append, lss]; rfl, ?_, by rw [upd_same, List.map_append]; rfl, M3.upd' Lm Lc Lg, fun a o h1 h2 e' => ?_, (kt.tr kt3).tr (KT.updL hL3)⟩
        · rw [List.take_add_one, hb, List.map_append, List.map_append, fss, Option.toList_some, List.map_cons, List.map_nil, List.map_cons, List.map_nil]
          congr 2
          omega
        · rw [upd_ne (fun z => by rw [z, nL] at e'; cases e')]
          exact k3 _ _ h1 h2 (kp _ _ h1 h2 e')
    · rintro H' ⟨ss, lss, fss, hL, M', kp, kt⟩
      refine r_nil ⟨L, _, rfl, Or.inl ⟨SqL.of hL, fun T nT => ?_⟩⟩
      rw [lx, List.take_length] at fss
      refine k _ _ ss fss (.tup (SqT.of upd_same) ?_) ((M'.same (same_new nT)).less (by omega)) (kp.tr (Kp.of (same_new nT)))
      have aux : ∀ {H' : Hp} (ls : List (List Bool)), DtA K H' (ls.map fun l => V.str (sideS l)) (ls.map fun l => D.str (sideS l)) := by
        intro H' ls
        induction ls with
        | nil => exact .nil
        | cons l ls ih => exact .cons (.str _) ih
      exact aux _
end
/-- _law_of a list of any data, apart from the drawn state -/
def spOfG (K : PySem.W.Frag) : Sp := fun vs H Q _ => ∃ (m c g : Addr) (r : Nat) (x : V) (ds : List D), vs = [.ref m, x] ∧ MAt m c g H (r + 1) ∧ Ap K m g H x (.lst ds) ∧ 0 < ds.length ∧ ds.length ≤ 1000 ∧ ∀ v H' d, d ∈ ds → Ap K m g H' v d → MAt m c g H' r → Kp m g H H' → Q v H'
section
variable {P : Program} {w : World} {K : PySem.W.Frag} {mg : Str → Option Value} {base : Heap}
theorem ok_OG {f fD : Addr} {fd fdD : FuncData} (F : L2.Fun K "_law_of" "_law_of" sOF f fd) (B : Blt mg) (d_law_draw : Dok P w K mg base 2 "_law_draw" ["m", "limit"] spDraw fD fdD) : FnOk P w K mg base CX0 3 f fd ["m", "some"] (spOfG K) := by
  refine F.ok scOF (fun vs H Q E h => ?_) (fun cdv A outer s H vs Q E hr h => ?_)
  · obtain ⟨m, c, g, r, x, ds, rfl, _⟩ := h
    rfl
  · obtain ⟨m, c, g, r, x, ds, rfl, M, ax, l0, l1, k⟩ := h
    cases ax with
    | @lst p xs _ e aa =>
    have lx := aa.len
    refine ⟨_, (pss_one (ps_ret (pe_ix ix_list (pv 1) (pe_call d_law_draw.G (hr.mono (by decide)) rfl d_law_draw.g d_law_draw.k d_law_draw.b .nil pass0 (pa_cons (pv 0) (pa_cons (pe_callB call_len_seq (by rfl) B.len PySem.boot_len (pa_cons (pv 1) pa_nil)) pa_nil))) (fun _ _ => rfl)))), ?_⟩
    walk_at "rd"
    refine ⟨p, _, rfl, Or.inl (SqL.of (wo_le _ _ e)), ?_⟩
    refine r_nil ⟨m, c, g, r, _, rfl, by omega, by omega, M, fun v H1 p0 p1 M1 k1 => ?_⟩
    obtain ⟨i, rfl⟩ : ∃ i : Nat, v = (i : Int) := ⟨v.toNat, by omega⟩
    have li : i < ds.length := by omega
    have e1 := wo_kp k1 B2_m B2_g _ _ e
    obtain ⟨y, hy, ay⟩ := (DtA.gr (wo_kp k1 B2_m B2_g) aa).nth (List.getElem?_eq_getElem li)
    exact ⟨p, _, (i : Int), y, rfl, rfl, SqL.of (wo_le _ _ e1), atI_nat hy, k y H1 _ (List.getElem_mem li) ay M1 k1⟩
end
end TSx

namespace TSx
open PySem L2
local macro_rules | `(tactic| walk_at "rd") => `(tactic| repeat (first
  | ((with_reducible show tVar _ _ _ _); refine r_v rfl ?_)
  | with_reducible refine r_c ?_
  | with_reducible refine r_op ?_
  | with_reducible refine r_I0 ?_
  | with_reducible refine r_cb ?_
  | with_reducible refine r_nil ?_
  | with_reducible refine r_cons ?_
  | with_reducible refine r_seq ?_
  | with_reducible refine r_next ?_
  | with_reducible refine r_asg ?_
  | with_reducible refine r_name ?_
  | with_reducible refine r_ret ?_
  | with_reducible refine r_drop ?_
  | with_reducible refine r_if ?_
  | with_reducible refine r_test ?_
  | with_reducible refine r_bl ?_
  | with_reducible refine r_call ?_))
local macro_rules | `(tactic| walk_at "st") => `(tactic| repeat (first
  | with_reducible refine r_seq ?_
  | with_reducible refine r_next ?_
  | with_reducible refine r_asg ?_
  | with_reducible refine r_name ?_
  | with_reducible refine r_ret ?_
  | with_reducible refine r_drop ?_
  | with_reducible refine r_if ?_))
local macro_rules | `(tactic| walk_at "mk") => `(tactic| repeat (first
  | with_reducible exact mk_non
  | with_reducible exact mk_int
  | with_reducible exact mk_str
  | with_reducible exact mk_bl
  | with_reducible exact mk_dic
  | with_reducible exact mka_nil
  | with_reducible refine mka_cons ?_ ?_
  | ((with_reducible refine mk_tup ?_ ?hz); (case hz => decide))
  | ((with_reducible refine mk_lst ?_ ?hz); (case hz => decide))
  | with_reducible refine mk_neg ?_))
abbrev sII : Stmt := top 46
abbrev sIW : Stmt := top 48
abbrev sIE : Stmt := top 49
abbrev sBW : Stmt := top 51
theorem scII : FnScope ["thing", "low", "high"] ["thing", "low", "high"] (defScope sII) := ⟨rfl, rfl, rfl, by decide +kernel, rfl, by decide +kernel, by decide +kernel⟩
theorem scIW : FnScope ["thing", "many", "wards"] ["thing", "many", "wards"] (defScope sIW) := ⟨rfl, rfl, rfl, by decide +kernel, rfl, by decide +kernel, by decide +kernel⟩
theorem scIE : FnScope ["thing", "many", "wards"] ["thing", "many", "wards"] (defScope sIE) := ⟨rfl, rfl, rfl, by decide +kernel, rfl, by decide +kernel, by decide +kernel⟩
theorem scBW : FnScope ["thing"] ["thing"] (defScope sBW) := ⟨rfl, rfl, rfl, by decide +kernel, rfl, by decide +kernel, by decide +kernel⟩
def fBWn (ds : List D) (r : D) : Prop := ∃ d, ds = [d] ∧ d.nx = true ∧ r = .lst (wrBd d).toList
theorem isWd_no {d : D} (ws : List Str) (h : isS d = false) : isWd d ws = false := by cases d <;> first | rfl | (cases h)
theorem isWy_no {a : D} {r : List D} {n w : Int} (h : isS a = false) : isWy (.tup (a :: r)) n w = false := by
  unfold isWy
  split <;> first | (rename_i e; cases e; simp [isWd_no _ h]) | rfl
section
variable {P : Program} {w : World} {K : PySem.W.Frag} {mg : Str → Option Value} {base : Heap}
theorem ok_II {f : Addr} {fd : FuncData} (F : L2.Fun K "_law_is_int" "_law_is_int" sII f fd) (B : Blt mg) (Z : Blt2 mg) : FnOk P w K mg base CX0 1 f fd ["thing", "low", "high"] (spP K fWn) := by
  refine F.ok scII (spP_len (n := 3) fun ds r h => by obtain ⟨_, _, _, rfl, _⟩ := h; rfl) (fun cdv A outer s H vs Q E hr h => ?_)
  obtain ⟨_, _, ha, ⟨d, a, b, rfl, hn, rfl⟩, k⟩ := h
  obtain ⟨v1, v2, v3, rfl, x1, x2, x3⟩ := ha.three
  refine ⟨_, (pss_one (ps_ret (pe_and (pe_callB call_isi (by rfl) B.isinstance PyProof.Rows.boot_isinstance (pa_cons (pv 0) (pa_cons (pe_bltn (v := .ty "int") (by rfl) Z.int (by decide +kernel) rfl) pa_nil))) (pe_and (pe_not (pe_callB call_isi (by rfl) B.isinstance PyProof.Rows.boot_isinstance (pa_cons (pv 0) (pa_cons (pe_bltn (v := .ty "bool") (by rfl) Z.bool (by decide +kernel) rfl) pa_nil)))) (pe_one (pe_chain op_le op_le (pv 1) (pv 0) (pv 2))))))), ?_⟩
  walk_at "st"
  exact mk_whole (mk_var rfl x1) hn (mk_var rfl x2) (mk_var rfl x3) H Gr.rfl' _ fun v H1 s1 a1 => k v H1 s1 a1
theorem ok_IW {f fN : Addr} {fd fdN : FuncData} (F : L2.Fun K "_law_is_way" "_law_is_way" sIW f fd) (B : Blt mg) (Z : Blt2 mg) (d_law_is_int : Dok P w K mg base 1 "_law_is_int" ["thing", "low", "high"] (spP K fWn) fN fdN) :
    FnOk P w K mg base CX0 2 f fd ["thing", "many", "wards"] (spP K fWyn) := by
  refine F.ok scIW (spP_len (n := 3) fun ds r h => by obtain ⟨_, _, _, rfl, _⟩ := h; rfl) (fun cdv A outer s H vs Q E hr h => ?_)
  obtain ⟨_, _, ha, ⟨d, n, m, rfl, hn, rfl⟩, k⟩ := h
  obtain ⟨v1, v2, v3, rfl, x1, x2, x3⟩ := ha.three
  refine ⟨_, (pss_cons (ps_if (PW.pt (pw_or (pt_not (pt_val (pe_callB call_isi (by rfl) B.isinstance PyProof.Rows.boot_isinstance (pa_cons (pv 0) (pa_cons (pe_bltn (v := .ty "tuple") (by rfl) Z.tuple (by decide +kernel) rfl) pa_nil))))) (pw_or (pt_cmpR (op_eqE (Nat.lt_of_le_of_lt (Nat.le_add_right _ 64) hr.units)) (pv 0) (pe_tup pa_nil) (nomark _)) (pw_or1 (pt_not (pt_val (pe_callB call_isi (by rfl) B.isinstance PyProof.Rows.boot_isinstance (pa_cons (pe_ix ix_tup (pv 0) pe_int (fun _ _ => rfl)) (pa_cons (pe_bltn (v := .ty "str") (by rfl) Z.str (by decide +kernel) rfl) pa_nil))))))))) (pss_one (ps_ret pe_bl)) pss_nil)
  (pss_cons (ps_if (pt_cmpR op_eq (pe_ix ix_tup (pv 0) pe_int (fun _ _ => rfl)) pe_str (nomark _)) (pss_one (ps_ret (pe_and (pe_cmpR op_eq (pe_callB call_len_seq (by rfl) B.len PySem.boot_len (pa_cons (pv 0) pa_nil)) pe_int (nomark _)) (pe_one (pe_call d_law_is_int.G (hr.mono (by decide)) rfl d_law_is_int.g d_law_is_int.k d_law_is_int.b .nil pass0 (pa_cons (pe_ix ix_tup (pv 0) pe_int (fun _ _ => rfl)) (pa_cons pe_int (pa_cons (pe_op op_sub (pv 2) pe_int) pa_nil)))))))) pss_nil)
  (pss_cons (ps_if (pt_cmpR op_eq (pe_ix ix_tup (pv 0) pe_int (fun _ _ => rfl)) pe_str (nomark _)) (pss_one (ps_ret (pe_cmpR op_eq (pe_callB call_len_seq (by rfl) B.len PySem.boot_len (pa_cons (pv 0) pa_nil)) pe_int (nomark _)))) pss_nil)
  (pss_cons (ps_if (PW.pt (pw_or (pt_cmpR op_notIn_seq (pe_ix ix_tup (pv 0) pe_int (fun _ _ => rfl)) (pe_tup (pa_cons pe_str (pa_cons pe_str pa_nil))) rfl) (pw_or (pt_cmpR op_ne (pe_callB call_len_seq (by rfl) B.len PySem.boot_len (pa_cons (pv 0) pa_nil)) pe_int (nomark _)) (pw_or1 (pt_not (pt_val (pe_call d_law_is_int.G (hr.mono (by decide)) rfl d_law_is_int.g d_law_is_int.k d_law_is_int.b .nil pass0 (pa_cons (pe_ix ix_tup (pv 0) pe_int (fun _ _ => rfl)) (pa_cons pe_int (pa_cons (pe_op op_sub (pv 1) pe_int) pa_nil)))))))))) (pss_one (ps_ret pe_bl)) pss_nil)
  (pss_one (ps_ret (pe_and (pe_callB call_isi (by rfl) B.isinstance PyProof.Rows.boot_isinstance (pa_cons (pe_ix ix_tup (pv 0) pe_int (fun _ _ => rfl)) (pa_cons (pe_bltn (v := .ty "str") (by rfl) Z.str (by decide +kernel) rfl) pa_nil))) (pe_one (pe_cmpR op_in_seq (pe_ix ix_tup (pv 0) pe_int (fun _ _ => rfl)) (pe_tup (pa_cons pe_str (pa_cons pe_str (pa_cons pe_str pa_nil)))) rfl))))))))), ?_⟩
  have t1 : MkT _ ([some v1, some v2, some v3] : Sg) H _ := mt_not (mt_B (mk_isT (mk_var (n := 0) rfl x1) hn))
  walk_at "st"
  have no : ∀ H1, Same H H1 → isWy d n m = false → Q (.bl false) H1 := fun H1 s1 e => k _ H1 s1 (by rw [e]; exact .bl false)
  cases d with
  | tup xs =>
    have nA : nxA xs = true := hn
    match xs, x1, nA, no, k, t1 with
    | [], x1, _, no, _, t1 =>
      refine mt_or2 (b := true) t1 (fun _ => mt_or2 (b := false) (mt_test (mk_eqE (mk_var rfl x1))) (fun z => by cases z)) H Gr.rfl' _ fun H1 s1 => iteT ?_
      walk_at "rd"
      exact no H1 s1 rfl
    | a :: r, x1, nA, no, k, t1 =>
      have na := nxA_mem nA (List.mem_cons_self ..)
      refine mt_or2 (b := !isS a) t1 (fun _ => mt_or2 (a := false) (b := !isS a) (mt_test (mk_eqE (mk_var rfl x1))) (fun _ => mt_not (mt_B (mk_isS (mk_ixT (i := 0) (mk_var rfl x1) mk_int rfl) na)))) H Gr.rfl' _ fun H1 s1 => ?_
      cases hs : isS a with
      | false =>
        refine iteT ?_
        walk_at "rd"
        exact no H1 s1 (isWy_no hs)
      | true =>
        refine iteF ?_
        obtain ⟨x, rfl⟩ : ∃ x, a = .str x := by
          cases a with
          | str x => exact ⟨x, rfl⟩
          | _ => cases hs
        have y1 := x1.gr s1
        walk_at "st"
        refine mt_test (mk_eqS (mk_ixT (i := 0) (mk_var rfl y1) mk_int rfl) mk_str) H1 Gr.rfl' _ fun H2 s2 => ?_
        have z1 := y1.gr s2
        have z3 := x3.gr (s1.trans s2)
        have z2 := x2.gr (s1.trans s2)
        by_cases hw : x = "ward"
        · subst hw
          rw [decide_eq_true rfl]
          refine iteT ?_
          walk_at "st"
          match r, nA, z1, k with
          | [b], nA, z1, k =>
            have nb := nxA_mem nA (show b ∈ [D.str "ward", b] by simp)
            exact mk_andV (a := true) (mk_eqI (mk_lenT (mk_var rfl z1)) (mk_int (i := 2))) (fun _ => mk_call (r := .bl (isW b 0 (m - 1))) (mka_cons (mk_ixT (i := 1) (mk_var rfl z1) mk_int rfl) (mka_cons mk_int (mka_cons (mk_I0 (g := fun i j => i - j) (mk_var rfl z3) (mk_int (i := 1))) mka_nil))) ⟨b, _, _, rfl, nb, rfl⟩) H2 Gr.rfl' _ fun v H3 s3 a3 => k v H3 ((s1.trans s2).trans s3) a3
          | [], _, z1, k => exact mk_andV (a := false) (b := false) (mk_eqI (mk_lenT (mk_var rfl z1)) (mk_int (i := 2))) (fun z => by cases z) H2 Gr.rfl' _ fun v H3 s3 a3 => k v H3 ((s1.trans s2).trans s3) a3
          | [b, c], _, z1, k => exact mk_andV (a := false) (b := false) (mk_eqI (mk_lenT (mk_var rfl z1)) (mk_int (i := 2))) (fun z => by cases z) H2 Gr.rfl' _ fun v H3 s3 a3 => k v H3 ((s1.trans s2).trans s3) a3
          | b :: c :: e :: r, _, z1, k =>
            have ln : decide ((((D.str "ward") :: b :: c :: e :: r).length : Int) = 2) = false := decide_eq_false (by simp only [List.length_cons]; omega)
            have q := mk_eqI (K := K) (σ := ([some v1, some v2, some v3] : Sg)) (mk_lenT (mk_var (n := 0) rfl z1)) (mk_int (i := 2))
            rw [ln] at q
            exact mk_andV (b := false) q (fun z => by cases z) H2 Gr.rfl' _ fun v H3 s3 a3 => k v H3 ((s1.trans s2).trans s3) a3
        rw [decide_eq_false hw]
        refine iteF ?_
        walk_at "st"
        refine mt_test (mk_eqS (mk_ixT (i := 0) (mk_var rfl z1) mk_int rfl) mk_str) H2 Gr.rfl' _ fun H3 s3 => ?_
        have u1 := z1.gr s3
        have u2 := z2.gr s3
        have sA := (s1.trans s2).trans s3
        have w0 : isWd (.str x) ["ward"] = false := by simp [isWd]; exact fun e => hw e.symm
        by_cases hk : x = "kept"
        · subst hk
          rw [decide_eq_true rfl]
          refine iteT ?_
          walk_at "st"
          have q := mk_eqI (K := K) (σ := ([some v1, some v2, some v3] : Sg)) (mk_lenT (mk_var (n := 0) rfl u1)) (mk_int (i := 1))
          have e : isWy (.tup (.str "kept" :: r)) n m = decide ((((D.str "kept") :: r).length : Int) = 1) := by
            match r with
            | [] => rfl
            | [b] => rfl
            | [b, c] => rfl
            | b :: c :: e :: r =>
              rw [decide_eq_false (by simp only [List.length_cons]; omega)]
              rfl
          rw [← e] at q
          exact q H3 Gr.rfl' _ fun v H4 s4 a4 => k v H4 (sA.trans s4) a4
        rw [decide_eq_false hk]
        refine iteF ?_
        have k0 : isWd (.str x) ["kept"] = false := by simp [isWd]; exact fun e => hk e.symm
        walk_at "st"
        have tn := mt_test (mk_notInT (K := K) (σ := ([some v1, some v2, some v3] : Sg)) (ws := ["body", "rest"]) (mk_ixT (i := 0) (mk_var (n := 0) rfl u1) mk_int rfl) (mk_tup (mka_cons mk_str (mka_cons mk_str mka_nil)) (show 2 ≤ 100000 by decide)))
        have tl := mt_test (mk_neI (K := K) (σ := ([some v1, some v2, some v3] : Sg)) (mk_lenT (mk_var (n := 0) rfl u1)) (mk_int (i := 3)))
        have no3 : ∀ H4, Same H3 H4 → isWy (.tup (.str x :: r)) n m = false → Q (.bl false) H4 := fun H4 s4 e => no H4 (sA.trans s4) e
        cases hb : (["body", "rest"] : List Str).any fun y => y == x with
        | false =>
          rw [hb] at tn
          refine mt_or2 (b := false) tn (fun z => by cases z) H3 Gr.rfl' _ fun H4 s4 => iteT ?_
          walk_at "rd"
          refine no3 H4 s4 ?_
          match r with
          | [] => exact k0
          | [b] => show (isWd (.str x) ["ward"] && _) = false; rw [w0]; rfl
          | [b, c] => show (isWd (.str x) ["body", "rest"] && _ && _) = false; rw [show isWd (.str x) ["body", "rest"] = false from hb]; rfl
          | b :: c :: e :: r => rfl
        | true =>
          rw [hb] at tn
          match r, nA, u1, tl, k, no3 with
          | [b, c], nA, u1, tl, k, no3 =>
            have nb := nxA_mem nA (show b ∈ [D.str x, b, c] by simp)
            have nc := nxA_mem nA (show c ∈ [D.str x, b, c] by simp)
            refine mt_or2 tn (fun _ => mt_or2 (a := false) tl (fun _ => mt_not (mt_callP (mka_cons (mk_ixT (i := 1) (mk_var rfl u1) mk_int rfl) (mka_cons (mk_int (i := 0)) (mka_cons (mk_I0 (g := fun i j => i - j) (mk_var rfl u2) (mk_int (i := 1))) mka_nil))) ⟨b, 0, n - 1, rfl, nb, rfl⟩))) H3 Gr.rfl' _ fun H4 s4 => ?_
            have eW : isWy (.tup [.str x, b, c]) n m = (isWd c tiesL && isW b 0 (n - 1)) := by
              show (isWd (.str x) ["body", "rest"] && isWd c tiesL && isW b 0 (n - 1)) = _
              rw [show isWd (.str x) ["body", "rest"] = true from hb, Bool.true_and]
            cases qb : isW b 0 (n - 1) with
            | false =>
              refine iteT ?_
              walk_at "rd"
              refine no3 H4 s4 ?_
              rw [eW, qb, Bool.and_false]
            | true =>
              refine iteF ?_
              walk_at "st"
              have v4 := u1.gr s4
              have an : Mk K _ ([some v1, some v2, some v3] : Sg) H4 (.bl (isS c && isWd c tiesL)) := mk_andV (mk_isS (mk_ixT (i := 2) (mk_var (n := 0) rfl v4) mk_int rfl) nc) (fun z => by
                cases c with
                | str y => exact mk_inT (ws := tiesL) (mk_ixT (i := 2) (mk_var (n := 0) rfl v4) mk_int rfl) (mk_tup (mka_cons mk_str (mka_cons mk_str (mka_cons mk_str mka_nil))) (show 3 ≤ 100000 by decide))
                | _ => cases z)
              rw [word_and] at an
              refine an H4 Gr.rfl' _ fun v H5 s5 a5 => k v H5 ((sA.trans s4).trans s5) ?_
              rw [eW, qb, Bool.and_true]
              exact a5
          | [], _, _, tl, k, no3 =>
            refine mt_or2 (b := true) tn (fun _ => mt_or2 (a := true) (b := false) tl (fun z => by cases z)) H3 Gr.rfl' _ fun H4 s4 => iteT ?_
            walk_at "rd"
            exact no3 H4 s4 k0
          | [b], _, _, tl, k, no3 =>
            refine mt_or2 (b := true) tn (fun _ => mt_or2 (a := true) (b := false) tl (fun z => by cases z)) H3 Gr.rfl' _ fun H4 s4 => iteT ?_
            walk_at "rd"
            refine no3 H4 s4 ?_
            show (isWd (.str x) ["ward"] && _) = false
            rw [w0]; rfl
          | b :: c :: e :: r, _, _, tl, k, no3 =>
            rw [show (!decide ((((D.str x) :: b :: c :: e :: r).length : Int) = 3)) = true by rw [decide_eq_false (by simp only [List.length_cons]; omega)]; rfl] at tl
            refine mt_or2 (b := true) tn (fun _ => mt_or2 (b := false) tl (fun z => by cases z)) H3 Gr.rfl' _ fun H4 s4 => iteT ?_
            walk_at "rd"
            exact no3 H4 s4 rfl
  | _ =>
    refine mt_or2 (b := false) t1 (fun z => by cases z) H Gr.rfl' _ fun H1 s1 => iteT ?_
    walk_at "rd"
    exact no H1 s1 rfl
end
end TSx

namespace TSx
open PySem L2
local macro_rules | `(tactic| walk_at "rd") => `(tactic| repeat (first
  | ((with_reducible show tVar _ _ _ _); refine r_v rfl ?_)
  | with_reducible refine r_c ?_
  | with_reducible refine r_op ?_
  | with_reducible refine r_I0 ?_
  | with_reducible refine r_cb ?_
  | with_reducible refine r_nil ?_
  | with_reducible refine r_cons ?_
  | with_reducible refine r_seq ?_
  | with_reducible refine r_next ?_
  | with_reducible refine r_asg ?_
  | with_reducible refine r_name ?_
  | with_reducible refine r_ret ?_
  | with_reducible refine r_drop ?_
  | with_reducible refine r_if ?_
  | with_reducible refine r_test ?_
  | with_reducible refine r_bl ?_
  | with_reducible refine r_call ?_))
local macro_rules | `(tactic| walk_at "st") => `(tactic| repeat (first
  | with_reducible refine r_seq ?_
  | with_reducible refine r_next ?_
  | with_reducible refine r_asg ?_
  | with_reducible refine r_name ?_
  | with_reducible refine r_ret ?_
  | with_reducible refine r_drop ?_
  | with_reducible refine r_if ?_))
local macro_rules | `(tactic| walk_at "mk") => `(tactic| repeat (first
  | with_reducible exact mk_non
  | with_reducible exact mk_int
  | with_reducible exact mk_str
  | with_reducible exact mk_bl
  | with_reducible exact mk_dic
  | with_reducible exact mka_nil
  | with_reducible refine mka_cons ?_ ?_
  | ((with_reducible refine mk_tup ?_ ?hz); (case hz => decide))
  | ((with_reducible refine mk_lst ?_ ?hz); (case hz => decide))
  | with_reducible refine mk_neg ?_))
local macro_rules | `(tactic| walk_at "kb") => `(tactic| repeat (first
  | with_reducible exact kb_non
  | with_reducible exact kb_int
  | with_reducible exact kb_str
  | with_reducible exact kb_bl
  | with_reducible exact kb_dic (by assumption)
  | with_reducible exact kba_nil
  | with_reducible refine kba_cons ?_ ?_
  | ((with_reducible refine kb_tup (by assumption) ?_ ?hz); (case hz => decide))
  | ((with_reducible refine kb_lst (by assumption) ?_ ?hz); (case hz => decide))
  | with_reducible refine kb_neg ?_))
abbrev sLI : Stmt := top 42
abbrev sOD : Stmt := top 44
theorem scLI : FnScope ["m"] ["m"] (defScope sLI) := ⟨rfl, rfl, rfl, by decide +kernel, rfl, by decide +kernel, by decide +kernel⟩
theorem scOD : FnScope ["some"] [] (defScope sOD) := ⟨rfl, rfl, rfl, by decide +kernel, rfl, by decide +kernel, by decide +kernel⟩
theorem scBW2 : FnScope ["thing"] ["thing"] (defScope sBW) := ⟨rfl, rfl, rfl, by decide +kernel, rfl, by decide +kernel, by decide +kernel⟩
def odds1 : List D := [.non, .int 0, .int 1, .int (-1), .int 5, .bl true, .str "", .str "a", .str "ab", .str "aa", .str "c", .str "A", .tup [], .tup [.str "a"], .tup [.int 0], .tup [.tup []], .lst [], .dic [], .tup [.str "kept"]]
def odds2 : List D := [.tup [.non, .int 1], .int (10 ^ (30 : Int).toNat), .tup [.str "ward", .int 0], .tup [.str "body", .int 0, .str "a"], .tup [.int 1, .int 0, .tup [.str "kept"]]]
def spOdds (K : PySem.W.Frag) : Sp := fun vs H Q _ => vs = [] ∧ ∀ v H', Same H H' → Dt K (wo (dom H) H') v (.lst (odds1 ++ odds2)) → Q v H'
theorem odds_gd : ∀ d ∈ odds1 ++ odds2, Gd 0 700 2 d := by
  have h : (odds1 ++ odds2).all (fun d => d.gd 0 && decide (d.wg ≤ 700) && decide (d.dg ≤ 2)) = true := by decide +kernel
  intro d hd
  have := List.all_eq_true.mp h d hd
  simp only [Bool.and_eq_true, decide_eq_true_eq] at this
  exact ⟨this.1.1, this.1.2, this.2⟩
def limD (t : D) (g : Int) : D := .tup [t, .int g]
def spLim (K : PySem.W.Frag) : Sp := fun vs H Q _ => ∃ (m c g : Addr) (r : Nat), vs = [.ref m] ∧ MAt m c g H (r + 2) ∧ ∀ v H' d, Gd 0 400 1 d → Ap K m g H' v d → MAt m c g H' r → Kp m g H H' → Q v H'
section
variable {P : Program} {w : World} {K : PySem.W.Frag} {mg : Str → Option Value} {base : Heap} {σ : Sg} {H : Hp} {tl : TE}
/-- [d, ..][draw(m, as many)] -/
theorem r_pickD {m c g : Addr} {r n : Nat} {ds : List D} {Q : VK} {l : Int} (hn : σ[n]? = some (some (.ref m))) (M : MAt m c g H (r + 1)) (ml : MkB K (B2 m g) tl σ H (.lst ds)) (l0 : 0 < ds.length) (hz : ds.length ≤ 1000) (el : l = (ds.length : Int))
    (k : ∀ v H' d, d ∈ ds → Ap K m g H' v d → MAt m c g H' r → Kp m g H H' → Q v H') : tOp (rIxL K) tl (tCall spDraw [] E0 (tCons (tVar n) (tCons (tC (.int l)) tNil))) σ H Q := by
  subst el
  refine ml H Gr.rfl' _ fun v H1 s1 a => ?_
  refine r_call (r_cons (r_v hn (r_cons (r_c (r_nil ?_)))))
  refine ⟨m, c, g, r, (ds.length : Int), rfl, by omega, by omega, M.same s1, fun v2 H2 p0 p1 M2 k2 => ?_⟩
  obtain ⟨i, rfl⟩ : ∃ i : Nat, v2 = (i : Int) := ⟨v2.toNat, by omega⟩
  have li : i < ds.length := by omega
  have a2 := Ap.kp a k2
  cases a2 with
  | @lst p xs _ e aa =>
  obtain ⟨x, hx, ax⟩ := aa.nth (List.getElem?_eq_getElem li)
  exact ⟨p, xs, (i : Int), x, rfl, rfl, SqL.of (wo_le _ _ e), atI_nat hx, k x H2 _ (List.getElem_mem li) ax M2 ((Kp.of s1).tr k2)⟩
theorem ok_OD {f : Addr} {fd : FuncData} (F : L2.Fun K "_law_odds" "_law_odds" sOD f fd) : FnOk P w K mg base CX0 1 f fd [] (spOdds K) := by
  refine F.ok scOD (fun vs H Q E h => by obtain ⟨rfl, _⟩ := h; rfl) (fun cdv A outer s H vs Q E hr h => ?_)
  obtain ⟨rfl, k⟩ := h
  refine ⟨_, (pss_cons (ps_set (i := 0) scOD.nd rfl (Or.inl rfl) (pe_lst (pa_cons pe_non (pa_cons pe_int (pa_cons pe_int (pa_cons (pe_un un_neg pe_int) (pa_cons pe_int (pa_cons pe_bl (pa_cons pe_str (pa_cons pe_str (pa_cons pe_str (pa_cons pe_str (pa_cons pe_str (pa_cons pe_str (pa_cons (pe_tup pa_nil) (pa_cons (pe_tup (pa_cons pe_str pa_nil)) (pa_cons (pe_tup (pa_cons pe_int pa_nil)) (pa_cons (pe_tup (pa_cons (pe_tup pa_nil) pa_nil)) (pa_cons (pe_lst pa_nil) (pa_cons pe_dnewK (pa_cons (pe_tup (pa_cons pe_str pa_nil)) pa_nil)))))))))))))))))))))
  (pss_one (ps_ret (pe_op op_cat (pv 0) (pe_lst (pa_cons (pe_tup (pa_cons pe_non (pa_cons pe_int pa_nil))) (pa_cons (pe_op op_pow pe_int pe_int) (pa_cons (pe_tup (pa_cons pe_str (pa_cons pe_int pa_nil))) (pa_cons (pe_tup (pa_cons pe_str (pa_cons pe_int (pa_cons pe_str pa_nil)))) (pa_cons (pe_tup (pa_cons pe_int (pa_cons pe_int (pa_cons (pe_tup (pa_cons pe_str pa_nil)) pa_nil)))) pa_nil)))))))))), ?_⟩
  walk_at "st"
  have dB : ∀ b, dom H b = true → H b ≠ none := fun b e z => by rw [dom_no z] at e; cases e
  refine (show MkB K (dom H) _ _ H (.lst odds1) from ?m1) H Gr.rfl' _ fun v H1 s1 a1 => ?_
  case m1 =>
    unfold odds1
    walk_at "kb"
  walk_at "st"
  have dB : ∀ b, dom H b = true → H1 b ≠ none := fun b e z => by
    cases q : H b with
    | none => rw [dom_no q] at e; cases e
    | some o => rw [s1 _ _ q] at z; cases z
  refine (show MkB K (dom H) (tOp rCat (tVar 0) (tLst _)) [some v] H1 (.lst (odds1 ++ odds2)) from ?m2) H1 Gr.rfl' _ fun v2 H2 s2 a2 => ?_
  case m2 =>
    refine kb_cat dB (kb_var rfl a1) ?_ (by decide)
    unfold odds2
    walk_at "kb"
    · exact kb_I kb_int kb_int ⟨by decide, by decide, by decide⟩
    walk_at "kb"
  exact k v2 H2 (s1.trans s2) a2
theorem ok_LI {f fD : Addr} {fd fdD : FuncData} (F : L2.Fun K "_law_limits" "_law_limits" sLI f fd) (d_law_draw : Dok P w K mg base 2 "_law_draw" ["m", "limit"] spDraw fD fdD) : FnOk P w K mg base CX0 3 f fd ["m"] (spLim K) := by
  refine F.ok scLI (fun vs H Q E h => by obtain ⟨_, _, _, _, rfl, _⟩ := h; rfl) (fun cdv A outer s H vs Q E hr h => ?_)
  obtain ⟨m, c, g, r, rfl, M, k⟩ := h
  refine ⟨_, (pss_one (ps_ret (pe_tup (pa_cons (pe_ix ix_list (pe_lst (pa_cons pe_non (pa_cons pe_non (pa_cons pe_int (pa_cons pe_int (pa_cons pe_int pa_nil)))))) (pe_call d_law_draw.G (hr.mono (by decide)) rfl d_law_draw.g d_law_draw.k d_law_draw.b .nil pass0 (pa_cons (pv 0) (pa_cons pe_int pa_nil))) (fun _ _ => rfl)) (pa_cons (pe_ix ix_list (pe_lst (pa_cons pe_int (pa_cons pe_int (pa_cons pe_int (pa_cons pe_int pa_nil))))) (pe_call d_law_draw.G (hr.mono (by decide)) rfl d_law_draw.g d_law_draw.k d_law_draw.b .nil pass0 (pa_cons (pv 0) (pa_cons pe_int pa_nil))) (fun _ _ => rfl)) pa_nil))))), ?_⟩
  walk_at "st"
  refine r_tup (r_cons ?_)
  have dB := m_there M
  refine r_pickD (K := K) (r := r + 1) (ds := [.non, .non, .int 0, .int 1, .int 2]) rfl M (by walk_at "kb") (by decide) (by decide) rfl fun v1 H1 d1 h1 a1 M1 k1 => ?_
  refine r_cons ?_
  have dB := m_there M1
  refine r_pickD (K := K) (r := r) (ds := [.int 1, .int 1, .int 2, .int 3]) rfl M1 (by walk_at "kb") (by decide) (by decide) rfl fun v2 H2 d2 h2 a2 M2 k2 => ?_
  refine r_nil ⟨sz1 (show 2 ≤ 100000 by decide), fun p np => ?_⟩
  obtain ⟨pm, pg⟩ := new_m M2 np
  have sn : Same H2 (upd H2 p (.tup [v1, v2])) := same_new np
  have g1 : Gd 0 150 0 d1 := by
    simp only [List.mem_cons, List.mem_nil_iff, or_false] at h1
    rcases h1 with rfl | rfl | rfl | rfl | rfl <;> exact ⟨by decide, by decide, by decide⟩
  have g2 : Gd 0 150 0 d2 := by
    simp only [List.mem_cons, List.mem_nil_iff, or_false] at h2
    rcases h2 with rfl | rfl | rfl | rfl <;> exact ⟨by decide, by decide, by decide⟩
  refine k _ _ (.tup [d1, d2]) ((gd_tup (w := 150) (k := 0) (m := 2) (fun d hd => ?_) (Nat.le_refl _)).up (Nat.le_refl _) (by decide) (Nat.le_refl _)) ?_ (M2.same sn) ((k1.tr k2).tr (Kp.of sn))
  · simp only [List.mem_cons, List.mem_nil_iff, or_false] at hd
    rcases hd with rfl | rfl
    · exact g1
    · exact g2
  · exact .tup (SqT.of (by rw [wo_at (B2_no pm pg), upd_same])) (.cons ((Ap.kp a1 k2).sm sn) (.cons (a2.sm sn) .nil))
theorem ok_IE {f fN fW : Addr} {fd fdN fdW : FuncData} (F : L2.Fun K "_law_is_seat" "_law_is_seat" sIE f fd) (B : Blt mg) (Z : Blt2 mg) (d_law_is_int : Dok P w K mg base 1 "_law_is_int" ["thing", "low", "high"] (spP K fWn) fN fdN) (d_law_is_way : Dok P w K mg base 2 "_law_is_way" ["thing", "many", "wards"] (spP K fWyn) fW fdW) :
    FnOk P w K mg base CX0 3 f fd ["thing", "many", "wards"] (spP K fSen) := by
  refine F.ok scIE (spP_len (n := 3) fun ds r h => by obtain ⟨_, _, _, rfl, _⟩ := h; rfl) (fun cdv A outer s H vs Q E hr h => ?_)
  obtain ⟨_, _, ha, ⟨d, n, m, rfl, hn, rfl⟩, k⟩ := h
  obtain ⟨v1, v2, v3, rfl, x1, x2, x3⟩ := ha.three
  refine ⟨_, (pss_cons (ps_if (PW.pt (pw_or (pt_not (pt_val (pe_callB call_isi (by rfl) B.isinstance PyProof.Rows.boot_isinstance (pa_cons (pv 0) (pa_cons (pe_bltn (v := .ty "tuple") (by rfl) Z.tuple (by decide +kernel) rfl) pa_nil))))) (pw_or (pt_cmpR op_ne (pe_callB call_len_seq (by rfl) B.len PySem.boot_len (pa_cons (pv 0) pa_nil)) pe_int (nomark _)) (pw_or1 (pt_not (pt_val (pe_call d_law_is_int.G (hr.mono (by decide)) rfl d_law_is_int.g d_law_is_int.k d_law_is_int.b .nil pass0 (pa_cons (pe_ix ix_tup (pv 0) pe_int (fun _ _ => rfl)) (pa_cons pe_int (pa_cons pe_int pa_nil)))))))))) (pss_one (ps_ret pe_bl)) pss_nil)
  (pss_one (ps_ret (pe_and (pe_call d_law_is_int.G (hr.mono (by decide)) rfl d_law_is_int.g d_law_is_int.k d_law_is_int.b .nil pass0 (pa_cons (pe_ix ix_tup (pv 0) pe_int (fun _ _ => rfl)) (pa_cons pe_int (pa_cons (pe_op op_sub (pe_ix ix_tup (pv 0) pe_int (fun _ _ => rfl)) pe_int) pa_nil)))) (pe_one (pe_call d_law_is_way.G (hr.mono (by decide)) rfl d_law_is_way.g d_law_is_way.k d_law_is_way.b .nil pass0 (pa_cons (pe_ix ix_tup (pv 0) pe_int (fun _ _ => rfl)) (pa_cons (pv 1) (pa_cons (pv 2) pa_nil))))))))), ?_⟩
  have t1 : MkT _ ([some v1, some v2, some v3] : Sg) H _ := mt_not (mt_B (mk_isT (mk_var (n := 0) rfl x1) hn))
  walk_at "st"
  have no : ∀ H1, Same H H1 → isSe d n m = false → Q (.bl false) H1 := fun H1 s1 e => k _ H1 s1 (by rw [e]; exact .bl false)
  cases d with
  | tup xs =>
    have nA : nxA xs = true := hn
    have tl := mt_test (mk_neI (K := K) (σ := ([some v1, some v2, some v3] : Sg)) (mk_lenT (mk_var (n := 0) rfl x1)) (mk_int (i := 3)))
    by_cases l3 : xs.length = 3
    · obtain ⟨a, b, c, rfl⟩ : ∃ a b c, xs = [a, b, c] := by
        match xs, l3 with
        | [a, b, c], _ => exact ⟨a, b, c, rfl⟩
      have na := nxA_mem nA (List.mem_cons_self ..)
      have nb := nxA_mem nA (show b ∈ [a, b, c] by simp)
      have nc := nxA_mem nA (show c ∈ [a, b, c] by simp)
      refine mt_or2 t1 (fun _ => mt_or2 (a := false) tl (fun _ => mt_not (mt_callP (mka_cons (mk_ixT (i := 0) (mk_var rfl x1) mk_int rfl) (mka_cons (mk_int (i := 1)) (mka_cons (mk_int (i := 6)) mka_nil))) ⟨a, 1, 6, rfl, na, rfl⟩))) H Gr.rfl' _ fun H1 s1 => ?_
      cases qa : isW a 1 6 with
      | false =>
        refine iteT ?_
        walk_at "rd"
        refine no H1 s1 ?_
        cases a with
        | int t => show (isW (.int t) 1 6 && _ && _) = false; rw [qa]; rfl
        | _ => rfl
      | true =>
        refine iteF ?_
        obtain ⟨t, rfl⟩ : ∃ t, a = .int t := by
          cases a with
          | int t => exact ⟨t, rfl⟩
          | _ => exact absurd qa (by simp [isW])
        have y1 := x1.gr s1
        walk_at "st"
        have an := mk_andV (K := K) (σ := ([some v1, some v2, some v3] : Sg)) (mk_call (f := fWn) (r := .bl (isW b 0 (t - 1))) (mka_cons (mk_ixT (i := 1) (mk_var (n := 0) rfl y1) mk_int rfl) (mka_cons (mk_int (i := 0)) (mka_cons (mk_I0 (g := fun i j => i - j) (mk_ixT (i := 0) (mk_var (n := 0) rfl y1) mk_int rfl) (mk_int (i := 1))) mka_nil))) ⟨b, 0, t - 1, rfl, nb, rfl⟩)
          (fun _ => mk_call (f := fWyn) (r := .bl (isWy c n m)) (mka_cons (mk_ixT (i := 2) (mk_var (n := 0) rfl y1) mk_int rfl) (mka_cons (mk_var (n := 1) rfl (x2.gr s1)) (mka_cons (mk_var (n := 2) rfl (x3.gr s1)) mka_nil))) ⟨c, n, m, rfl, nc, rfl⟩)
        refine an H1 Gr.rfl' _ fun v H2 s2 a2 => k v H2 (s1.trans s2) ?_
        show Dt K H2 v (.bl (isW (.int t) 1 6 && isW b 0 (t - 1) && isWy c n m))
        rw [qa, Bool.true_and]
        exact a2
    · rw [show (!decide ((xs.length : Int) = 3)) = true by rw [decide_eq_false (by omega)]; rfl] at tl
      refine mt_or2 (b := true) t1 (fun _ => mt_or2 (b := false) tl (fun z => by cases z)) H Gr.rfl' _ fun H1 s1 => iteT ?_
      walk_at "rd"
      refine no H1 s1 ?_
      unfold isSe
      split
      · rename_i e; cases e; exact absurd rfl l3
      · rfl
  | _ =>
    refine mt_or2 (b := false) t1 (fun z => by cases z) H Gr.rfl' _ fun H1 s1 => iteT ?_
    walk_at "rd"
    exact no H1 s1 rfl
theorem ok_BW {f fN : Addr} {fd fdN : FuncData} (F : L2.Fun K "_law_band_wrong" "_law_band_wrong" sBW f fd) (B : Blt mg) (Z : Blt2 mg) (d_law_is_int : Dok P w K mg base 1 "_law_is_int" ["thing", "low", "high"] (spP K fWn) fN fdN) :
    FnOk P w K mg base CX0 2 f fd ["thing"] (spP K fBWn) := by
  refine F.ok scBW (spP_len (n := 1) fun ds r h => by obtain ⟨_, rfl, _⟩ := h; rfl) (fun cdv A outer s H vs Q E hr h => ?_)
  obtain ⟨_, _, ha, ⟨d, rfl, hn, rfl⟩, k⟩ := h
  obtain ⟨v1, rfl, x1⟩ := ha.one
  refine ⟨_, (pss_cons (ps_if (PW.pt (pw_or (pt_not (pt_val (pe_callB call_isi (by rfl) B.isinstance PyProof.Rows.boot_isinstance (pa_cons (pv 0) (pa_cons (pe_bltn (v := .ty "tuple") (by rfl) Z.tuple (by decide +kernel) rfl) pa_nil))))) (pw_or1 (pt_cmpR op_ne (pe_callB call_len_seq (by rfl) B.len PySem.boot_len (pa_cons (pv 0) pa_nil)) pe_int (nomark _))))) (pss_one (ps_ret (pe_lst (pa_cons pe_str pa_nil)))) pss_nil)
  (pss_cons (ps_if (PW.pt (pw_and (pt_cmpR op_notN (pe_ix ix_tup (pv 0) pe_int (fun _ _ => rfl)) pe_non (nomark _)) (pw_and1 (pt_not (pt_val (pe_call d_law_is_int.G (hr.mono (by decide)) rfl d_law_is_int.g d_law_is_int.k d_law_is_int.b .nil pass0 (pa_cons (pe_ix ix_tup (pv 0) pe_int (fun _ _ => rfl)) (pa_cons pe_int (pa_cons pe_int pa_nil))))))))) (pss_one (ps_ret (pe_lst (pa_cons pe_str pa_nil)))) pss_nil)
  (pss_one (ps_ret (pe_op op_rep (pe_lst (pa_cons pe_str pa_nil)) (pe_callTy call_intB (by rfl) B.int PyProof.Rows.boot_int (pa_cons (pe_not (pe_call d_law_is_int.G (hr.mono (by decide)) rfl d_law_is_int.g d_law_is_int.k d_law_is_int.b .nil pass0 (pa_cons (pe_ix ix_tup (pv 0) pe_int (fun _ _ => rfl)) (pa_cons pe_int (pa_cons pe_int pa_nil))))) pa_nil))))))), ?_⟩
  have t1 : MkT _ ([some v1] : Sg) H _ := mt_not (mt_B (mk_isT (mk_var (n := 0) rfl x1) hn))
  walk_at "st"
  have one : ∀ {z : Str} {H1 : Hp}, Same H H1 → wrBd d = some (.str z) → tLst (tCons (tC (.str z)) tNil) ([some v1] : Sg) H1 Q := fun {z H1} s1 e => mk_lst (mka_cons (mk_str (x := z)) mka_nil) (show 1 ≤ 100000 by decide) H1 Gr.rfl' _ fun v H2 s2 a => k v H2 (s1.trans s2) (by rw [e]; exact a)
  cases d with
  | tup xs =>
    have nA : nxA xs = true := hn
    have tl := mt_test (mk_neI (K := K) (σ := ([some v1] : Sg)) (mk_lenT (mk_var (n := 0) rfl x1)) (mk_int (i := 2)))
    by_cases l2 : xs.length = 2
    · obtain ⟨t, g, rfl⟩ : ∃ a b, xs = [a, b] := by
        match xs, l2 with
        | [a, b], _ => exact ⟨a, b, rfl⟩
      have nt := nxA_mem nA (List.mem_cons_self ..)
      have ng := nxA_mem nA (show g ∈ [t, g] by simp)
      refine mt_or2 (b := false) t1 (fun _ => tl) H Gr.rfl' _ fun H1 s1 => iteF ?_
      have y1 := x1.gr s1
      walk_at "st"
      refine mt_and2 (mt_notN (mk_ixT (i := 0) (mk_var rfl y1) mk_int rfl)) (fun _ => mt_not (mt_callP (mka_cons (mk_ixT (i := 0) (mk_var rfl y1) mk_int rfl) (mka_cons (mk_int (i := 0)) (mka_cons (mk_int (i := 4)) mka_nil))) ⟨t, 0, 4, rfl, nt, rfl⟩)) H1 Gr.rfl' _ fun H2 s2 => ?_
      have dm : (!isNon t && !isW t 0 4) = !(isNon t || isW t 0 4) := by simp
      rw [dm]
      have eB : wrBd (.tup [t, g]) = if (isNon t || isW t 0 4) = true then (if isW g 1 4 then none else some (.str "gap")) else some (.str "turn") := rfl
      cases q : (isNon t || isW t 0 4) with
      | false =>
        refine iteT ?_
        walk_at "st"
        exact one (s1.trans s2) (by rw [eB, q]; rfl)
      | true =>
        refine iteF ?_
        walk_at "st"
        have z1 := y1.gr s2
        refine mk_rep1 (K := K) (b := !isW g 1 4) mk_str (mk_notV (mk_call (f := fWn) (r := .bl (isW g 1 4)) (mka_cons (mk_ixT (i := 1) (mk_var rfl z1) mk_int rfl) (mka_cons (mk_int (i := 1)) (mka_cons (mk_int (i := 4)) mka_nil))) ⟨g, 1, 4, rfl, ng, rfl⟩)) H2 Gr.rfl' _ fun v H3 s3 a3 => k v H3 ((s1.trans s2).trans s3) ?_
        rw [eB, q]
        cases qg : isW g 1 4 <;> rw [qg] at a3 <;> exact a3
    · rw [show (!decide ((xs.length : Int) = 2)) = true by rw [decide_eq_false (by omega)]; rfl] at tl
      refine mt_or2 (b := true) t1 (fun _ => tl) H Gr.rfl' _ fun H1 s1 => iteT ?_
      walk_at "st"
      refine one s1 ?_
      unfold wrBd
      split
      · rename_i e; cases e; exact absurd rfl l2
      · rfl
  | _ =>
    refine mt_or2 (b := false) t1 (fun z => by cases z) H Gr.rfl' _ fun H1 s1 => iteT ?_
    walk_at "st"
    exact one s1 rfl
end
end TSx

namespace TSx
open PySem L2
local macro_rules | `(tactic| walk_at "rd") => `(tactic| repeat (first
  | ((with_reducible show tVar _ _ _ _); refine r_v rfl ?_)
  | with_reducible refine r_c ?_
  | with_reducible refine r_op ?_
  | with_reducible refine r_I0 ?_
  | with_reducible refine r_cb ?_
  | with_reducible refine r_nil ?_
  | with_reducible refine r_cons ?_
  | with_reducible refine r_seq ?_
  | with_reducible refine r_next ?_
  | with_reducible refine r_asg ?_
  | with_reducible refine r_name ?_
  | with_reducible refine r_ret ?_
  | with_reducible refine r_drop ?_
  | with_reducible refine r_if ?_
  | with_reducible refine r_test ?_
  | with_reducible refine r_bl ?_
  | with_reducible refine r_call ?_))
local macro_rules | `(tactic| walk_at "st") => `(tactic| repeat (first
  | with_reducible refine r_seq ?_
  | with_reducible refine r_next ?_
  | with_reducible refine r_asg ?_
  | with_reducible refine r_name ?_
  | with_reducible refine r_ret ?_
  | with_reducible refine r_drop ?_
  | with_reducible refine r_if ?_))
local macro_rules | `(tactic| walk_at "mk") => `(tactic| repeat (first
  | with_reducible exact mk_non
  | with_reducible exact mk_int
  | with_reducible exact mk_str
  | with_reducible exact mk_bl
  | with_reducible exact mk_dic
  | with_reducible exact mka_nil
  | with_reducible refine mka_cons ?_ ?_
  | ((with_reducible refine mk_tup ?_ ?hz); (case hz => decide))
  | ((with_reducible refine mk_lst ?_ ?hz); (case hz => decide))
  | with_reducible refine mk_neg ?_))
abbrev sRN : Stmt := top 43
theorem scRN : FnScope ["home", "row", "terms", "found", "term", "seat"] ["home"] (defScope sRN) := ⟨rfl, rfl, rfl, by decide +kernel, rfl, by decide +kernel, by decide +kernel⟩
def fRNn (ds : List D) (r : D) : Prop := ∃ bs w, ds = [.tup (.tup bs :: w)] ∧ bs.length ≤ 3 ∧ (bs.map fun b => (lenD b : Int)).sum ≤ 27 ∧ (∀ b ∈ bs, tmB b) ∧ r = .int (lcH bs : Nat)
def outE (f : Int) (d : D) : Option D := match d with
  | .int t => if (!decide (f % t = 0)) = true then some (.int 1) else none
  | _ => none
theorem outE_int (f t : Int) : outE f (.int t) = if (!decide (f % t = 0)) = true then some (.int 1) else none := rfl
def slotF (σ : Sg) : Int := match σ[3]? with
  | some (some (V.int f)) => f
  | _ => 0
theorem pl_tm : ∀ ts : List Int, plA (ts.map D.int) = true
  | [] => rfl
  | t :: l => pl_tm l
section
variable {P : Program} {w : World} {K : PySem.W.Frag} {mg : Str → Option Value} {base : Heap}
theorem ok_RN {f : Addr} {fd : FuncData} (F : L2.Fun K "_law_round" "_law_round" sRN f fd) (B : Blt mg) (Z : Blt2 mg) : FnOk P w K mg base CX0 1 f fd ["home"] (spP K fRNn) := by
  refine F.ok scRN (spP_len (n := 1) fun ds r h => by obtain ⟨_, _, rfl, _⟩ := h; rfl) (fun cdv A outer s H vs Q E hr h => ?_)
  obtain ⟨_, _, ha, ⟨bs, wr, rfl, l3, l27, ht, rfl⟩, k⟩ := h
  obtain ⟨v1, rfl, x1⟩ := ha.one
  have lT : ∀ j, (termsH (bs.take j)).length ≤ 27 := fun j => by
    have a : (termsH bs).length ≤ 27 := by have := lens_terms ht; omega
    have e : termsH bs = termsH (bs.take j) ++ termsH (bs.drop j) := by
      show (bs.map termsB).flatten = ((bs.take j).map termsB).flatten ++ ((bs.drop j).map termsB).flatten
      rw [← List.flatten_append, ← List.map_append, List.take_append_drop]
    rw [e, List.length_append] at a
    omega
  refine ⟨_, (pss_cons (ps_asg (pe_tup (pa_cons (pe_lst pa_nil) (pa_cons pe_int pa_nil))) (pg_tup rfl (pgs_cons (pg_name (i := 2) scRN.nd rfl (Or.inl rfl)) (pgs_cons (pg_name (i := 3) scRN.nd rfl (Or.inr rfl)) pgs_nil))))
  (pss_cons (ps_for PassesOwn.never rfl (pi_tup (pe_ix ix_tup (pv 0) pe_int (fun _ _ => rfl))) (pg_name (i := 1) scRN.nd rfl (Or.inl rfl))
  (pss_one (ps_set (i := 2) scRN.nd rfl (Or.inl rfl) (pe_op op_cat (pv 2) (pe_lc (own := [("seat", 5)]) (g := gName 5) (tt := tYes) rfl scRN.nd (pi_tup (pv 1)) (blkOk_by (N := ["home", "row", "terms", "found", "term", "seat"]) (sc := defScope sRN) (by decide +kernel)) (fun _ _ _ _ _ => pg_name (i := 5) scRN.nd rfl (Or.inl rfl)) (fun _ _ _ _ _ => pts_nil) (fun _ _ _ _ _ => (pe_ix (ix_tupK (K := K) rfl) (pv 5) pe_int (fun _ _ => rfl))))))))
  (pss_cons (ps_while PassesOwn.never (pt_cmpR (op_neD hr.units) (pe_lc (own := [("term", 4)]) (g := gName 4) rfl scRN.nd (pi_list (pv 2)) (blkOk_by (N := ["home", "row", "terms", "found", "term", "seat"]) (sc := defScope sRN) (by decide +kernel)) (fun _ _ _ _ _ => pg_name (i := 4) scRN.nd rfl (Or.inl rfl)) (fun _ _ _ _ _ => (pts_one (pt_cmpR op_ne (pe_op op_mod (pe_callTy call_intI (by rfl) B.int PyProof.Rows.boot_int (pa_cons (pv 3) pa_nil)) (pv 4)) pe_int (nomark _)))) (fun _ _ _ _ _ => pe_int)) (pe_lst pa_nil) (nomark _))
  (pss_one (ps_set (i := 3) scRN.nd rfl (Or.inr rfl) (pe_op op_add (pv 3) pe_int))))
  (pss_one (ps_ret (pv 3)))))), ?_⟩
  walk_at "st"
  refine r_tup (r_cons (r_lst (r_nil ⟨Nat.zero_le _, fun p np => r_cons (r_c (r_nil ⟨sz1 (show 2 ≤ 100000 by decide), fun T nT => ?_⟩))⟩)))
  refine ⟨T, _, rfl, SqT.of upd_same, rfl, _, _, rfl, r_name ⟨_, _, rfl, r_name ⟨rfl, ?_⟩⟩⟩
  have s0 : Same H (upd (upd H p (.lst [])) T (.tup [.ref p, .int 1])) := (same_new np).trans (same_new nT)
  have pT : p ≠ T := fun z => by rw [← z, upd_same] at nT; cases nT
  have hp : (upd (upd H p (.lst [])) T (.tup [.ref p, .int 1])) p = some (.lst []) := by rw [upd_ne pT, upd_same]
  generalize upd (upd H p (.lst [])) T (.tup [.ref p, .int 1]) = H1 at s0 hp ⊢
  walk_at "st"
  refine r_forT (K := K) (ds := bs) (ev_ixT (i := 0) (ev_var rfl (x1.gr s0)) ev_int rfl) (fun j σ H' => ∃ (o1 o4 o5 : Option V) (q : Addr), σ = [some v1, o1, some (.ref q), some (.int 1), o4, o5] ∧ Same H1 H' ∧ Dt K H' (.ref q) (.lst ((termsH (bs.take j)).map D.int)))
    ⟨_, _, _, p, rfl, Gr.rfl', .lst hp .nil⟩ (fun j σ' H' z => by obtain ⟨_, _, _, _, _, z, _⟩ := z; exact z) ?_ ?_
  · rintro j b y σ H2 hj ⟨o1, o4, o5, q, rfl, s2, aq⟩ ay
    obtain ⟨ss, rfl, hs⟩ := ht b (List.mem_of_getElem? hj)
    have ls : ss.length ≤ 27 := by
      have e : termsH (bs.take (j + 1)) = termsH (bs.take j) ++ ss.map termI := by
        show ((bs.take (j + 1)).map termsB).flatten = _
        rw [List.take_add_one, hj, List.map_append, List.flatten_append]
        simp [termsB, termsH]
      have := lT (j + 1)
      rw [e, List.length_append, List.length_map] at this
      omega
    walk_at "st"
    have lc := mk_lcU (K := K) (σ := [some v1, some y, some (.ref q), some (.int 1), o4, o5]) (H := H2) (i := 5) (ti := tVar 1) (te := tOp (rIxT K) (tVar 5) (tC (.int 0))) (ds := ss) (f := fun d => .int (termI d))
      (fun H3 s3 => ev_var rfl (ay.gr s3)) (fun d hd => rfl) (by omega) (fun d hd x H3 s3 ax => by
        obtain ⟨t, r, rfl, _, _⟩ := hs d hd
        exact mk_ixT (i := 0) (mk_var (n := 5) rfl ax) mk_int rfl)
    refine (mk_cat (K := K) (mk_var (n := 2) rfl aq) lc (by rw [List.length_map, List.length_map]; have := lT j; omega)) H2 Gr.rfl' _ fun v H3 s3 a3 => ?_
    walk_at "st"
    have e : (termsH (bs.take j)).map D.int ++ ss.map (fun d => D.int (termI d)) = (termsH (bs.take (j + 1))).map D.int := by
      have e2 : termsH (bs.take (j + 1)) = termsH (bs.take j) ++ ss.map termI := by
        show ((bs.take (j + 1)).map termsB).flatten = _
        rw [List.take_add_one, hj, List.map_append, List.flatten_append]
        simp [termsB, termsH]
      rw [e2, List.map_append, List.map_map]
      rfl
    rw [e] at a3
    cases v with
    | ref q' => exact ⟨_, _, _, q', rfl, s2.trans s3, a3⟩
    | _ => cases a3
  · rintro σ H2 ⟨o1, o4, o5, q, rfl, s2, aq⟩
    rw [List.take_length] at aq
    walk_at "st"
    obtain ⟨L1, L60⟩ := lcH_pos ht
    have lTT : (termsH bs).length ≤ 27 := by have := lT bs.length; rw [List.take_length] at this; exact this
    refine while_mk (fun σ H' => ∃ (o1 o4 o5 : Option V) (f : Nat), σ = [some v1, o1, some (.ref q), some (.int (f : Int)), o4, o5] ∧ Same H2 H' ∧ 1 ≤ f ∧ f ≤ lcH bs)
      (fun σ H' => (lcH bs : Nat) - (slotF σ).toNat) (fun σ H' => !(outOf (termsH bs) (slotF σ)).isEmpty) ⟨o1, o4, o5, 1, rfl, Gr.rfl', by omega, by omega⟩ ?_ ?_ ?_
    · rintro σ H' ⟨o1, o4, o5, f, rfl, s3, f1, f2⟩
      have lc := mk_lcFL (K := K) (σ := [some v1, o1, some (.ref q), some (.int (f : Int)), o4, o5]) (H := H') (i := 4) (ti := tVar 2) (tt := tTest (tOp rNe (tOp (rI (fun _ j => 0 < j) fun i j => .int (i % j)) (tCB rInt (tCons (tVar 3) tNil)) (tVar 4)) (tC (.int 0)))) (te := tC (.int 1)) (ds := (termsH bs).map D.int)
        (f := outE (f : Int)) (fun H4 s4 => ev_var rfl (aq.gr (s3.trans s4))) (fun d hd x e => by
          unfold outE at e
          split at e
          · split at e
            · cases e; rfl
            · cases e
          · cases e) (by rw [List.length_map]; omega) (fun d hd x H4 s4 ax => by
          obtain ⟨t, htm, rfl⟩ := List.mem_map.mp hd
          obtain ⟨t1, t6⟩ := terms_ok ht t htm
          have tst := mt_test (mk_neI (K := K) (σ := (([some v1, o1, some (.ref q), some (.int (f : Int)), o4, o5] : Sg).set 4 none).set 4 (some x)) (mk_I (C := fun _ j => 0 < j) (g := fun i j => i % j) (mk_intI (mk_var (n := 3) rfl (.int (f : Int)))) (mk_var (n := 4) rfl ax) (by omega)) (mk_int (i := 0)))
          refine ⟨fun y e => ?_, fun e => ?_⟩ <;> rw [outE_int] at e
          · have c : (!decide ((f : Int) % t = 0)) = true := by
              by_cases c : (!decide ((f : Int) % t = 0)) = true
              · exact c
              · rw [if_neg c] at e; cases e
            rw [if_pos c] at e
            cases e
            rw [c] at tst
            exact ⟨tst, mk_int⟩
          · have c : (!decide ((f : Int) % t = 0)) = false := by
              by_cases c : (!decide ((f : Int) % t = 0)) = true
              · rw [if_pos c] at e; cases e
              · simpa using c
            rw [c] at tst
            exact tst)
      have eF : ((termsH bs).map D.int).filterMap (outE (f : Int)) = (outOf (termsH bs) (f : Int)).map fun _ => D.int 1 := by
        unfold outOf
        rw [List.filterMap_map, ← List.filterMap_eq_map, List.filterMap_filter]
        exact fmc fun t _ => rfl
      rw [eF] at lc
      have en := mt_test (mk_neD (K := K) lc (mk_lst mka_nil (Nat.zero_le _)) (by
        have : ∀ l : List Int, plA (l.map fun _ => D.int 1) = true := by
          intro l
          induction l with
          | nil => rfl
          | cons a l ih => exact ih
        exact this _) rfl (by
        have : ∀ l : List Int, PyData.depthAll (pyA (l.map fun _ => D.int 1)) = 0 := by
          intro l
          induction l with
          | nil => rfl
          | cons a l ih => show max 0 (PyData.depthAll (pyA (l.map fun _ => D.int 1))) = 0; rw [ih]; rfl
        show PyData.depthAll (pyA _) + 1 ≤ 64
        rw [this]
        decide) (by decide))
      have ee : (!PyData.eqv (D.lst ((outOf (termsH bs) (f : Int)).map fun _ => D.int 1)).py (D.lst []).py) = !(outOf (termsH bs) (f : Int)).isEmpty := by
        cases outOf (termsH bs) (f : Int) <;> rfl
      rw [ee] at en
      exact en
    · rintro σ H' H4 ⟨o1, o4, o5, f, rfl, s3, f1, f2⟩ s4 hb
      have hb' : (!(outOf (termsH bs) (f : Int)).isEmpty) = true := hb
      have st := round_step ht f1 f2 (fun z => by rw [z] at hb'; cases hb')
      walk_at "rd"
      refine ⟨⟨o1, o4, o5, f + 1, by rw [show ((f : Int) + 1) = ((f + 1 : Nat) : Int) by omega]; rfl, s3.trans s4, by omega, st⟩, ?_⟩
      show (lcH bs : Nat) - ((f : Int) + 1).toNat < (lcH bs : Nat) - ((f : Int)).toNat
      omega
    · rintro σ H' H4 ⟨o1, o4, o5, f, rfl, s3, f1, f2⟩ s4 hb
      have hb' : (!(outOf (termsH bs) (f : Int)).isEmpty) = false := hb
      have en := round_end ht f1 f2 (by
        cases e : outOf (termsH bs) (f : Int) with
        | nil => rfl
        | cons a l => rw [e] at hb'; cases hb')
      walk_at "rd"
      refine k _ H4 (((s0.trans s2).trans s3).trans s4) ?_
      rw [← en]
      exact .int _
end
end TSx

namespace TSx
open PySem L2
local macro_rules | `(tactic| walk_at "rd") => `(tactic| repeat (first
  | ((with_reducible show tVar _ _ _ _); refine r_v rfl ?_)
  | with_reducible refine r_c ?_
  | with_reducible refine r_op ?_
  | with_reducible refine r_I0 ?_
  | with_reducible refine r_cb ?_
  | with_reducible refine r_nil ?_
  | with_reducible refine r_cons ?_
  | with_reducible refine r_seq ?_
  | with_reducible refine r_next ?_
  | with_reducible refine r_asg ?_
  | with_reducible refine r_name ?_
  | with_reducible refine r_ret ?_
  | with_reducible refine r_drop ?_
  | with_reducible refine r_if ?_
  | with_reducible refine r_test ?_
  | with_reducible refine r_bl ?_
  | with_reducible refine r_call ?_))
local macro_rules | `(tactic| walk_at "st") => `(tactic| repeat (first
  | with_reducible refine r_seq ?_
  | with_reducible refine r_next ?_
  | with_reducible refine r_asg ?_
  | with_reducible refine r_name ?_
  | with_reducible refine r_ret ?_
  | with_reducible refine r_drop ?_
  | with_reducible refine r_if ?_))
local macro_rules | `(tactic| walk_at "mk") => `(tactic| repeat (first
  | with_reducible exact mk_non
  | with_reducible exact mk_int
  | with_reducible exact mk_str
  | with_reducible exact mk_bl
  | with_reducible exact mk_dic
  | with_reducible exact mka_nil
  | with_reducible refine mka_cons ?_ ?_
  | ((with_reducible refine mk_tup ?_ ?hz); (case hz => decide))
  | ((with_reducible refine mk_lst ?_ ?hz); (case hz => decide))
  | with_reducible refine mk_neg ?_))
abbrev sWR : Stmt := top 50
theorem scWR : FnScope ["thing", "k", "row", "some", "at"] ["thing"] (defScope sWR) := ⟨rfl, rfl, rfl, by decide +kernel, rfl, by decide +kernel, by decide +kernel⟩
def fWRn (ds : List D) (r : D) : Prop := ∃ d, ds = [d] ∧ d.nx = true ∧ r = .lst (wrH d).toList
/-- whether the seat at a place is none -/
def badAt (ss : List D) (n w : Int) (j : Nat) : Bool := !(match ss[j]? with | some s => isSe s n w | none => true)
theorem wrS_filter {ss : List D} {k : Nat} {n w : Int} (h : isTu (.tup ss) 1 9 = true) : wrS (.tup ss) k n w = ((List.range ss.length).filter (badAt ss n w)).head?.map fun j => .tup [.int (k : Nat), .int (j : Nat)] := by
  show (if isTu (.tup ss) 1 9 then _ else _) = _
  rw [h, if_pos rfl, List.head?_filter]
  rfl
section
variable {P : Program} {w : World} {K : PySem.W.Frag} {mg : Str → Option Value} {base : Heap} {σ : Sg} {H : Hp} {ta : TE} {d : D}
/-- not isinstance(e, tuple) or not a <= len(e) <= b -/
theorem mt_noTu {a b : Int} (h : Mk K ta σ H d) (e : d.nx = true) : MkT (tOr (tNot (tTest (tCB (rIsi K) (tCons ta (tCons (tC (.ty "tuple")) tNil))))) (tNot (tTest (tChain (rI0 fun i j => .bl (decide (i ≤ j))) (rI0 fun i j => .bl (decide (i ≤ j))) (tC (.int a)) (tCB (fun xs H Q => ∃ p ys, xs = [.ref p] ∧ (SqL K H p ys ∨ SqT K H p ys) ∧ Q (.int ys.length) H) (tCons ta tNil)) (tC (.int b)))))) σ H (!isTu d a b) := by
  have t1 : MkT _ σ H _ := mt_not (mt_test (mk_isT h e))
  cases d with
  | tup xs => exact mt_or2 (a := false) t1 fun _ => mt_not (mt_test (mk_chainI mk_int (mk_lenT h) mk_int))
  | _ => exact mt_or2 (b := false) t1 fun z => by cases z
theorem ok_WR {f fN fS fR : Addr} {fd fdN fdS fdR : FuncData} (F : L2.Fun K "_law_wrong" "_law_wrong" sWR f fd) (B : Blt mg) (Z : Blt2 mg) (d_law_is_int : Dok P w K mg base 1 "_law_is_int" ["thing", "low", "high"] (spP K fWn) fN fdN)
    (d_law_is_seat : Dok P w K mg base 3 "_law_is_seat" ["thing", "many", "wards"] (spP K fSen) fS fdS) (d_law_round : Dok P w K mg base 1 "_law_round" ["home"] (spP K fRNn) fR fdR) :
    FnOk P w K mg base CX0 4 f fd ["thing"] (spP K fWRn) := by
  refine F.ok scWR (spP_len (n := 1) fun ds r h => by obtain ⟨_, rfl, _⟩ := h; rfl) (fun cdv A outer s H vs Q E hr h => ?_)
  obtain ⟨_, _, ha, ⟨d, rfl, hn, rfl⟩, k⟩ := h
  obtain ⟨v1, rfl, x1⟩ := ha.one
  refine ⟨_, (pss_cons (ps_if (PW.pt (pw_or (pt_not (pt_val (pe_callB call_isi (by rfl) B.isinstance PyProof.Rows.boot_isinstance (pa_cons (pv 0) (pa_cons (pe_bltn (v := .ty "tuple") (by rfl) Z.tuple (by decide +kernel) rfl) pa_nil))))) (pw_or1 (pt_cmpR op_ne (pe_callB call_len_seq (by rfl) B.len PySem.boot_len (pa_cons (pv 0) pa_nil)) pe_int (nomark _))))) (pss_one (ps_ret (pe_lst (pa_cons pe_str pa_nil)))) pss_nil)
  (pss_cons (ps_if (pt_not (pt_val (pe_call d_law_is_int.G (hr.mono (by decide)) rfl d_law_is_int.g d_law_is_int.k d_law_is_int.b .nil pass0 (pa_cons (pe_ix ix_tup (pv 0) pe_int (fun _ _ => rfl)) (pa_cons pe_int (pa_cons pe_int pa_nil)))))) (pss_one (ps_ret (pe_lst (pa_cons pe_str pa_nil)))) pss_nil)
  (pss_cons (ps_if (PW.pt (pw_or (pt_not (pt_val (pe_callB call_isi (by rfl) B.isinstance PyProof.Rows.boot_isinstance (pa_cons (pe_ix ix_tup (pv 0) pe_int (fun _ _ => rfl)) (pa_cons (pe_bltn (v := .ty "tuple") (by rfl) Z.tuple (by decide +kernel) rfl) pa_nil))))) (pw_or1 (pt_not (pt_chain op_le op_le pe_int (pe_callB call_len_seq (by rfl) B.len PySem.boot_len (pa_cons (pe_ix ix_tup (pv 0) pe_int (fun _ _ => rfl)) pa_nil)) pe_int))))) (pss_one (ps_ret (pe_lst (pa_cons pe_str pa_nil)))) pss_nil)
  (pss_cons (ps_for PassesOwn.never rfl (pi_enumT (by rfl) B.enumerate (pa_cons (pe_ix ix_tup (pv 0) pe_int (fun _ _ => rfl)) pa_nil)) (pg_tup rfl (pgs_cons (pg_name (i := 1) scWR.nd rfl (Or.inl rfl)) (pgs_cons (pg_name (i := 2) scWR.nd rfl (Or.inr rfl)) pgs_nil)))
  (pss_cons (ps_if (PW.pt (pw_or (pt_not (pt_val (pe_callB call_isi (by rfl) B.isinstance PyProof.Rows.boot_isinstance (pa_cons (pv 2) (pa_cons (pe_bltn (v := .ty "tuple") (by rfl) Z.tuple (by decide +kernel) rfl) pa_nil))))) (pw_or1 (pt_not (pt_chain op_le op_le pe_int (pe_callB call_len_seq (by rfl) B.len PySem.boot_len (pa_cons (pv 2) pa_nil)) pe_int))))) (pss_one (ps_ret (pe_lst (pa_cons (pe_tup (pa_cons (pv 1) pa_nil)) pa_nil)))) pss_nil)
  (pss_cons (ps_setLc (i := 3) (own := [("at", 4)]) (g := gName 4) rfl scWR.nd rfl rfl (sw_true rfl rfl rfl (by decide +kernel)) (pi_range1 rfl B.range (pa_cons (pe_callB call_len_seq (by rfl) B.len PySem.boot_len (pa_cons (pv 2) pa_nil)) pa_nil)) (blkOk_by (N := ["thing", "k", "row", "some", "at"]) (sc := defScope sWR) (by decide +kernel)) (fun _ _ _ _ _ => pg_name (i := 4) scWR.nd rfl (Or.inl rfl)) (fun _ _ _ _ _ => (pts_one (pt_not (pt_val (pe_call d_law_is_seat.G (hr.mono (by decide)) rfl d_law_is_seat.g d_law_is_seat.k d_law_is_seat.b .nil pass0 (pa_cons (pe_ix (ix_tupK (K := K) rfl) (pv 2) (pv 4) (fun _ _ => rfl)) (pa_cons (pe_callB (call_lenK (K := K) rfl) (by rfl) B.len PySem.boot_len (pa_cons (pe_ix (ix_tupK (K := K) rfl) (pv 0) pe_int (fun _ _ => rfl)) pa_nil)) (pa_cons (pe_ix (ix_tupK (K := K) rfl) (pv 0) pe_int (fun _ _ => rfl)) pa_nil)))))))) (fun _ _ _ _ _ => (pv 4)))
  (pss_one (ps_if (pt_cmpR (op_neD hr.units) (pv 3) (pe_lst pa_nil) (nomark _)) (pss_one (ps_ret (pe_lst (pa_cons (pe_tup (pa_cons (pv 1) (pa_cons (pe_ix ix_list (pv 3) pe_int (fun _ _ => rfl)) pa_nil))) pa_nil)))) pss_nil)))))
  (pss_cons (ps_if (pt_cmpR op_gt (pe_callB (cr_sum rfl) (by rfl) Z.sum (by decide +kernel) (pa_cons (pe_lc (own := [("row", 2)]) (g := gName 2) (tt := tYes) rfl scWR.nd (pi_tup (pe_ix ix_tup (pv 0) pe_int (fun _ _ => rfl))) (blkOk_by (N := ["thing", "k", "row", "some", "at"]) (sc := defScope sWR) (by decide +kernel)) (fun _ _ _ _ _ => pg_name (i := 2) scWR.nd rfl (Or.inl rfl)) (fun _ _ _ _ _ => pts_nil) (fun _ _ _ _ _ => (pe_callB (call_lenK (K := K) rfl) (by rfl) B.len PySem.boot_len (pa_cons (pv 2) pa_nil)))) pa_nil)) pe_int (nomark _)) (pss_one (ps_ret (pe_lst (pa_cons pe_str pa_nil)))) pss_nil)
  (pss_one (ps_ret (pe_op op_rep (pe_lst (pa_cons pe_str pa_nil)) (pe_callTy call_intB (by rfl) B.int PyProof.Rows.boot_int (pa_cons (pe_cmpR op_gt (pe_call d_law_round.G (hr.mono (by decide)) rfl d_law_round.g d_law_round.k d_law_round.b .nil pass0 (pa_cons (pv 0) pa_nil)) pe_int (nomark _)) pa_nil)))))))))), ?_⟩
  have t1 : MkT _ ([some v1, none, none, none, none] : Sg) H _ := mt_not (mt_test (mk_isT (mk_var (n := 0) rfl x1) hn))
  walk_at "st"
  have one : ∀ {z : Str} {σ : Sg} {H1 : Hp}, Same H H1 → wrH d = some (.str z) → tLst (tCons (tC (.str z)) tNil) σ H1 Q := fun {z σ H1} s1 e => mk_lst (mka_cons (mk_str (x := z)) mka_nil) (show 1 ≤ 100000 by decide) H1 Gr.rfl' _ fun v H2 s2 a => k v H2 (s1.trans s2) (by rw [e]; exact a)
  cases d with
  | tup xs =>
    have tl := mt_test (mk_neI (K := K) (σ := ([some v1, none, none, none, none] : Sg)) (mk_lenT (mk_var (n := 0) rfl x1)) (mk_int (i := 2)))
    by_cases l2 : xs.length = 2
    case neg =>
      rw [show (!decide ((xs.length : Int) = 2)) = true by rw [decide_eq_false (by omega)]; rfl] at tl
      refine mt_or2 (b := true) t1 (fun _ => tl) H Gr.rfl' _ fun H1 s1 => iteT ?_
      walk_at "st"
      refine one s1 ?_
      unfold wrH
      split
      · rename_i e; cases e; exact absurd rfl l2
      · rfl
    obtain ⟨bs, wd, rfl⟩ : ∃ a b, xs = [a, b] := by
      match xs, l2 with
      | [a, b], _ => exact ⟨a, b, rfl⟩
    have nA : nxA [bs, wd] = true := hn
    have nb := nxA_mem nA (List.mem_cons_self ..)
    have nw := nxA_mem nA (show wd ∈ [bs, wd] by simp)
    refine mt_or2 (b := false) t1 (fun _ => tl) H Gr.rfl' _ fun H1 s1 => iteF ?_
    have y1 := x1.gr s1
    walk_at "st"
    refine mt_not (mt_test (mk_call (f := fWn) (r := .bl (isW wd 0 4)) (mka_cons (mk_ixT (i := 1) (mk_var rfl y1) mk_int rfl) (mka_cons (mk_int (i := 0)) (mka_cons (mk_int (i := 4)) mka_nil))) ⟨wd, 0, 4, rfl, nw, rfl⟩)) H1 Gr.rfl' _ fun H2 s2 => ?_
    cases qw : isW wd 0 4 with
    | false =>
      refine iteT ?_
      walk_at "st"
      refine one (s1.trans s2) ?_
      show (if isW wd 0 4 then _ else _) = _
      rw [qw]; rfl
    | true =>
    refine iteF ?_
    have y2 := y1.gr s2
    walk_at "st"
    refine mt_noTu (mk_ixT (i := 0) (mk_var rfl y2) mk_int rfl) nb H2 Gr.rfl' _ fun H3 s3 => ?_
    have sA := (s1.trans s2).trans s3
    by_cases cb : isTu bs 1 3 = true
    case neg =>
      have c' : isTu bs 1 3 = false := by simpa using cb
      rw [c']
      refine iteT ?_
      walk_at "st"
      refine one sA ?_
      show (if isW wd 0 4 then (if isTu bs 1 3 then _ else _) else _) = _
      rw [qw, c']; rfl
    rw [cb]
    refine iteF ?_
    obtain ⟨l, rfl, l1, l3⟩ := isTu_shape cb
    have nl : nxA l = true := nb
    obtain ⟨wi, rfl⟩ : ∃ wi, wd = .int wi := by
      cases wd with
      | int i => exact ⟨i, rfl⟩
      | _ => exact absurd qw (by simp [isW])
    have eH : wrH (.tup [.tup l, .int wi]) = ((wrB (l.length : Int) wi 0 l).or (if (l.map fun b => (lenD b : Int)).sum > 9 then some (.str "seats") else none)).or (if lcH l > 12 then some (.str "round") else none) := by
      show (if isW (.int wi) 0 4 then (if isTu (.tup l) 1 3 then _ else _) else _) = _
      rw [qw, cb]; rfl
    have y3 := y2.gr s3
    walk_at "st"
    refine r_forE (K := K) (ds := l) (ev_ixT (i := 0) (ev_var rfl y3) ev_int rfl) (fun j σ H' => (∀ i b, i < j → l[i]? = some b → wrS b (0 + i) (l.length : Int) wi = none) ∧ ∃ o1 o2 o3 o4 : Option V, σ = [some v1, o1, o2, o3, o4] ∧ Same H3 H') ⟨fun i s hi => absurd hi (Nat.not_lt_zero i), _, _, _, _, rfl, Gr.rfl'⟩ (fun j σ' H' z => by obtain ⟨_, _, _, _, _, _, z⟩ := z; exact z) ?_ ?_
    · rintro j b T σ H4 H5 hj ⟨low, o1, o2, o3, o4, rfl, s4⟩ s5 aT
      refine r_unp2 aT fun u1 u2 f1 f2 => ?_
      have sX := s4.trans s5
      have n1 := nxA_mem nl (List.mem_of_getElem? hj)
      have fin : ∀ {x : D} {H6 v}, Same H5 H6 → wrS b j (l.length : Int) wi = some x → Dt K H6 v (.lst [x]) → Q v H6 := fun {x H6 v} s6 e a => k v H6 ((sA.trans sX).trans s6) (by
        rw [eH, wrB_at hj (by rw [Nat.zero_add]; exact e) low]
        exact a)
      walk_at "st"
      refine mt_noTu (mk_var rfl f2) n1 H5 Gr.rfl' _ fun H6 s6 => ?_
      have g1 := f1.gr s6
      have g2 := f2.gr s6
      by_cases ct : isTu b 1 9 = true
      case neg =>
        have c' : isTu b 1 9 = false := by simpa using ct
        rw [c']
        refine iteT ?_
        walk_at "st"
        exact mk_lst (mka_cons (mk_tup (mka_cons (mk_var rfl g1) mka_nil) (show 1 ≤ 100000 by decide)) mka_nil) (show 1 ≤ 100000 by decide) H6 Gr.rfl' _ fun v H7 s7 a => fin (s6.trans s7) (wrS_no c') a
      rw [ct]
      refine iteF ?_
      obtain ⟨ss, rfl, q1, q9⟩ := isTu_shape ct
      have nss : nxA ss = true := n1
      have y6 := y3.gr (sX.trans s6)
      walk_at "st"
      have lc := mk_lcRF (K := K) (σ := [some v1, some u1, some u2, o3, o4]) (H := H6) (i := 4) (n := ss.length) (ta := tCB (fun xs H Q => ∃ p ys, xs = [.ref p] ∧ (SqL K H p ys ∨ SqT K H p ys) ∧ Q (.int ys.length) H) (tCons (tVar 2) tNil))
        (tt := tNot (tTest (tCall (spP K fSen) [] E0 (tCons (tOp (rIxT K) (tVar 2) (tVar 4)) (tCons (tCB (fun xs H Q => ∃ p ys, xs = [.ref p] ∧ (SqL K H p ys ∨ SqT K H p ys) ∧ Q (.int ys.length) H) (tCons (tOp (rIxT K) (tVar 0) (tC (.int 0))) tNil)) (tCons (tOp (rIxT K) (tVar 0) (tC (.int 1))) tNil))))))
        (p := badAt ss (l.length : Int) wi) (show 4 < 5 by decide) (mk_lenT (mk_var (n := 2) rfl g2)) (by omega) (fun i hi H7 s7 => by
          obtain ⟨s, hs⟩ : ∃ s, ss[i]? = some s := ⟨_, List.getElem?_eq_getElem hi⟩
          have st := mt_not (mt_test (mk_call (K := K) (f := fSen) (r := .bl (isSe s (l.length : Int) wi)) (σ := (([some v1, some u1, some u2, o3, o4] : Sg).set 4 none).set 4 (some (.int (i : Int)))) (H := H7) (mka_cons (mk_ixT (i := i) (mk_var (n := 2) rfl (g2.gr s7)) (mk_var (n := 4) rfl (.int (i : Int))) hs) (mka_cons (mk_lenT (mk_ixT (i := 0) (mk_var (n := 0) rfl (y6.gr s7)) mk_int rfl)) (mka_cons (mk_ixT (i := 1) (mk_var (n := 0) rfl (y6.gr s7)) mk_int rfl) mka_nil))) ⟨s, l.length, wi, rfl, nxA_mem nss (List.mem_of_getElem? hs), rfl⟩))
          have e : badAt ss (l.length : Int) wi i = !isSe s (l.length : Int) wi := by unfold badAt; rw [hs]
          rw [e]
          exact st)
      refine lc H6 Gr.rfl' _ fun v7 H7 s7 a7 => ?_
      walk_at "st"
      have eW := wrS_filter (ss := ss) (k := j) (n := (l.length : Int)) (w := wi) ct
      generalize hfl : (List.range ss.length).filter (badAt ss (l.length : Int) wi) = fl at a7 eW
      have plf : ∀ m : List Nat, plA (m.map fun k => D.int (k : Nat)) = true := by
        intro m
        induction m with
        | nil => rfl
        | cons a m ih => exact ih
      have dpf : ∀ m : List Nat, PyData.depthAll (pyA (m.map fun k => D.int (k : Nat))) = 0 := by
        intro m
        induction m with
        | nil => rfl
        | cons a m ih => show max 0 (PyData.depthAll (pyA (m.map fun k => D.int (k : Nat)))) = 0; rw [ih]; rfl
      have en := mt_test (mk_neD (K := K) (σ := ([some v1, some u1, some u2, some v7, o4] : Sg)) (mk_var (n := 3) rfl a7) (mk_lst mka_nil (Nat.zero_le _)) (plf fl) rfl (by show PyData.depthAll (pyA _) + 1 ≤ 64; rw [dpf]; decide) (by decide))
      have ee : (!PyData.eqv (D.lst (fl.map fun k => D.int (k : Nat))).py (D.lst []).py) = !fl.isEmpty := by cases fl <;> rfl
      rw [ee] at en
      refine en H7 Gr.rfl' _ fun H8 s8 => ?_
      have s78 := s7.trans s8
      cases fl with
      | nil =>
        refine iteF ?_
        walk_at "st"
        refine ⟨fun i b' hi e => ?_, _, _, _, _, rfl, (sX.trans s6).trans s78⟩
        by_cases z : i = j
        · subst z
          rw [hj] at e
          cases e
          rw [Nat.zero_add, eW]
          rfl
        · exact low i b' (by omega) e
      | cons f0 fr =>
        refine iteT ?_
        walk_at "st"
        exact mk_lst (mka_cons (mk_tup (mka_cons (mk_var rfl (g1.gr s78)) (mka_cons (mk_ixL (i := 0) (mk_var rfl (a7.gr s8)) mk_int rfl) mka_nil)) (show 2 ≤ 100000 by decide)) mka_nil) (show 1 ≤ 100000 by decide) H8 Gr.rfl' _ fun v H9 s9 a => fin ((s6.trans s78).trans s9) (by rw [eW]; rfl) a
    · rintro σ H4 ⟨low, o1, o2, o3, o4, rfl, s4⟩
      have all : wrB (l.length : Int) wi 0 l = none := wrB_ok fun i b e => low i b (List.getElem?_eq_some_iff.mp e).1 e
      have each : ∀ b ∈ l, wrS b 0 (l.length : Int) wi = none := fun b hb => by
        obtain ⟨i, hi, rfl⟩ := List.mem_iff_getElem.mp hb
        exact wrS_num (low i _ hi (List.getElem?_eq_getElem hi))
      have y4 := y3.gr s4
      walk_at "st"
      have lens := mk_lcU (K := K) (σ := [some v1, o1, o2, o3, o4]) (H := H4) (i := 2) (ti := tOp (rIxT K) (tVar 0) (tC (.int 0))) (te := tCB (fun xs H Q => ∃ p ys, xs = [.ref p] ∧ (SqL K H p ys ∨ SqT K H p ys) ∧ Q (.int ys.length) H) (tCons (tVar 2) tNil)) (ds := l) (f := fun d => .int (lenD d : Nat))
        (fun H5 s5 => ev_ixT (i := 0) (ev_var rfl (y4.gr s5)) ev_int rfl) (fun d hd => rfl) (by omega) (fun d hd x H5 s5 ax => by
          obtain ⟨ss, rfl, _⟩ := wrS_inv (each d hd)
          exact mk_lenT (mk_var (n := 2) rfl ax))
      have sm := mk_sum (ns := l.map fun b => (lenD b : Int)) (by rw [List.map_map]; exact lens)
      have t1 := mt_test (mk_I0b (g := fun i j => decide (i > j)) sm (mk_int (i := 9)))
      refine t1 H4 Gr.rfl' _ fun H5 s5 => ?_
      by_cases c9 : (l.map fun b => (lenD b : Int)).sum > 9
      · rw [decide_eq_true c9]
        refine iteT ?_
        walk_at "st"
        refine one (sA.trans (s4.trans s5)) ?_
        rw [eH, all, if_pos c9]
        rfl
      rw [decide_eq_false c9]
      refine iteF ?_
      walk_at "st"
      have rn := mk_call (K := K) (f := fRNn) (σ := ([some v1, o1, o2, o3, o4] : Sg)) (H := H5) (r := .int (lcH l : Nat)) (mka_cons (mk_var (n := 0) rfl (y4.gr s5)) mka_nil) ⟨l, [.int wi], rfl, by omega, by omega, fun b hb => tmB_of (each b hb), rfl⟩
      refine mk_rep1 (K := K) (b := decide (((lcH l : Nat) : Int) > 12)) mk_str (mk_I0b (g := fun i j => decide (i > j)) rn (mk_int (i := 12))) H5 Gr.rfl' _ fun v H6 s6 a6 => k v H6 ((sA.trans (s4.trans s5)).trans s6) ?_
      rw [eH, all, if_neg c9]
      by_cases c12 : lcH l > 12
      · rw [decide_eq_true (show ((lcH l : Nat) : Int) > 12 by omega)] at a6
        rw [if_pos c12]
        exact a6
      · rw [decide_eq_false (show ¬ ((lcH l : Nat) : Int) > 12 by omega)] at a6
        rw [if_neg c12]
        exact a6
  | _ =>
    refine mt_or2 (b := false) t1 (fun z => by cases z) H Gr.rfl' _ fun H1 s1 => iteT ?_
    walk_at "st"
    exact one s1 rfl
end
end TSx

/-! Own layer, part W1: a def whose code object is known (it makes lambdas); a callee that lets none out; how a written lambda stands. -/
namespace TSx
open PySem L2 PySem.Spec PyProof.Rows LamX
structure FunC (K : PySem.W.Frag) (x : Str) (st : Stmt) (f : Addr) (fd : FuncData) (c : Addr) : Prop where
  ex : ∃ (oc : Value) (od : Option Addr) (kV doc pm : Value) (an : Option Addr) (ct : Value) (osl : Array (Option Value)),
    fd = PySem.W.fnOf x x (defArgs st) (defBody st) (defScope st) .none kV doc pm an (.ref c) ct ∧ K.lookup f = some ⟨oc, od, .func fd, osl⟩ ∧ PySem.W.codeIn K (.ref c) x = true
  kp : PySem.W.keepIn K (.ref f) = true
theorem FunC.fun {K : PySem.W.Frag} {x : Str} {st : Stmt} {f : Addr} {fd : FuncData} {c : Addr} (F : FunC K x st f fd c) : L2.Fun K x x st f fd := by
  obtain ⟨⟨oc, od, kV, doc, pm, an, ct, osl, h⟩, kp⟩ := F
  exact ⟨⟨oc, od, kV, doc, pm, an, _, ct, osl, h⟩, kp⟩
theorem funC_mk {K : PySem.W.Frag} {x : Str} {st : Stmt} {f c : Addr} {oc : Value} {od an : Option Addr} {osl : Array (Option Value)} {kV doc pm ct : Value} (l : K.lookup f = some ⟨oc, od, .func (PySem.W.fnOf x x (defArgs st) (defBody st) (defScope st) .none kV doc pm an (.ref c) ct), osl⟩)
    (cd : PySem.W.codeIn K (.ref c) x = true) (k : PySem.W.keepIn K (.ref f) = true) : FunC K x st f (PySem.W.fnOf x x (defArgs st) (defBody st) (defScope st) .none kV doc pm an (.ref c) ct) c := ⟨⟨oc, od, kV, doc, pm, an, ct, osl, rfl, l, cd⟩, k⟩
theorem fnG_ofC {P : Program} {w : World} {K : PySem.W.Frag} {mg : Str → Option Value} {base : Heap} {k : Nat} {f : Addr} {x : Str} {c : Addr} {st : Stmt} {fd : FuncData} {N ps : List Str} {sp : Sp}
    (F : FunC K x st f fd c) (S : FnScope N ps (defScope st)) (sz : ∀ vs H Q E, sp vs H Q E → vs.length = ps.length)
    (B : ∀ (A : Around) (outer : List Env) (s : Shared) (H : Hp) (vs : List V) (Q : VK) (E : XK), A.guards = some [] → Room k (A.deeper (envOfC x (defScope st) s.heap.objs.size f (.ref c))) → sp vs H Q E →
      ∃ t, PSs (cxOf CX0 P w K mg base N x (defScope st) f (.ref c) A outer s H E).nox (defBody st) t ∧ t { nx := fun _ H' => Q .non H', rt := Q } (start N vs) H) :
    FnG P w K mg base CX0 (k + 1) f fd ps sp := by
  obtain ⟨oc, od, kV, doc, pm, an, ct, osl, rfl, lk, hcd⟩ := F.ex
  refine ⟨sz, fun A outer s H args us vs Q E g hr e0 hb r hsp => ?_⟩
  -- the same def, its promise cut down to this very call: then the library's rule serves
  obtain ⟨t, ht', hq⟩ := B A outer s H vs Q E g (hr.deeper _) hsp
  have ht := ht'.nox
  have KX : K.In s.heap := e0.mod.kin.keeps fun b o e => (e0.bs b o e).1
  refine codeAny_call_function hr.depth (KX _ _ lk) rfl S.co S.gen rfl (PySem.W.codeRec_of KX hcd) (hb _ _ _ _ ?_)
  have kinds : ∀ y ∈ ps.zip us, (defScope st).names.lookup y.1 = some .local ∨ ((defScope st).names.lookup y.1 = some .cell ∧ ((cellsFrom (s.heap.objs.size + 1) (defScope st).names []).lookup y.1).isSome = true) := by
    intro y hy
    obtain ⟨n, v⟩ := y
    cases S.par n (List.of_mem_zip hy).1 with
    | inl q => exact Or.inl q
    | inr q => exact Or.inr ⟨q, PySem.W.cellsFrom_some _ _ _ (Or.inl q)⟩
  refine wpAny_newFunctionEnv_cells S.kind kinds fun env he s1 ic => ?_
  subst he
  have nolim : s.heap.NoLimit := e0.mod.nolimit.keeps fun b o e => (e0.bs b o e).1
  refine ⟨nolim.keeps ic.toInCall.keep, codeAny_func ?_⟩
  have J := inv_start (CX := CX0) (E := E) S hr.hd e0 (sz _ _ _ _ hsp) r ic
  refine wpAny_mono (ht.run [] s1 (start N vs) H _ J hq) (fun fl s' z => ?_) fun _ _ z => z
  match fl, z with
  | .ret u, z =>
    obtain ⟨v, σ', H', I, rv, q⟩ := z
    exact ⟨v, H', I.os, I.bare, I.base, I.hok, rv, q⟩
  | .next, z =>
    obtain ⟨σ', H', I, q⟩ := z
    exact ⟨V.non, H', I.os, I.bare, I.base, I.hok, rfl, q⟩
  | .brk, z =>
    obtain ⟨_, _, _, q⟩ := z
    exact q.elim
  | .cont, z =>
    obtain ⟨_, _, _, q⟩ := z
    exact q.elim
/-- what lets nothing out here may be called -/
theorem passN {X : Cx} : Passes (L2.CX X.prog X.w) X (fun _ _ _ => False) := fun _ _ _ _ _ _ _ c => by
  obtain ⟨_, _, _, _, _, _, _, _, _, _, _, _, z⟩ := c
  exact z.elim
theorem loc_of {names : List (Str × NameKind)} {N : List Str} (h : ∀ p ∈ names, p.2 = .local → p.1 ∉ N) : ∀ y, names.lookup y = some .local → y ∉ N := fun y e => h _ (PySem.mem_of_lookup e) rfl
end TSx

namespace TSx
open PySem L2 LamX
local macro_rules | `(tactic| walk_at "rd") => `(tactic| repeat (first
  | ((with_reducible show tVar _ _ _ _); refine r_v rfl ?_)
  | with_reducible refine r_c ?_
  | with_reducible refine r_op ?_
  | with_reducible refine r_I0 ?_
  | with_reducible refine r_cb ?_
  | with_reducible refine r_nil ?_
  | with_reducible refine r_cons ?_
  | with_reducible refine r_seq ?_
  | with_reducible refine r_next ?_
  | with_reducible refine r_asg ?_
  | with_reducible refine r_name ?_
  | with_reducible refine r_ret ?_
  | with_reducible refine r_drop ?_
  | with_reducible refine r_if ?_
  | with_reducible refine r_test ?_
  | with_reducible refine r_bl ?_
  | with_reducible refine r_call ?_))
local macro_rules | `(tactic| walk_at "st") => `(tactic| repeat (first
  | with_reducible refine r_seq ?_
  | with_reducible refine r_next ?_
  | with_reducible refine r_asg ?_
  | with_reducible refine r_name ?_
  | with_reducible refine r_ret ?_
  | with_reducible refine r_drop ?_
  | with_reducible refine r_if ?_))
local macro_rules | `(tactic| walk_at "mk") => `(tactic| repeat (first
  | with_reducible exact mk_non
  | with_reducible exact mk_int
  | with_reducible exact mk_str
  | with_reducible exact mk_bl
  | with_reducible exact mk_dic
  | with_reducible exact mka_nil
  | with_reducible refine mka_cons ?_ ?_
  | ((with_reducible refine mk_tup ?_ ?hz); (case hz => decide))
  | ((with_reducible refine mk_lst ?_ ?hz); (case hz => decide))
  | with_reducible refine mk_neg ?_))
local macro_rules | `(tactic| walk_at "kb") => `(tactic| repeat (first
  | with_reducible exact kb_non
  | with_reducible exact kb_int
  | with_reducible exact kb_str
  | with_reducible exact kb_bl
  | with_reducible exact kb_dic (by assumption)
  | with_reducible exact kba_nil
  | with_reducible refine kba_cons ?_ ?_
  | ((with_reducible refine kb_tup (by assumption) ?_ ?hz); (case hz => decide))
  | ((with_reducible refine kb_lst (by assumption) ?_ ?hz); (case hz => decide))
  | with_reducible refine kb_neg ?_))
abbrev sRI : Stmt := top 52
theorem scRI : FnScope ["home", "limits", "heard", "due", "kept_so", "one", "other"] ["home", "limits"] (defScope sRI) := ⟨rfl, rfl, rfl, by decide +kernel, rfl, by decide +kernel, by decide +kernel⟩
local macro_rules | `(tactic| walk_at "df") => `(tactic| first
  | exact ⟨rfl, fun fd h1 h2 => by rcases fd with ⟨⟩; simp only at h1 h2; subst h1; subst h2; rfl⟩
  | exact ⟨⟨_, _, rfl⟩, by decide +kernel, fun fd h1 => by rcases fd with ⟨⟩; simp only at h1; subst h1; exact ⟨_, rfl, fun u => rfl⟩⟩)
theorem free_of {names : List (Str × NameKind)} {sc : Scope} (h : ∀ y ∈ names, y.2 = .free → sc.names.lookup y.1 = some .cell ∨ sc.names.lookup y.1 = some .free) : ∀ y ∈ names, y.2 = .free → sc.names.lookup y.1 = some .cell ∨ sc.names.lookup y.1 = some .free := h
def lamQ (x : Str) (sg : Scope) : Str := (PyProof.Rows.envOfC x sg 0 0 .none).qual ++ "<lambda>"
/-- the def that hears -/
structure HeD (P : Program) (w : World) (K : PySem.W.Frag) (mg : Str → Option Value) (base : Heap) (a : HA) (g : Addr) (fd : FuncData) (k : Nat) : Prop where
  F : L2.Fun K "_law_heard" "_law_heard" sHE g fd
  gm : mg "_law_heard" = some (.ref g)
  b : Binds K fd ["call"] []
  G : ∀ cdv : Value, GivesC P w K mg base (k + 1) ["call", "error", "heard", "found", "caught"] "call" "_law_heard" (defScope sHE) (defBody sHE) g cdv (spHeard K a)
/-- what is heard -/
inductive Hd (K : PySem.W.Frag) (a : HA) : Out → D → Prop
  | ret (r : D) : Hd K a (.ret r) (.lst [r])
  | exc {C : Addr} {fl word : Str} {j : Nat} (R : HRow K a C fl word j) (r : D) : Hd K a (.exc C fl r) (.tup [.str word, r])
def dueD (word : Str) (d : D) : Option D → D
  | none => .lst [d]
  | some p => .tup [.str word, p]
theorem mk_like {K : PySem.W.Frag} {ta tb : TE} {σ : Sg} {H : Hp} {d : D} (h : Mk K ta σ H d) (h2 : Mk K tb σ H d) (r : d.rd) : Mk K (tCall (spLike K) [] E0 (tCons ta (tCons tb tNil))) σ H (.bl true) := fun H1 s Q q => h H1 s _ fun v H2 s2 b => h2 H2 (s.trans s2) _ fun u H3 s3 c =>
  ⟨v, u, d, rfl, b.gr s3, c, r, q _ H3 (s2.trans s3) (.bl true)⟩
theorem mk_reprD {K : PySem.W.Frag} {ta : TE} {σ : Sg} {H : Hp} {d : D} (h : Mk K ta σ H d) (r : d.rd) : Mk K (tCB (rReprD K) (tCons ta tNil)) σ H (.str d.pd.shown) := fun H1 s Q q => h H1 s _ fun v H2 s2 a => ⟨v, d, rfl, a, r, q _ H2 s2 (.str _)⟩
theorem wo_upd {B : Addr → Bool} {H : Hp} {p : Addr} {o : HO} (h : B p = true) : wo B (upd H p o) = wo B H := by
  funext b
  unfold wo
  by_cases e : b = p
  · subst e; rw [if_pos h, if_pos h]
  · rw [upd_ne e]
theorem wo_updN {B : Addr → Bool} {H : Hp} {p : Addr} {o : HO} (h : B p = false) : wo B (upd H p o) = upd (wo B H) p o := by
  funext b
  by_cases e : b = p
  · subst e
    rw [wo_at h, upd_same, upd_same]
  · rw [upd_ne e]
    unfold wo
    rw [upd_ne e]
/-- a wrong part: a word, or one or two small numbers -/
inductive Wp : D → Prop
  | word (x : Str) (h : x ∈ (["form", "wards", "bodies", "seats", "round", "turn", "gap"] : List Str)) : Wp (.str x)
  | one (k : Nat) (h : k ≤ 9) : Wp (.tup [.int (k : Nat)])
  | two (k j : Nat) (h : k ≤ 9) (h2 : j ≤ 9) : Wp (.tup [.int (k : Nat), .int (j : Nat)])
theorem Wp.gd {p : D} (h : Wp p) : Gd 0 400 1 p := by
  cases h with
  | word x h =>
    have a : (["form", "wards", "bodies", "seats", "round", "turn", "gap"] : List Str).all (fun x => (D.str x).gd 0 && decide ((D.str x).wg ≤ 400) && decide ((D.str x).dg ≤ 1)) = true := by decide +kernel
    have := List.all_eq_true.mp a x h
    simp only [Bool.and_eq_true, decide_eq_true_eq] at this
    exact ⟨this.1.1, this.1.2, this.2⟩
  | one k h => exact ⟨by simp only [D.gd, gdA, Bool.and_true, decide_eq_true_eq]; omega, by simp [D.wg, wgA], by simp [D.dg, dgA]⟩
  | two k j h h2 => exact ⟨by simp only [D.gd, gdA, Bool.and_true, Bool.and_eq_true, decide_eq_true_eq]; omega, by simp [D.wg, wgA], by simp [D.dg, dgA]⟩
theorem Wp.pl {p : D} (h : Wp p) : (D.lst [p]).pl = true := by
  cases h with
  | word x h =>
    have a : (["form", "wards", "bodies", "seats", "round", "turn", "gap"] : List Str).all (fun x => (D.lst [.str x]).pl) = true := by decide +kernel
    exact List.all_eq_true.mp a x h
  | one k h => rfl
  | two k j h h2 => rfl
theorem Wp.dp {p : D} (h : Wp p) : (D.lst [p]).py.depth ≤ 64 := by
  cases h with
  | word x h => simp [D.py, pyA, PyData.depth, PyData.depthAll]
  | one k h => simp [D.py, pyA, PyData.depth, PyData.depthAll]
  | two k j h h2 => simp [D.py, pyA, PyData.depth, PyData.depthAll]
theorem wrS_wp {d p : D} {k : Nat} {n w : Int} (hk : k ≤ 9) (h : wrS d k n w = some p) : Wp p := by
  cases e : isTu d 1 9 with
  | false =>
    rw [wrS_no e] at h
    cases h
    exact .one k hk
  | true =>
    obtain ⟨ss, rfl, l1, l9⟩ := isTu_shape e
    have h' : (if isTu (.tup ss) 1 9 then ((List.range ss.length).find? fun j => !(match ss[j]? with | some s => isSe s n w | none => true)).map fun j => D.tup [.int (k : Nat), .int (j : Nat)] else some (.tup [.int (k : Nat)])) = some p := h
    rw [e, if_pos rfl] at h'
    rw [Option.map_eq_some_iff] at h'
    obtain ⟨j, hj, rfl⟩ := h'
    have := List.mem_range.mp (List.mem_of_find?_eq_some hj)
    exact .two k j hk (by omega)
theorem wrB_wp {p : D} {n w : Int} : ∀ {bs : List D} {k : Nat}, k + bs.length ≤ 9 → wrB n w k bs = some p → Wp p
  | [], _, _, h => by cases h
  | b :: bs, k, z, h => by
    have h' : (wrS b k n w).or (wrB n w (k + 1) bs) = some p := h
    cases e : wrS b k n w with
    | some q =>
      rw [e] at h'
      cases h'
      exact wrS_wp (by omega) e
    | none =>
      rw [e, Option.none_or] at h'
      exact wrB_wp (by simp only [List.length_cons] at z; omega) h'
theorem wrH_wp {d p : D} (h : wrH d = some p) : Wp p := by
  unfold wrH at h
  split at h
  · rename_i b w
    split at h
    · split at h
      · rename_i qb
        obtain ⟨bs, rfl, l1, l3⟩ := isTu_shape qb
        cases w with
        | int wi =>
          simp only at h
          cases e : wrB (bs.length : Int) wi 0 bs with
          | some q =>
            rw [e, Option.some_or, Option.some_or] at h
            cases h
            exact wrB_wp (by omega) e
          | none =>
            rw [e, Option.none_or] at h
            split at h
            · cases h
              exact .word _ (by decide +kernel)
            · rw [Option.none_or] at h
              split at h
              · cases h
                exact .word _ (by decide +kernel)
              · cases h
        | _ => cases h
      · cases h
        exact .word _ (by decide +kernel)
    · cases h
      exact .word _ (by decide +kernel)
  · cases h
    exact .word _ (by decide +kernel)
theorem wrBd_wp {d p : D} (h : wrBd d = some p) : Wp p := by
  unfold wrBd at h
  split at h
  · split at h
    · split at h
      · cases h
      · cases h
        exact .word _ (by decide +kernel)
    · cases h
      exact .word _ (by decide +kernel)
  · cases h
    exact .word _ (by decide +kernel)
theorem gd_due {n w k : Nat} {word : Str} {d : D} {o : Option D} (h : Gd n w k d) (hw : (D.str word).gd 0 = true ∧ (D.str word).wg ≤ 400) (ho : ∀ p, o = some p → Wp p) : Gd n (w + 1000) (k + 2) (dueD word d o) := by
  cases o with
  | none => exact (gd_lst (m := 1) (fun x hx => by rw [List.mem_singleton.mp hx]; exact h) (by simp)).up (Nat.le_refl _) (by omega) (by omega)
  | some p =>
    have q := (ho p rfl).gd
    exact (gd_tup (n := 0) (w := 400) (k := 1) (m := 2) (fun x hx => by
      rcases List.mem_cons.mp hx with rfl | hx
      · exact ⟨hw.1, hw.2, Nat.zero_le _⟩
      · rw [List.mem_singleton.mp hx]; exact q) (by simp)).up (Nat.zero_le _) (by omega) (by omega)
theorem eqv_opt (o : Option D) : PyData.eqv (D.lst o.toList).py (D.lst []).py = o.isNone := by cases o <;> rfl
section
variable {K : PySem.W.Frag} {B : Addr → Bool} {σ : Sg} {H : Hp} {te ta tb : TE} {tt : TT} {t : TA} {d : D} {ds es : List D}
theorem kb_ifV {b : Bool} (ht : MkT tt σ H b) (h1 : b = true → ∀ H1, Same H H1 → MkB K B ta σ H1 d) (h2 : b = false → ∀ H1, Same H H1 → MkB K B tb σ H1 d) : MkB K B (tIf tt ta tb) σ H d := fun H1 s Q q => ht H1 s _ fun H2 s2 => by
  cases b with
  | true => exact iteT (h1 rfl H2 (s.trans s2) H2 Gr.rfl' _ fun v H3 s3 a => q v H3 (s2.trans s3) a)
  | false => exact iteF (h2 rfl H2 (s.trans s2) H2 Gr.rfl' _ fun v H3 s3 a => q v H3 (s2.trans s3) a)
theorem kb_ixL {i : Nat} (h : MkB K B ta σ H (.lst ds)) (h2 : MkB K B tb σ H (.int (i : Int))) (e : ds[i]? = some d) : MkB K B (tOp (rIxL K) ta tb) σ H d := fun H1 s Q q => h H1 s _ fun v H2 s2 a => h2 H2 (s.trans s2) _ fun u H3 s3 b => by
  cases b
  have a3 := a.gr (wo_same s3)
  cases a3 with
  | @lst p xs _ el aa =>
    obtain ⟨x, hx, ax⟩ := aa.nth e
    exact ⟨p, xs, (i : Int), x, rfl, rfl, SqL.of (wo_le _ _ el), atI_nat hx, q x _ (s2.trans s3) ax⟩
/-- [x] if one == [] else (word, one[0]) -/
theorem kb_due {word : Str} {i j : Nat} {o : Option D} (hB : ∀ b, B b = true → H b ≠ none) (ho : ∀ p, o = some p → Wp p) (hx : MkB K B (tVar i) σ H d) (h1 : MkB K B (tVar j) σ H (.lst o.toList)) (gx : ∀ H1, Same H H1 → MkB K B (tVar i) σ H1 d) (g1 : ∀ H1, Same H H1 → MkB K B (tVar j) σ H1 (.lst o.toList)) :
    MkB K B (tIf (tTest (tOp (rEqD K) (tVar j) (tLst tNil))) (tLst (tCons (tVar i) tNil)) (tTup (tCons (tC (.str word)) (tCons (tOp (rIxL K) (tVar j) (tC (.int 0))) tNil)))) σ H (dueD word d o) := by
  have pl : (D.lst o.toList).pl = true := by
    cases o with
    | none => rfl
    | some p => exact (ho p rfl).pl
  have dp : (D.lst o.toList).py.depth ≤ 64 := by
    cases o with
    | none => simp [D.py, pyA, PyData.depth, PyData.depthAll]
    | some p => exact (ho p rfl).dp
  have hB' : ∀ {H1 : Hp}, Same H H1 → ∀ b, B b = true → H1 b ≠ none := fun s b e z => hB b e (gr_none s z)
  refine kb_ifV (b := o.isNone) (by
    have m := mt_test (mk_eqD (K := K) h1.mk (mk_lst mka_nil (show 0 ≤ 100000 by decide)) pl rfl dp (by simp [D.py, pyA, PyData.depth, PyData.depthAll]))
    rw [eqv_opt] at m
    exact m) (fun b H1 s1 => ?_) (fun b H1 s1 => ?_)
  · cases o with
    | some p => cases b
    | none => exact kb_lst (hB' s1) (kba_cons (gx H1 s1) kba_nil) (show 1 ≤ 100000 by decide)
  · cases o with
    | none => cases b
    | some p => exact kb_tup (hB' s1) (kba_cons kb_str (kba_cons (kb_ixL (i := 0) (g1 H1 s1) kb_int rfl) kba_nil)) (show 2 ≤ 100000 by decide)
end
def spRight (K : PySem.W.Frag) (T : List (Addr × Str)) : Sp := fun vs H Q _ => ∃ (x y : V) (dh dl : D), vs = [x, y] ∧ Dt K H x dh ∧ Dt K H y dl ∧ Gd 900 20000 20 dh ∧ Gd 900 20000 20 dl ∧ Tabs T H ∧ ∀ H', ExtN H H' → Tabs T H' → Q (.bl true) H'
section
variable {P : Program} {w : World} {K : PySem.W.Frag} {mg : Str → Option Value} {base : Heap} {σ : Sg} {H : Hp} {te ta tb : TE} {t : TA} {d : D} {ds : List D} {a : HA} {T : List (Addr × Str)} {CH CB : Addr}
theorem r_heard {f : List D → Out → Prop} {o : Out} {r : D} {Q : VK} (TT : Tabs T H) (h : ∀ H2, ExtN H H2 → MkA K t σ H2 ds) (hf : f ds o) (hd : Hd K a o r) (q : ∀ v H', ExtN H H' → Tabs T H' → Dt K H' v r → Q v H') : tLamC T (spHeard K a) (fun E => tCall (spO K f) [] E t) σ H Q := by
  refine ⟨TT, fun H2 e2 T2 H3 s3 E Q' hE hV => ?_⟩
  refine r_callO (h H3 (e2.trans (ExtN.of s3))) hf fun H4 s4 => ?_
  cases hd with
  | ret r => exact fun v H5 s5 a5 => hV v H5 ⟨r, a5, fun v' H6 s6 a6 => q v' H6 (e2.trans (ExtN.of (((s3.trans s4).trans s5).trans s6))) (Tabs.sm T2 (((s3.trans s4).trans s5).trans s6)) a6⟩
  | @exc C fl word j R r => exact fun e v H5 s5 n x a5 => hE _ _ _ ⟨C, e, fl, word, j, v, r, rfl, rfl, x, a5, R, fun v' H6 s6 a6 => q v' H6 (e2.trans (ExtN.of (((s3.trans s4).trans s5).trans s6))) (Tabs.sm T2 (((s3.trans s4).trans s5).trans s6)) a6⟩
theorem mk_callO {f : List D → Out → Prop} {E : XK} {r : D} (h : MkA K t σ H ds) (hf : f ds (.ret r)) : Mk K (tCall (spO K f) [] E t) σ H r := fun H1 s Q q => r_callO (fun H2 s2 => h H2 (s.trans s2)) hf fun H2 s2 => fun v H3 s3 a => q v H3 (s2.trans s3) a
theorem ok_RI {f fW fB fR fL fN fA fO fg c P0 : Addr} {fd fdW fdB fdR fdL fdN fdA fdO fdg : FuncData} (F : FunC K "_law_right" sRI f fd c) (B : Blt mg) (TB : TabB base mg c P0) (hmT : (P0, lamQ "_law_right" (defScope sRI)) ∈ T) (huT : ∀ p ∈ T, p.1 = P0 → p.2 = lamQ "_law_right" (defScope sRI))
    (d_law_heard : HeD P w K mg base a fg fdg 6) (d_law_wrong : Dok P w K mg base 5 "_law_wrong" ["thing"] (spP K fWRn) fW fdW) (d_law_band_wrong : Dok P w K mg base 2 "_law_band_wrong" ["thing"] (spP K fBWn) fB fdB)
    (d_law_round : Dok P w K mg base 1 "_law_round" ["home"] (spP K fRNn) fR fdR) (d_law_like : DoG P w K mg base 1 "_law_like" ["heard", "due"] (spLike K) fL fdL)
    (dneed_house : DoX P w K mg base 5 "need_house" ["house"] (spO K (fNHn CH)) fN fdN) (dneed_band : DoX P w K mg base 3 "need_band" ["band"] (spO K (fBAn CB)) fA fdA) (dhouse_round : DoX P w K mg base 6 "house_round" ["house"] (spO K (fHRn CH)) fO fdO)
    (RH : HRow K a CH "place" "house" 1) (RB : HRow K a CB "part" "band" 4) : FnG P w K mg base CX0 9 f fd ["home", "limits"] (spRight K T) := by
  refine fnG_ofC (k := 8) F scRI (fun vs H Q E h => by obtain ⟨_, _, _, _, rfl, _⟩ := h; rfl) (fun A outer s H vs Q E g hr h => ?_)
  obtain ⟨x, y, dh, dl, rfl, hx, hy, gh, gl, TT, k⟩ := h
  have g2 := guards_deeper g (PyProof.Rows.envOfC "_law_right" (defScope sRI) s.heap.objs.size f (.ref c))
  refine ⟨_, (pss_cons (ps_par3 (i := 4) (j := 5) (l := 6) (by rfl) scRI.nd rfl rfl rfl (by decide) (by decide) (by decide) rfl rfl rfl (pa_cons (pe_callB (call_reprD g2 hr.units) (by rfl) B.repr PyProof.Rows.boot_repr (pa_cons (pe_lst (pa_cons (pv 0) (pa_cons (pv 1) pa_nil))) pa_nil)) (pa_cons (pe_call d_law_wrong.G (hr.mono (by decide)) rfl d_law_wrong.g d_law_wrong.k d_law_wrong.b .nil pass0 (pa_cons (pv 0) pa_nil)) (pa_cons (pe_call d_law_band_wrong.G (hr.mono (by decide)) rfl d_law_band_wrong.g d_law_band_wrong.k d_law_band_wrong.b .nil pass0 (pa_cons (pv 1) pa_nil)) pa_nil))) (by rfl))
  (pss_cons (ps_set (i := 2) scRI.nd rfl (Or.inl rfl) (pe_lst (pa_cons (pe_lamC (T := T) (l := LW.mk _ _ _ none) d_law_heard.F rfl d_law_heard.gm d_law_heard.b scHE rfl (Or.inl rfl) d_law_heard.G TB rfl hmT huT (hr.mono (by decide)) ⟨rfl, rfl, rfl, by decide +kernel, loc_of (N := ["home", "limits", "heard", "due", "kept_so", "one", "other"]) (by decide +kernel), free_of (sc := defScope sRI) (by decide +kernel), rfl, by walk_at "df"⟩ (fun A outer s H E f c2 hr => (pe_call dneed_house.G (hr.mono (by decide)) rfl dneed_house.g dneed_house.k dneed_house.b .nil (passes_call (takes_of rfl rfl rfl rfl) (fun _ _ _ _ z => z)) (pa_cons (pv 0) pa_nil)))) (pa_cons (pe_lamC (T := T) (l := LW.mk _ _ _ (some ("y", 0))) d_law_heard.F rfl d_law_heard.gm d_law_heard.b scHE rfl (Or.inl rfl) d_law_heard.G TB rfl hmT huT (hr.mono (by decide)) ⟨rfl, rfl, rfl, by decide +kernel, loc_of (N := ["home", "limits", "heard", "due", "kept_so", "one", "other"]) (by decide +kernel), free_of (sc := defScope sRI) (by decide +kernel), rfl, by walk_at "df"⟩ (fun A outer s H E f c2 hr => (pe_call dneed_band.G (hr.mono (by decide)) rfl dneed_band.g dneed_band.k dneed_band.b .nil (passes_call (takes_of rfl rfl rfl rfl) (fun _ _ _ _ z => z)) (pa_cons (pv 1) pa_nil)))) pa_nil))))
  (pss_cons (ps_set (i := 3) scRI.nd rfl (Or.inl rfl) (pe_lst (pa_cons (pe_ifExp (pt_cmpR (op_eqD hr.units) (pv 5) (pe_lst pa_nil) (nomark _)) (pe_lst (pa_cons (pv 0) pa_nil)) (pe_tup (pa_cons pe_str (pa_cons (pe_ix ix_list (pv 5) pe_int (fun _ _ => rfl)) pa_nil)))) (pa_cons (pe_ifExp (pt_cmpR (op_eqD hr.units) (pv 6) (pe_lst pa_nil) (nomark _)) (pe_lst (pa_cons (pv 1) pa_nil)) (pe_tup (pa_cons pe_str (pa_cons (pe_ix ix_list (pv 6) pe_int (fun _ _ => rfl)) pa_nil)))) pa_nil))))
  (pss_cons (ps_if (pt_cmpR (op_eqD hr.units) (pv 5) (pe_lst pa_nil) (nomark _)) (pss_cons (ps_expr (pe_bm PySem.F.plainAttrs_list PySem.F.slot_list_append PySem.F.type_list_append mt_append (pv 2) (pa_cons (pe_call dhouse_round.G (hr.mono (by decide)) rfl dhouse_round.g dhouse_round.k dhouse_round.b .nil passN (pa_cons (pv 0) pa_nil)) pa_nil)))
  (pss_one (ps_expr (pe_bm PySem.F.plainAttrs_list PySem.F.slot_list_append PySem.F.type_list_append mt_append (pv 3) (pa_cons (pe_call d_law_round.G (hr.mono (by decide)) rfl d_law_round.g d_law_round.k d_law_round.b .nil pass0 (pa_cons (pv 0) pa_nil)) pa_nil))))) pss_nil)
  (pss_one (ps_ret (pe_and (pe_callG d_law_like.G g2 (hr.mono (by decide)) rfl d_law_like.g d_law_like.k d_law_like.b pass0 (pa_cons (pv 2) (pa_cons (pv 3) pa_nil))) (pe_one (pe_cmpR op_eq (pe_callB (call_reprD g2 hr.units) (by rfl) B.repr PyProof.Rows.boot_repr (pa_cons (pe_lst (pa_cons (pv 0) (pa_cons (pv 1) pa_nil))) pa_nil)) (pv 4) (nomark _)))))))))), ?_⟩
  have lo : (D.lst [dh, dl]).rd := (gd_lst (m := 2) (fun d hd => by
    rcases List.mem_cons.mp hd with rfl | hd
    · exact gh
    · rw [List.mem_singleton.mp hd]; exact gl) (by simp)).rd (by omega) (by omega) (by omega)
  have nh := gh.nx
  have nl := gl.nx
  walk_at "st"
  refine (mka_cons (mk_reprD (mk_lst (mka_cons (mk_var (n := 0) rfl hx) (mka_cons (mk_var (n := 1) rfl hy) mka_nil)) (show 2 ≤ 100000 by decide)) lo) (mka_cons (mk_call (f := fWRn) (mka_cons (mk_var (n := 0) rfl hx) mka_nil) ⟨dh, rfl, nh, rfl⟩) (mka_cons (mk_call (f := fBWn) (mka_cons (mk_var (n := 1) rfl hy) mka_nil) ⟨dl, rfl, nl, rfl⟩) mka_nil)) : MkA K _ _ H _) H Gr.rfl' _ fun vs H1 s1 aa => ?_
  obtain ⟨v4, v5, v6, rfl, a4, a5, a6⟩ := aa.three
  refine ⟨v4, v5, v6, rfl, ?_⟩
  walk_at "st"
  have e1 := ExtN.of s1
  refine r_lst (r_cons (r_heard (K := K) (a := a) (o := orExc dh CH "place" (wrH dh)) (r := dueD "house" dh (wrH dh)) (Tabs.sm TT s1) (fun H2 e2 => mka_cons (mk_var (n := 0) rfl (hx.ext (e1.trans e2))) mka_nil) ⟨dh, rfl, nh, rfl⟩ (by
    cases wrH dh with
    | none => exact .ret dh
    | some p => exact .exc RH p) fun u1 H2 e2 T2 b1 => ?_))
  refine r_cons (r_heard (K := K) (a := a) (o := orExc dl CB "part" (wrBd dl)) (r := dueD "band" dl (wrBd dl)) T2 (fun H3 e3 => mka_cons (mk_var (n := 1) rfl (hy.ext (e1.trans (e2.trans e3)))) mka_nil) ⟨dl, rfl, nl, rfl⟩ (by
    cases wrBd dl with
    | none => exact .ret dl
    | some p => exact .exc RB p) fun u2 H3 e3 T3 b2 => ?_)
  refine r_nil ⟨sz1 (show 2 ≤ 100000 by decide), fun p1 n1 => ?_⟩
  walk_at "st"
  let Bp : Addr → Bool := fun b => decide (b = p1)
  have Bp1 : Bp p1 = true := decide_eq_true rfl
  have Bn : ∀ {b : Addr}, b ≠ p1 → Bp b = false := fun h => decide_eq_false h
  have s34 : Same H3 (upd H3 p1 (.lst [u1, u2])) := same_new n1
  have hp4 : upd H3 p1 (.lst [u1, u2]) p1 = some (.lst [u1, u2]) := upd_same
  have hB : ∀ b, Bp b = true → upd H3 p1 (.lst [u1, u2]) b ≠ none := fun b e => by
    have : b = p1 := of_decide_eq_true e
    subst this
    rw [upd_same]
    intro z; cases z
  have s3w : Same H3 (wo Bp (upd H3 p1 (.lst [u1, u2]))) := fun b o e => by
    have ne : b ≠ p1 := fun z => by rw [z, n1] at e; cases e
    rw [wo_at (Bn ne), upd_ne ne]
    exact e
  generalize upd H3 p1 (.lst [u1, u2]) = H4 at s34 hp4 hB s3w ⊢
  have eH3 : ExtN H H3 := e1.trans (e2.trans e3)
  have x0 : Dt K (wo Bp H4) x dh := (hx.ext eH3).gr s3w
  have y0 : Dt K (wo Bp H4) y dl := (hy.ext eH3).gr s3w
  have o0 : Dt K (wo Bp H4) v5 (.lst (wrH dh).toList) := (a5.ext (e2.trans e3)).gr s3w
  have q0 : Dt K (wo Bp H4) v6 (.lst (wrBd dl).toList) := (a6.ext (e2.trans e3)).gr s3w
  refine r_lst (r_cons (kb_due (K := K) (B := Bp) (i := 0) (j := 5) (d := dh) (o := wrH dh) (word := "house") hB (fun p h => wrH_wp h) (kb_var rfl x0) (kb_var rfl o0) (fun H1 s => kb_var rfl (x0.gr (wo_same s))) (fun H1 s => kb_var rfl (o0.gr (wo_same s))) H4 Gr.rfl' _ fun w1 H5 s5 c1 => ?_))
  have hB5 : ∀ b, Bp b = true → H5 b ≠ none := fun b e z => hB b e (gr_none s5 z)
  refine r_cons (kb_due (K := K) (B := Bp) (i := 1) (j := 6) (d := dl) (o := wrBd dl) (word := "band") hB5 (fun p h => wrBd_wp h) (kb_var rfl (y0.gr (wo_same s5))) (kb_var rfl (q0.gr (wo_same s5))) (fun H1 s => kb_var rfl (y0.gr (wo_same (s5.trans s)))) (fun H1 s => kb_var rfl (q0.gr (wo_same (s5.trans s)))) H5 Gr.rfl' _ fun w2 H6 s6 c2 => ?_)
  refine r_nil ⟨sz1 (show 2 ≤ 100000 by decide), fun p2 n2 => ?_⟩
  walk_at "st"
  have c1' := c1.gr (wo_same s6)
  have s46 := s5.trans s6
  have hp6 := s46 _ _ hp4
  have ne12 : p2 ≠ p1 := fun z => by rw [z, hp6] at n2; cases n2
  have B2 : Bp p2 = false := Bn ne12
  have n23 : H3 p2 = none := gr_none (s34.trans s46) n2
  have w26 : wo Bp H6 p2 = none := by rw [wo_at B2]; exact n2
  have s67 : Same H6 (upd H6 p2 (.lst [w1, w2])) := same_new n2
  have hp27 : upd H6 p2 (.lst [w1, w2]) p2 = some (.lst [w1, w2]) := upd_same
  generalize upd H6 p2 (.lst [w1, w2]) = H7 at s67 hp27 ⊢
  have S37 := (s34.trans s46).trans s67
  have us : DtA K H3 [u1, u2] [dueD "house" dh (wrH dh), dueD "band" dl (wrBd dl)] := .cons (b1.ext e3) (.cons b2 .nil)
  have ws : DtA K (wo Bp H6) [w1, w2] [dueD "house" dh (wrH dh), dueD "band" dl (wrBd dl)] := .cons c1' (.cons c2 .nil)
  have g1 : Gd 900 21000 22 (dueD "house" dh (wrH dh)) := gd_due gh (by decide +kernel) fun p h => wrH_wp h
  have g2' : Gd 900 21000 22 (dueD "band" dl (wrBd dl)) := gd_due gl (by decide +kernel) fun p h => wrBd_wp h
  have fin : ∀ (H' : Hp) (L : D), Dt K H' (.ref p1) L → Dt K H' (.ref p2) L → L.rd → Same H3 H' → (tAndV (tCall (spLike K) [] E0 (tCons (tVar 2) (tCons (tVar 3) tNil))) (tOp rEq (tCB (rReprD K) (tCons (tLst (tCons (tVar 0) (tCons (tVar 1) tNil))) tNil)) (tVar 4))) [some x, some y, some (.ref p1), some (.ref p2), some v4, some v5, some v6] H' Q := fun H' L h1 h2 rd S => by
    have eH' : ExtN H H' := eH3.trans (ExtN.of S)
    cases a4
    refine (mk_andV (K := K) (a := true) (b := true) (mk_like (mk_var (n := 2) rfl h1) (mk_var (n := 3) rfl h2) rd) fun _ => ?_) H' Gr.rfl' Q fun v H9 s9 a9 => ?_
    · have m := mk_eqS (K := K) (σ := [some x, some y, some (.ref p1), some (.ref p2), some (.str (D.lst [dh, dl]).pd.shown), some v5, some v6]) (H := H') (mk_reprD (mk_lst (mka_cons (mk_var (n := 0) rfl (hx.ext eH')) (mka_cons (mk_var (n := 1) rfl (hy.ext eH')) mka_nil)) (show 2 ≤ 100000 by decide)) lo) (mk_var (n := 4) rfl (.str _))
      rw [decide_eq_true rfl] at m
      exact m
    · cases a9
      exact k H9 (eH'.trans (ExtN.of s9)) (Tabs.sm T3 (S.trans s9))
  have pl : (D.lst (wrH dh).toList).pl = true := by
    cases q : wrH dh with
    | none => rfl
    | some p => exact (wrH_wp q).pl
  have dp : (D.lst (wrH dh).toList).py.depth ≤ 64 := by
    cases q : wrH dh with
    | none => simp [D.py, pyA, PyData.depth, PyData.depthAll]
    | some p => exact (wrH_wp q).dp
  have tst := mt_test (mk_eqD (K := K) (σ := [some x, some y, some (.ref p1), some (.ref p2), some v4, some v5, some v6]) (H := H7) (mk_var (n := 5) rfl ((a5.ext (e2.trans e3)).gr S37)) (mk_lst mka_nil (show 0 ≤ 100000 by decide)) pl rfl dp (by simp [D.py, pyA, PyData.depth, PyData.depthAll]))
  rw [eqv_opt] at tst
  refine tst H7 Gr.rfl' _ fun H8 s8 => ?_
  have hp28 := s8 _ _ hp27
  have hp18 : H8 p1 = some (.lst [u1, u2]) := s8 _ _ (s67 _ _ hp6)
  have S38 := S37.trans s8
  have W8 : Same (wo Bp H6) (wo Bp H8) := wo_same (s67.trans s8)
  cases wh : wrH dh with
  | some p =>
    rw [wh] at us ws g1
    refine r_ifF rfl ?_
    walk_at "st"
    refine fin H8 (.lst _) (.lst hp18 (us.gr S38)) (.lst hp28 ((ws.gr W8).gr wo_le)) ?_ S38
    exact (gd_lst (m := 2) (n := 900) (w := 21000) (k := 22) (fun d hd => by
      rcases List.mem_cons.mp hd with rfl | hd
      · exact g1
      · rw [List.mem_singleton.mp hd]; exact g2') (by simp)).rd (by omega) (by omega) (by omega)
  | none =>
    rw [wh] at us ws g1
    obtain ⟨bs, wi, rfl, w0, w4, l1, l3, each, sum9, lc12⟩ := wrH_inv wh
    refine r_ifT rfl ?_
    walk_at "st"
    have eH8 : ExtN H H8 := eH3.trans (ExtN.of S38)
    refine r_app (K := K) (n := 2) (p := p1) (xs := [u1, u2]) rfl hp18 (show 2 < 100000 by decide) (mk_callO (f := fHRn CH) (r := .int (lcH bs : Nat)) (mka_cons (mk_var (n := 0) rfl (hx.ext eH8)) mka_nil) ⟨_, rfl, nh, by rw [wh]; rfl⟩) fun v H9 s9 a9 => ?_
    cases a9
    walk_at "st"
    have S3A : Same H3 (upd H9 p1 (.lst ([u1, u2] ++ [.int (lcH bs : Nat)]))) := same_mut (S38.trans s9) n1
    have hA1 : upd H9 p1 (.lst ([u1, u2] ++ [.int (lcH bs : Nat)])) p1 = some (.lst ([u1, u2] ++ [.int (lcH bs : Nat)])) := upd_same
    have hA2 : upd H9 p1 (.lst ([u1, u2] ++ [.int (lcH bs : Nat)])) p2 = some (.lst [w1, w2]) := by rw [upd_ne ne12]; exact s9 _ _ hp28
    have WA : Same (wo Bp H6) (wo Bp (upd H9 p1 (.lst ([u1, u2] ++ [.int (lcH bs : Nat)])))) := by rw [wo_upd Bp1]; exact W8.trans (wo_same s9)
    generalize upd H9 p1 (.lst ([u1, u2] ++ [.int (lcH bs : Nat)])) = HA at S3A hA1 hA2 WA ⊢
    have eHA : ExtN H HA := eH3.trans (ExtN.of S3A)
    refine r_app (K := K) (n := 3) (p := p2) (xs := [w1, w2]) rfl hA2 (show 2 < 100000 by decide) (mk_call (f := fRNn) (r := .int (lcH bs : Nat)) (mka_cons (mk_var (n := 0) rfl (hx.ext eHA)) mka_nil) ⟨bs, [.int wi], rfl, by omega, by omega, fun b hb => tmB_of (each b hb), rfl⟩) fun v' HB sB aB => ?_
    cases aB
    walk_at "st"
    have WB : Same (wo Bp H6) (wo Bp (upd HB p2 (.lst ([w1, w2] ++ [V.int (lcH bs : Nat)])))) := by
      rw [wo_updN B2]
      exact same_mut (WA.trans (wo_same sB)) w26
    refine fin _ (.lst ([dueD "house" (.tup [.tup bs, .int wi]) none, dueD "band" dl (wrBd dl)] ++ [.int (lcH bs : Nat)])) (.lst (xs := [u1, u2] ++ [.int (lcH bs : Nat)]) (by rw [upd_ne ne12.symm]; exact sB _ _ hA1) ((us.gr (same_mut (S3A.trans sB) n23)).app (.cons (.int _) .nil))) (.lst (xs := [w1, w2] ++ [.int (lcH bs : Nat)]) upd_same (((ws.gr WB).gr wo_le).app (.cons (.int _) .nil))) ?_ (same_mut (S3A.trans sB) n23)
    · have gi : Gd 900 21000 22 (.int (lcH bs : Nat)) := ⟨by simp only [D.gd, decide_eq_true_eq]; omega, by simp [D.wg], Nat.zero_le _⟩
      exact (gd_lst (m := 3) (n := 900) (w := 21000) (k := 22) (fun d hd => by
        rcases List.mem_cons.mp hd with rfl | hd
        · exact g1
        · rcases List.mem_cons.mp hd with rfl | hd
          · exact g2'
          · rw [List.mem_singleton.mp hd]; exact gi) (by simp)).rd (by omega) (by omega) (by omega)
end
end TSx

/-! Own layer, part U1: list of a text, a tuple times one, what stays where a list of refs is written; growing with tables. -/
namespace TSx
open PySem L2 PySem.Spec PyProof.Rows LamX
def rListS : List V → Hp → VK → Prop := fun xs H Q => ∃ x : Str, xs = [.str x] ∧ x.length ≤ 1000 ∧ ∀ p, H p = none → Q (.ref p) (upd H p (.lst (x.cps.toList.map fun c => V.str ⟨#[c]⟩)))
theorem call_listS {X : Cx} (hc : X.calm = true) : CallR X (.type "list") rListS := by
  intro pins s σ H xs us Q I r h
  obtain ⟨x, rfl, hx, q⟩ := h
  obtain ⟨u, rfl, t, rfl⟩ := vals1 r
  have hz : x.cps.size ≤ sizeLine := by
    have : x.cps.size = x.length := rfl
    rw [sizeLine_eq]; omega
  refine PySem.call_list_str (I.ok.hd hc) x t (fun h' tk acc' c' hk hS hacc => ?_) hz
  refine ⟨.ref s.heap.objs.size, upd H s.heap.objs.size (.lst (x.cps.toList.map fun c => V.str ⟨#[c]⟩)), I.laid hk (Nat.le_refl _) (show ObjOk X.prog X.w _ _ _ (.lst (x.cps.toList.map fun c => V.str ⟨#[c]⟩)) from ⟨?_, acc'.toList, c', ?_, ?_⟩), rfl, q _ (I.hok.fresh (Nat.le_refl _))⟩
  · rw [List.length_map, Array.length_toList]; exact hz
  · refine vals_of_at (by rw [List.length_map, Array.length_toList, Array.length_toList, hacc.1]) fun j a w h1 h2 => ?_
    obtain ⟨c, u, hc2, rfl⟩ := hacc.2 j w (by rw [← Array.getElem?_toList]; exact h2)
    rw [List.getElem?_map, Array.getElem?_toList, hc2] at h1
    cases h1
    exact ⟨_, rfl⟩
  · simpa using hS
def rRep1 (K : PySem.W.Frag) : R2 := fun x y H Q => ∃ l xs, x = .ref l ∧ y = .int 1 ∧ SqT K H l xs ∧ Q (.ref l) H
theorem tuple_mul1 (l : Addr) (items : Array Value) (n : Nat) (dd : Option Addr) (sl : Array (Option Value)) (u : Tok) :
    Meets (Builtin.«tuple.__mul__» ⟨[.ref l, .int 1 u], []⟩) (fun _ R s => s.heap.get? l = some { cls := .type "tuple", dict := dd, data := .seq items n, slots := sl } ∧ R (.ok (.ret (Value.ref l))) s) :=
  .of_wp fun prog w A R s h => by
    obtain ⟨hp, g, d, tk, os⟩ := s
    obtain ⟨hl, h⟩ := h
    have f1 := AutoSeq1.idx_int
    wp_walk using wpAny_loadPart' hl
    exact ⟨_, rfl, h⟩
theorem op_rep1 {X : Cx} : OpR X (binaryOp .Mult) (rRep1 X.K) := by
  intro pins s σ H x y v u Q I rx ry h
  obtain ⟨l, xs, rfl, rfl, hT, q⟩ := h
  cases rx
  obtain ⟨t, rfl⟩ := ry
  obtain ⟨its, r, ⟨⟨cls, dd, data, sl⟩, ho, hc, n, hd⟩, hs⟩ := I.tuple hT
  simp only at hc hd
  subst hc hd
  refine wpAny_binaryOp_repeat_ref (T := "tuple") (U := "int") (by decide) ⟨_, ho, rfl⟩ (fun s' => typeIs_int s' 1 t) noFill_tuple_mul F.fills_int_mul F.slot_int_rmul repeat_tuple F.slot_int_index.lookup
    (call_meets F.slot_int_rmul (typeIs_int s 1 t) F.entry_int_rmul (F.args_int_rmul_2 _ _) (int_rmul_tuple 1 t l its.toArray n dd sl)
      ⟨ho, rfl, ⟨_, ho, rfl⟩, call_meets F.slot_tuple_mul ⟨_, ho, rfl⟩ F.entry_tuple_mul (F.args_tuple_mul_2 _ _) (tuple_mul1 l its.toArray n dd sl t) ⟨ho, ?_⟩⟩)
  exact ⟨.ref l, H, I, rfl, q⟩
def rRepTA (K : PySem.W.Frag) : R2 := fun x y H Q => ∃ l k xs, x = .ref l ∧ y = .int k ∧ SqT K H l xs ∧ xs ≠ [] ∧ 1 ≤ k ∧ k ≤ 1000 ∧ xs.length ≤ 1000 ∧ (k = 1 → Q (.ref l) H) ∧ (2 ≤ k → ∀ p, H p = none → Q (.ref p) (upd H p (.tup (List.replicate k.toNat xs).flatten)))
theorem op_repTA {X : Cx} : OpR X (binaryOp .Mult) (rRepTA X.K) := by
  intro pins s σ H x y v u Q I rx ry h
  obtain ⟨l, k, xs, rfl, rfl, hT, hne, h1, h2, hz, q1, q2⟩ := h
  by_cases e : k = 1
  · subst e
    exact op_rep1 pins s σ H _ _ v u Q I rx ry ⟨l, xs, rfl, rfl, hT, q1 rfl⟩
  · exact op_repT pins s σ H _ _ v u Q I rx ry ⟨l, k, xs, rfl, rfl, hT, hne, by omega, h2, hz, q2 (by omega)⟩
/-! ### what stays where a list of refs is written -/
mutual
/-- each list in it is one of texts, and not empty; no dict -/
def D.sl : D → Bool
  | .non => true
  | .bl _ => true
  | .int _ => true
  | .str _ => true
  | .lst xs => !xs.isEmpty && xs.all fun d => match d with | .str _ => true | _ => false
  | .tup xs => slA xs
  | .dic _ => false
  | .exc _ _ => false
def slA : List D → Bool
  | [] => true
  | d :: ds => d.sl && slA ds
end
theorem slA_of : ∀ {ds : List D}, (∀ d ∈ ds, d.sl = true) → slA ds = true
  | [], _ => rfl
  | x :: xs, h => by
    simp only [slA, Bool.and_eq_true]
    exact ⟨h x (List.mem_cons_self ..), slA_of fun d m => h d (List.mem_cons_of_mem _ m)⟩
section
variable {K : PySem.W.Frag} {H H' : Hp} {L : Addr} {ys : List V} {o : HO}
mutual
theorem Dt.ovr (hL : H L = some (.lst ys)) (hy : ∀ y ∈ ys, ∃ a, y = V.ref a) : ∀ {v : V} {d : D}, Dt K H v d → d.sl = true → Dt K (upd H L o) v d
  | _, _, .non, _ => .non
  | _, _, .bl b, _ => .bl b
  | _, _, .int i, _ => .int i
  | _, _, .str x, _ => .str x
  | .ref p, .lst ds, @Dt.lst _ _ _ xs _ e aa, h => by
    simp only [D.sl, Bool.and_eq_true, List.all_eq_true] at h
    have fl : ∀ d ∈ ds, d.sc = true := fun d hd => by
      have := h.2 d hd
      cases d <;> first | rfl | cases this
    have ne : p ≠ L := fun z => by
      subst z
      rw [hL] at e
      cases e
      cases aa with
      | nil => exact absurd h.1 (by simp)
      | @cons v vs d ds a b =>
        obtain ⟨c, rfl⟩ := hy v (List.mem_cons_self ..)
        have q := h.2 d (List.mem_cons_self ..)
        cases a <;> cases q
    exact .lst (by rw [upd_ne ne]; exact e) (aa.any fl)
  | _, _, .tup e aa, h => by
    refine .tup ?_ (DtA.ovr hL hy aa h)
    rcases e with (e | ⟨u, e⟩) | e
    · exact Or.inl (Or.inl (by rw [upd_ne (fun z => by rw [z, hL] at e; cases e)]; exact e))
    · exact Or.inl (Or.inr ⟨u, by rw [upd_ne (fun z => by rw [z, hL] at e; cases e)]; exact e⟩)
    · exact Or.inr e
  | _, _, .dic e aa, h => by cases h
  | _, _, .exc e f aa, h => by cases h
theorem DtA.ovr (hL : H L = some (.lst ys)) (hy : ∀ y ∈ ys, ∃ a, y = V.ref a) : ∀ {v : List V} {d : List D}, DtA K H v d → slA d = true → DtA K (upd H L o) v d
  | _, _, .nil, _ => .nil
  | _, _, .cons a b, h => by
    simp only [slA, Bool.and_eq_true] at h
    exact .cons (Dt.ovr hL hy a h.1) (DtA.ovr hL hy b h.2)
end
/-! ### the memo changed, tables grown -/
def Kt (m g : Addr) (H H' : Hp) : Prop := ∀ b o, b ≠ m → b ≠ g → H b = some o → (∀ ps, o ≠ .tbl ps) → H' b = some o
variable {m c g : Addr} {v : V} {d : D} {H1 H2 : Hp}
theorem Kt.rf : Kt m g H H := fun _ _ _ _ e _ => e
theorem Kt.kp (h : Kp m g H H') : Kt m g H H' := fun b o h1 h2 e _ => h b o h1 h2 e
theorem Kt.ext (h : ExtN H H') : Kt m g H H' := fun b o _ _ e n => h b o e n
theorem wo_kt (s : Kt m g H H') : ExtN (wo (B2 m g) H) (wo (B2 m g) H') := fun b o e n => by
  unfold wo at e ⊢
  by_cases z : B2 m g b = true
  · rw [if_pos z] at e; cases e
  · rw [if_neg z] at e ⊢
    exact s b o (fun y => z (by rw [y]; exact B2_m)) (fun y => z (by rw [y]; exact B2_g)) e n
theorem Ap.kt (h : Ap K m g H v d) (k : Kt m g H H') : Ap K m g H' v d := Dt.ext (wo_kt k) h
theorem Kt.tr (a : Kt m g H H1) (b : Kt m g H1 H2) : Kt m g H H2 := fun x o h1 h2 e n => b x o h1 h2 (a x o h1 h2 e n) n
end
end TSx

namespace TSx
open PySem L2
/-! a right house is told right; stands of it; what is none -/
theorem isWy_ok {y : Way} {n m : Nat} (h : y.ok n m) : isWy y.d n m = true := by
  cases y with
  | kept => show isWd (.str "kept") ["kept"] = true; decide +kernel
  | ward i =>
    have h' : i < m := h
    show (isWd (.str "ward") ["ward"] && isW (.int (i : Nat)) 0 ((m : Int) - 1)) = true
    rw [show isWd (.str "ward") ["ward"] = true by decide +kernel]
    simp only [isW, Bool.true_and, Bool.and_eq_true, decide_eq_true_eq]
    omega
  | body b t =>
    obtain ⟨h1, h2⟩ := h
    show (isWd (.str "body") ["body", "rest"] && isWd (.str t) tiesL && isW (.int (b : Nat)) 0 ((n : Int) - 1)) = true
    rw [show isWd (.str "body") ["body", "rest"] = true by decide +kernel]
    simp only [isW, isWd, Bool.true_and, Bool.and_eq_true, decide_eq_true_eq, List.any_eq_true, beq_iff_eq]
    exact ⟨⟨t, h2, rfl⟩, by omega, by omega⟩
  | rest b t =>
    obtain ⟨h1, h2⟩ := h
    show (isWd (.str "rest") ["body", "rest"] && isWd (.str t) tiesL && isW (.int (b : Nat)) 0 ((n : Int) - 1)) = true
    rw [show isWd (.str "rest") ["body", "rest"] = true by decide +kernel]
    simp only [isW, isWd, Bool.true_and, Bool.and_eq_true, decide_eq_true_eq, List.any_eq_true, beq_iff_eq]
    exact ⟨⟨t, h2, rfl⟩, by omega, by omega⟩
theorem isSe_ok {s : Seat} {n m : Nat} (h : s.ok n m) : isSe s.d n m = true := by
  have h1 := h.t1
  have h2 := h.t6
  have h3 := h.p
  show (isW (.int (s.term : Nat)) 1 6 && isW (.int (s.phase : Nat)) 0 ((s.term : Int) - 1) && isWy s.way.d n m) = true
  rw [isWy_ok h.w]
  simp only [isW, Bool.and_true, Bool.and_eq_true, decide_eq_true_eq]
  omega
theorem termD_d (s : Seat) : termD s.d = s.term := by
  show ((s.term : Nat) : Int).toNat = s.term
  omega
theorem lcB_d (c : Nat) (b : List Seat) : lcB c (bodyD b) = lcmB c b := by
  show (b.map Seat.d).foldl (fun c s => (Nat.lcm 1 c).lcm (termD s)) c = b.foldl (fun c s => (Nat.lcm 1 c).lcm s.term) c
  rw [List.foldl_map]
  have e : (fun (c : Nat) (s : Seat) => (Nat.lcm 1 c).lcm (termD s.d)) = fun c s => (Nat.lcm 1 c).lcm s.term := by
    funext c s
    rw [termD_d]
  exact congrArg (fun f => b.foldl f c) e
theorem lcH_d (h : House) : lcH (h.bodies.map bodyD) = lcmH h := by
  show (h.bodies.map bodyD).foldl lcB 1 = h.bodies.foldl lcmB 1
  rw [List.foldl_map]
  have e : (fun (c : Nat) (b : List Seat) => lcB c (bodyD b)) = lcmB := by
    funext c b
    rw [lcB_d]
  exact congrArg (fun f => h.bodies.foldl f 1) e
theorem wrH_ok {h : House} (ok : h.ok) : wrH h.d = none := by
  have w4 := ok.w
  have n1 := ok.n1
  have n3 := ok.n3
  show (if isW (.int (h.wards : Nat)) 0 4 then (if isTu (.tup (h.bodies.map bodyD)) 1 3 then (((wrB ((h.bodies.map bodyD).length : Int) (h.wards : Nat) 0 (h.bodies.map bodyD)).or (if ((h.bodies.map bodyD).map fun b => (lenD b : Int)).sum > 9 then some (.str "seats") else none)).or (if lcH (h.bodies.map bodyD) > 12 then some (.str "round") else none)) else some (.str "bodies")) else some (.str "wards")) = none
  rw [if_pos (by simp only [isW, Bool.and_eq_true, decide_eq_true_eq]; omega), if_pos (by simp only [isTu, List.length_map, Bool.and_eq_true, decide_eq_true_eq]; omega)]
  rw [wrB_ok (fun i b e => ?_), Option.none_or, if_neg ?_, Option.none_or, if_neg ?_]
  · rw [lcH_d]; have := ok.lc; omega
  · rw [List.map_map]
    have e : ((fun b => (lenD b : Int)) ∘ bodyD) = fun b : List Seat => (b.length : Int) := by
      funext b
      show (((b.map Seat.d).length : Nat) : Int) = _
      rw [List.length_map]
    rw [e]
    have := ok.sum
    omega
  · rw [List.getElem?_map] at e
    cases q : h.bodies[i]? with
    | none => rw [q] at e; cases e
    | some l =>
      rw [q] at e
      cases e
      have m := List.mem_of_getElem? q
      have ll := ok.b l m
      refine wrS_ok (by simp only [isTu, List.length_map, Bool.and_eq_true, decide_eq_true_eq]; omega) fun j s hs => ?_
      rw [List.getElem?_map] at hs
      cases q2 : l[j]? with
      | none => rw [q2] at hs; cases hs
      | some st =>
        rw [q2] at hs
        cases hs
        rw [List.length_map]
        exact isSe_ok (ok.s l m st (List.mem_of_getElem? q2))
theorem isSd_side (l : List Bool) : isSd (.str (sideS l)) (l.length : Nat) = true := by
  show (decide (((sideS l).length : Int) = (l.length : Nat)) && (sideS l).cps.toList.all abC) = true
  have z : (sideS l).length = l.length := sideS_size l
  rw [z, decide_eq_true rfl, Bool.true_and, List.all_eq_true]
  intro c hc
  obtain ⟨i, hi⟩ := List.mem_iff_getElem?.mp hc
  rw [Array.getElem?_toList] at hi
  obtain ⟨b, _, rfl⟩ := sideS_at hi
  cases b <;> decide +kernel
theorem isStd_ok {h : House} {s : List (List Bool)} (f : Fits h s) : isStd h.d (standD s) = true := by
  show (decide ((s.map fun l => D.str (sideS l)).length = (h.bodies.map bodyD).length) && ((h.bodies.map bodyD).zip (s.map fun l => D.str (sideS l))).all fun p => isSd p.2 (lenD p.1 : Int)) = true
  have e : s.map List.length = h.bodies.map List.length := f
  have l0 := congrArg List.length e
  rw [List.length_map, List.length_map] at l0
  rw [List.length_map, List.length_map, decide_eq_true l0, Bool.true_and, List.all_eq_true]
  rintro ⟨a, b⟩ hp
  obtain ⟨i, hi⟩ := List.mem_iff_getElem?.mp hp
  obtain ⟨h1, h2⟩ := List.getElem?_zip_eq_some.mp hi
  rw [List.getElem?_map] at h1 h2
  cases q1 : h.bodies[i]? with
  | none => rw [q1] at h1; cases h1
  | some bb =>
    cases q2 : s[i]? with
    | none => rw [q2] at h2; cases h2
    | some ll =>
      rw [q1] at h1
      rw [q2] at h2
      cases h1
      cases h2
      have e2 : (s.map List.length)[i]? = (h.bodies.map List.length)[i]? := by rw [e]
      rw [List.getElem?_map, List.getElem?_map, q1, q2] at e2
      have e3 : ll.length = bb.length := Option.some.inj e2
      show isSd (.str (sideS ll)) ((lenD (bodyD bb) : Nat) : Int) = true
      have e4 : lenD (bodyD bb) = bb.length := by show (bb.map Seat.d).length = _; rw [List.length_map]
      rw [e4, ← e3]
      exact isSd_side ll
theorem isStd_len {h : House} {ls : List D} (n : ls.length ≠ h.bodies.length) : isStd h.d (.tup ls) = false := by
  show (decide (ls.length = (h.bodies.map bodyD).length) && _) = false
  rw [List.length_map, decide_eq_false n]
  rfl
theorem isStd_last {h : House} {xs : List D} {z : D} {bs : List (List Seat)} {b : List Seat} (e : h.bodies = bs ++ [b]) (hl : xs.length = bs.length) (hz : isSd z (b.length : Nat) = false) : isStd h.d (.tup (xs ++ [z])) = false := by
  show (decide ((xs ++ [z]).length = (h.bodies.map bodyD).length) && ((h.bodies.map bodyD).zip (xs ++ [z])).all fun p => isSd p.2 (lenD p.1 : Int)) = false
  rw [e, List.map_append, List.zip_append (by rw [List.length_map, hl]), List.all_append]
  have e4 : lenD (bodyD b) = b.length := by show (b.map Seat.d).length = _; rw [List.length_map]
  have : (((List.map bodyD [b]).zip [z]).all fun p => isSd p.2 (lenD p.1 : Int)) = false := by
    show (isSd z ((lenD (bodyD b) : Nat) : Int) && true) = false
    rw [e4, hz]
    rfl
  rw [this, Bool.and_false, Bool.and_false]
theorem isSd_len {x : Str} {n : Nat} (h : x.length ≠ n) : isSd (.str x) (n : Nat) = false := by
  show (decide (((x.length : Nat) : Int) = (n : Int)) && _) = false
  rw [decide_eq_false (by omega)]
  rfl
theorem isSd_c {x : Str} {n : Nat} : isSd (.str (x ++ "c")) (n : Nat) = false := by
  show (_ && (x ++ Str.ofString "c").cps.toList.all abC) = false
  have e : (x ++ Str.ofString "c").cps.toList = x.cps.toList ++ (Str.ofString "c").cps.toList := by
    show (x.cps ++ (Str.ofString "c").cps).toList = _
    rw [Array.toList_append]
  rw [e, List.all_append, show (Str.ofString "c").cps.toList.all abC = false by decide +kernel, Bool.and_false, Bool.and_false]
end TSx

namespace TSx
open PySem L2 LamX
local macro_rules | `(tactic| walk_at "rd") => `(tactic| repeat (first
  | ((with_reducible show tVar _ _ _ _); refine r_v rfl ?_)
  | with_reducible refine r_c ?_
  | with_reducible refine r_op ?_
  | with_reducible refine r_I0 ?_
  | with_reducible refine r_cb ?_
  | with_reducible refine r_nil ?_
  | with_reducible refine r_cons ?_
  | with_reducible refine r_seq ?_
  | with_reducible refine r_next ?_
  | with_reducible refine r_asg ?_
  | with_reducible refine r_name ?_
  | with_reducible refine r_ret ?_
  | with_reducible refine r_drop ?_
  | with_reducible refine r_if ?_
  | with_reducible refine r_test ?_
  | with_reducible refine r_bl ?_
  | with_reducible refine r_call ?_))
local macro_rules | `(tactic| walk_at "st") => `(tactic| repeat (first
  | with_reducible refine r_seq ?_
  | with_reducible refine r_next ?_
  | with_reducible refine r_asg ?_
  | with_reducible refine r_name ?_
  | with_reducible refine r_ret ?_
  | with_reducible refine r_drop ?_
  | with_reducible refine r_if ?_))
local macro_rules | `(tactic| walk_at "mk") => `(tactic| repeat (first
  | with_reducible exact mk_non
  | with_reducible exact mk_int
  | with_reducible exact mk_str
  | with_reducible exact mk_bl
  | with_reducible exact mk_dic
  | with_reducible exact mka_nil
  | with_reducible refine mka_cons ?_ ?_
  | ((with_reducible refine mk_tup ?_ ?hz); (case hz => decide))
  | ((with_reducible refine mk_lst ?_ ?hz); (case hz => decide))
  | with_reducible refine mk_neg ?_))
local macro_rules | `(tactic| walk_at "kb") => `(tactic| repeat (first
  | with_reducible exact kb_non
  | with_reducible exact kb_int
  | with_reducible exact kb_str
  | with_reducible exact kb_bl
  | with_reducible exact kb_dic (by assumption)
  | with_reducible exact kba_nil
  | with_reducible refine kba_cons ?_ ?_
  | ((with_reducible refine kb_tup (by assumption) ?_ ?hz); (case hz => decide))
  | ((with_reducible refine kb_lst (by assumption) ?_ ?hz); (case hz => decide))
  | with_reducible refine kb_neg ?_))
theorem cut_init (xs : List D) (z : D) : cutD (xs ++ [z]) none (some (-1)) = xs := by
  have e : HT.sIx (xs ++ [z]).length (xs ++ [z]).length (some (-1)) = xs.length := by
    unfold HT.sIx
    simp only [List.length_append, List.length_cons, List.length_nil]
    first | omega | (simp; omega) | (split <;> omega)
  have e0 : HT.sIx (xs ++ [z]).length 0 none = 0 := rfl
  unfold cutD
  rw [e, e0]
  simp
theorem cutS_init (l : List Bool) : cutS (sideS l) none (some (-1)) = sideS l.dropLast := by
  have e : HT.sIx (sideS l).length (sideS l).length (some (-1)) = l.length - 1 := by
    rw [sideS_len]
    unfold HT.sIx
    first | omega | (simp; omega) | (split <;> omega)
  have e0 : HT.sIx (sideS l).length 0 none = 0 := rfl
  unfold cutS
  rw [e, e0]
  unfold sideS
  simp [List.dropLast_eq_take]
theorem gd_str {x : Str} {n : Nat} (h : x.length ≤ n) (hn : n ≤ 1000) (hc : ∀ c ∈ x.cps.toList, c < 16 ^ 8) : Gd 0 (n + 1) 0 (.str x) := by
  refine ⟨?_, ?_, Nat.zero_le _⟩
  · simp only [D.gd, Bool.and_eq_true, decide_eq_true_eq, List.all_eq_true]
    exact ⟨by omega, hc⟩
  · have : x.cps.size = x.length := rfl
    simp only [D.wg]
    omega
theorem cps_side {l : List Bool} : ∀ c ∈ (sideS l).cps.toList, c < 16 ^ 8 := fun c hc => by
  obtain ⟨i, hi⟩ := List.mem_iff_getElem?.mp hc
  rw [Array.getElem?_toList] at hi
  obtain ⟨b, _, rfl⟩ := sideS_at hi
  cases b <;> decide
theorem cps_app {x y : Str} (hx : ∀ c ∈ x.cps.toList, c < 16 ^ 8) (hy : ∀ c ∈ y.cps.toList, c < 16 ^ 8) : ∀ c ∈ (x ++ y).cps.toList, c < 16 ^ 8 := fun c hc => by
  have e : (x ++ y).cps.toList = x.cps.toList ++ y.cps.toList := by
    show (x.cps ++ y.cps).toList = _
    rw [Array.toList_append]
  rw [e] at hc
  rcases List.mem_append.mp hc with h | h
  · exact hx c h
  · exact hy c h
theorem len_app (x y : Str) : (x ++ y).length = x.length + y.length := by
  show (x.cps ++ y.cps).size = _
  rw [Array.size_append]
  rfl
section
variable {K : PySem.W.Frag} {σ : Sg} {H : Hp} {te ta tb : TE} {t : TA} {d : D} {ds : List D}
theorem mk_ixTn {i : Int} (h : Mk K ta σ H (.tup ds)) (h2 : Mk K tb σ H (.int i)) (e : atI ds i = some d) : Mk K (tOp (rIxT K) ta tb) σ H d := fun H1 s Q q => h H1 s _ fun v H2 s2 a => h2 H2 (s.trans s2) _ fun u H3 s3 b => by
  cases b
  have a3 := a.gr s3
  cases a3 with
  | @tup p xs _ el aa =>
    unfold atI at e
    cases hj : ixN ds.length i with
    | none => rw [hj] at e; cases e
    | some j =>
      rw [hj] at e
      obtain ⟨x, hx, ax⟩ := aa.nth (show ds[j]? = some d from e)
      exact ⟨p, xs, i, x, rfl, rfl, el, by unfold atI; rw [aa.len, hj]; exact hx, q x _ (s2.trans s3) ax⟩
theorem at_last (xs : List D) (z : D) : atI (xs ++ [z]) (-1) = some z := by
  have e : ixN (xs ++ [z]).length (-1) = some xs.length := by
    unfold ixN
    simp only [List.length_append, List.length_cons, List.length_nil]
    rw [if_neg (by omega), if_pos (by omega)]
    congr 1
    omega
  unfold atI
  rw [e]
  simp
theorem mk_addT {x y : Str} (h : Mk K ta σ H (.str x)) (h2 : Mk K tb σ H (.str y)) (z : x.length + y.length ≤ 100000) : Mk K (tOp (fun x y H Q => ∃ i j, x = .str i ∧ y = .str j ∧ i.length + j.length ≤ sizeLine ∧ Q (.str (i ++ j)) H) ta tb) σ H (.str (x ++ y)) := fun H1 s Q q => h H1 s _ fun v H2 s2 a => h2 H2 (s.trans s2) _ fun u H3 s3 b => by
  cases a
  cases b
  exact ⟨_, _, rfl, rfl, sz1 z, q _ H3 (s2.trans s3) (.str _)⟩
theorem mk_slS {x : Str} {tl th : TO} {lo hi : Option Int} (h : Mk K ta σ H (.str x)) (hl : MkO tl σ H lo) (hh : MkO th σ H hi) (z : x.length ≤ 100000) : Mk K (tSl rSlS ta tl th) σ H (.str (cutS x lo hi)) := fun H1 s Q q => h H1 s _ fun v H2 s2 a => hl H2 (s.trans s2) _ fun H3 s3 => hh H3 ((s.trans s2).trans s3) _ fun H4 s4 => by
  cases a
  exact ⟨x, rfl, sz1 z, q _ H4 ((s2.trans s3).trans s4) (.str _)⟩
theorem dta_side {H : Hp} : ∀ l : List Bool, DtA K H (l.map fun b => V.str (sideS [b])) (l.map fun b => D.str (sideS [b]))
  | [] => .nil
  | b :: l => .cons (.str _) (dta_side l)
theorem dta_rep {H : Hp} {x : V} {d : D} (a : Dt K H x d) : ∀ n : Nat, DtA K H (List.replicate n x) (List.replicate n d)
  | 0 => .nil
  | n + 1 => .cons a (dta_rep a n)
theorem mk_listSd {l : List Bool} (h : Mk K ta σ H (.str (sideS l))) (z : l.length ≤ 1000) : Mk K (tCB rListS (tCons ta tNil)) σ H (.lst (l.map fun b => .str (sideS [b]))) := fun H1 s Q q => h H1 s _ fun v H2 s2 a => by
  cases a
  refine ⟨_, rfl, by rw [sideS_len]; exact z, fun p np => q _ _ (s2.trans (same_new np)) (.lst upd_same ?_)⟩
  have e : (sideS l).cps.toList.map (fun c => V.str ⟨#[c]⟩) = l.map fun b => V.str (sideS [b]) := by
    show ((l.map sideC).toArray).toList.map _ = _
    rw [List.map_map]
    rfl
  rw [e]
  exact dta_side l
theorem mk_lenT' (h : Mk K ta σ H (.tup ds)) : Mk K (tCB (fun xs H Q => ∃ p ys, xs = [.ref p] ∧ (SqL K H p ys ∨ SqT K H p ys) ∧ Q (.int ys.length) H) (tCons ta tNil)) σ H (.int (ds.length : Nat)) := mk_lenT h
theorem mk_repA {n : Nat} (h : Mk K ta σ H d) (h2 : Mk K tb σ H (.int (n : Nat))) (n1 : 1 ≤ n) (nz : n ≤ 1000) : Mk K (tOp (rRepTA K) (tTup (tCons ta tNil)) tb) σ H (.tup (List.replicate n d)) := by
  intro H1 s Q q
  refine (mk_tup (mka_cons h mka_nil) (show 1 ≤ 100000 by decide) : Mk K _ _ H (.tup [d])) H1 s _ fun v H2 s2 a => h2 H2 (s.trans s2) _ fun u H3 s3 b => ?_
  cases b
  have a3 := a.gr s3
  cases a3 with
  | @tup p xs _ el aa =>
    obtain ⟨x, rfl, ax⟩ := aa.one
    refine ⟨p, (n : Int), [x], rfl, rfl, el, by simp, by omega, by omega, by simp, fun e => ?_, fun e w nw => ?_⟩
    · have : n = 1 := by omega
      subst this
      exact q _ _ (s2.trans s3) (.tup el (.cons ax .nil))
    · refine q _ _ ((s2.trans s3).trans (same_new nw)) (.tup (SqT.of upd_same) ?_)
      have e : (List.replicate (n : Int).toNat [x]).flatten = List.replicate n x := by
        rw [Int.toNat_natCast]
        simp
      rw [e]
      exact (dta_rep ax n).gr (same_new nw)
end
end TSx

namespace TSx
open PySem L2 LamX
local macro_rules | `(tactic| walk_at "rd") => `(tactic| repeat (first
  | ((with_reducible show tVar _ _ _ _); refine r_v rfl ?_)
  | with_reducible refine r_c ?_
  | with_reducible refine r_op ?_
  | with_reducible refine r_I0 ?_
  | with_reducible refine r_cb ?_
  | with_reducible refine r_nil ?_
  | with_reducible refine r_cons ?_
  | with_reducible refine r_seq ?_
  | with_reducible refine r_next ?_
  | with_reducible refine r_asg ?_
  | with_reducible refine r_name ?_
  | with_reducible refine r_ret ?_
  | with_reducible refine r_drop ?_
  | with_reducible refine r_if ?_
  | with_reducible refine r_test ?_
  | with_reducible refine r_bl ?_
  | with_reducible refine r_call ?_))
local macro_rules | `(tactic| walk_at "st") => `(tactic| repeat (first
  | with_reducible refine r_seq ?_
  | with_reducible refine r_next ?_
  | with_reducible refine r_asg ?_
  | with_reducible refine r_name ?_
  | with_reducible refine r_ret ?_
  | with_reducible refine r_drop ?_
  | with_reducible refine r_if ?_))
local macro_rules | `(tactic| walk_at "mk") => `(tactic| repeat (first
  | with_reducible exact mk_non
  | with_reducible exact mk_int
  | with_reducible exact mk_str
  | with_reducible exact mk_bl
  | with_reducible exact mk_dic
  | with_reducible exact mka_nil
  | with_reducible refine mka_cons ?_ ?_
  | ((with_reducible refine mk_tup ?_ ?hz); (case hz => decide))
  | ((with_reducible refine mk_lst ?_ ?hz); (case hz => decide))
  | with_reducible refine mk_neg ?_))
local macro_rules | `(tactic| walk_at "kb") => `(tactic| repeat (first
  | with_reducible exact kb_non
  | with_reducible exact kb_int
  | with_reducible exact kb_str
  | with_reducible exact kb_bl
  | with_reducible exact kb_dic (by assumption)
  | with_reducible exact kba_nil
  | with_reducible refine kba_cons ?_ ?_
  | ((with_reducible refine kb_tup (by assumption) ?_ ?hz); (case hz => decide))
  | ((with_reducible refine kb_lst (by assumption) ?_ ?hz); (case hz => decide))
  | with_reducible refine kb_neg ?_))
abbrev sST : Stmt := top 53
theorem scST : FnScope ["m", "home", "first", "odds", "odd", "k"] ["m", "home"] (defScope sST) := ⟨rfl, rfl, rfl, by decide +kernel, rfl, by decide +kernel, by decide +kernel⟩
local macro_rules | `(tactic| walk_at "df") => `(tactic| first
  | exact ⟨rfl, fun fd h1 h2 => by rcases fd with ⟨⟩; simp only at h1 h2; subst h1; subst h2; rfl⟩
  | exact ⟨⟨_, _, rfl⟩, by decide +kernel, fun fd h1 => by rcases fd with ⟨⟩; simp only at h1; subst h1; exact ⟨_, rfl, fun u => rfl⟩⟩)
theorem fits_at {h : House} {s : List (List Bool)} (f : Fits h s) {i : Nat} {b : List Seat} {l : List Bool} (h1 : h.bodies[i]? = some b) (h2 : s[i]? = some l) : b.length = l.length := by
  have e : (s.map List.length)[i]? = (h.bodies.map List.length)[i]? := by rw [f]
  rw [List.getElem?_map, List.getElem?_map, h1, h2] at e
  exact (Option.some.inj e).symm
theorem fits_len {h : House} {s : List (List Bool)} (f : Fits h s) : s.length = h.bodies.length := by
  have := congrArg List.length f
  simpa using this
theorem fits_mem {h : House} {s : List (List Bool)} (ok : h.ok) (f : Fits h s) {l : List Bool} (hl : l ∈ s) : l.length ≤ 9 := by
  have : l.length ∈ h.bodies.map List.length := by rw [← f]; exact List.mem_map.mpr ⟨l, hl, rfl⟩
  obtain ⟨b, hb, e⟩ := List.mem_map.mp this
  rw [← e]
  exact (ok.b b hb).2
def iniD (s0 : List (List Bool)) : List D := s0.map fun l => .str (sideS l)
def odds7 (s0 : List (List Bool)) (l : List Bool) : List D := [.tup (iniD s0), .tup (iniD s0 ++ [.str (sideS l)] ++ [.str "a"]), .lst (iniD s0 ++ [.str (sideS l)]), .tup (iniD s0 ++ [.str (sideS l ++ "a")]), .tup (iniD s0 ++ [.str ""]), .non, .str "ab"]
def odds3 (s0 : List (List Bool)) (l : List Bool) : List D := [.tup (iniD s0 ++ [.str (sideS l.dropLast ++ "c")]), .tup (iniD s0 ++ [.lst (l.map fun b => .str (sideS [b]))]), .tup (List.replicate (s0.length + 1) .non)]
theorem gd_ini {s0 : List (List Bool)} (h3 : s0.length ≤ 2) (h9 : ∀ l ∈ s0, l.length ≤ 9) : ∀ d ∈ iniD s0, Gd 0 200 1 d := fun d hd => by
  obtain ⟨l, hl, rfl⟩ := List.mem_map.mp hd
  exact (gd_str (n := 9) (by rw [sideS_len]; exact h9 l hl) (by decide) cps_side).up (Nat.le_refl _) (by decide) (by decide)
theorem odd_all {h : House} {s0 : List (List Bool)} {l : List Bool} (ok : h.ok) (fit : Fits h (s0 ++ [l])) : ∀ d ∈ odds7 s0 l ++ odds3 s0 l, isStd h.d d = false ∧ Gd 0 2000 3 d ∧ d.sl = true := by
  have n3 := ok.n3
  have n1 := ok.n1
  have ls := fits_len fit
  rw [List.length_append, List.length_cons, List.length_nil] at ls
  have hne : h.bodies ≠ [] := fun z => by rw [z] at n1; simp at n1
  obtain ⟨bs, b, eb⟩ : ∃ bs b, h.bodies = bs ++ [b] := ⟨h.bodies.dropLast, h.bodies.getLast hne, (List.dropLast_concat_getLast hne).symm⟩
  have lb : s0.length = bs.length := by rw [eb, List.length_append, List.length_cons, List.length_nil] at ls; omega
  have ef : (s0 ++ [l]).map List.length = h.bodies.map List.length := fit
  rw [eb, List.map_append, List.map_append] at ef
  have el : l.length = b.length := by
    have := List.append_inj_right ef (by rw [List.length_map, List.length_map]; exact lb)
    simpa using this
  have hb := ok.b b (by rw [eb]; simp)
  have li : (iniD s0).length = bs.length := by unfold iniD; rw [List.length_map]; exact lb
  have lbb : bs.length + 1 = h.bodies.length := by rw [eb, List.length_append]; rfl
  have l9 : ∀ x ∈ s0 ++ [l], x.length ≤ 9 := fun x hx => fits_mem ok fit hx
  have gi := gd_ini (s0 := s0) (by omega) fun x hx => l9 x (List.mem_append_left _ hx)
  have gl : Gd 0 200 1 (.str (sideS l)) := (gd_str (n := 9) (by rw [sideS_len]; omega) (by decide) cps_side).up (Nat.le_refl _) (by decide) (by decide)
  have ca : ∀ c ∈ (Str.ofString "a").cps.toList, c < 16 ^ 8 := by decide +kernel
  have cc : ∀ c ∈ (Str.ofString "c").cps.toList, c < 16 ^ 8 := by decide +kernel
  have la1 : (Str.ofString "a").length = 1 := by decide +kernel
  have lc1 : (Str.ofString "c").length = 1 := by decide +kernel
  have gt : ∀ {xs : List D}, (∀ d ∈ xs, Gd 0 200 1 d) → xs.length ≤ 4 → Gd 0 2000 3 (.tup xs) := fun h n => (gd_tup (m := 4) h n).up (Nat.le_refl _) (by decide) (by decide)
  have app : ∀ {xs : List D} {z : D}, (∀ d ∈ xs, Gd 0 200 1 d) → Gd 0 200 1 z → ∀ d ∈ xs ++ [z], Gd 0 200 1 d := fun h hz d hd => by
    rcases List.mem_append.mp hd with q | q
    · exact h d q
    · rw [List.mem_singleton.mp q]; exact hz
  have si : ∀ d ∈ iniD s0, d.sl = true := fun d hd => by
    obtain ⟨x, _, rfl⟩ := List.mem_map.mp hd
    rfl
  have sa : ∀ {xs : List D} {z : D}, (∀ d ∈ xs, d.sl = true) → z.sl = true → slA (xs ++ [z]) = true := fun h hz => slA_of fun d hd => by
    rcases List.mem_append.mp hd with q | q
    · exact h d q
    · rw [List.mem_singleton.mp q]; exact hz
  intro d hd
  simp only [odds7, odds3, List.cons_append, List.nil_append, List.mem_cons, List.not_mem_nil, or_false] at hd
  rcases hd with rfl | rfl | rfl | rfl | rfl | rfl | rfl | rfl | rfl | rfl
  · exact ⟨isStd_len (by omega), gt gi (by omega), slA_of si⟩
  · refine ⟨isStd_len (by rw [List.length_append, List.length_append]; simp only [List.length_cons, List.length_nil]; omega), gt (app (app gi gl) ((gd_str (n := 9) (by omega) (by decide) ca).up (Nat.le_refl _) (by decide) (by decide))) (by rw [List.length_append, List.length_append]; simp only [List.length_cons, List.length_nil]; omega), sa (fun d hd => ?_) rfl⟩
    rcases List.mem_append.mp hd with q | q
    · exact si d q
    · rw [List.mem_singleton.mp q]; rfl
  · refine ⟨rfl, ?_, ?_⟩
    · have q := gt (app gi gl) (by rw [List.length_append]; simp only [List.length_cons, List.length_nil]; omega)
      exact ⟨q.g, q.w, q.k⟩
    · show (!(iniD s0 ++ [D.str (sideS l)]).isEmpty && (iniD s0 ++ [D.str (sideS l)]).all fun d => match d with | .str _ => true | _ => false) = true
      rw [Bool.and_eq_true, List.all_eq_true]
      refine ⟨by simp, fun d hd => ?_⟩
      rcases List.mem_append.mp hd with q | q
      · obtain ⟨x, _, rfl⟩ := List.mem_map.mp q
        rfl
      · rw [List.mem_singleton.mp q]
  · exact ⟨isStd_last eb li (isSd_len (by rw [len_app, sideS_len, la1]; omega)), gt (app gi ((gd_str (n := 12) (by rw [len_app, sideS_len, la1]; omega) (by decide) (cps_app cps_side ca)).up (Nat.le_refl _) (by decide) (by decide))) (by rw [List.length_append]; simp only [List.length_cons, List.length_nil]; omega), sa si rfl⟩
  · exact ⟨isStd_last eb li (isSd_len (by rw [show (Str.ofString "").length = 0 by decide +kernel]; omega)), gt (app gi ((gd_str (n := 12) (by decide +kernel) (by decide) (by decide +kernel)).up (Nat.le_refl _) (by decide) (by decide))) (by rw [List.length_append]; simp only [List.length_cons, List.length_nil]; omega), sa si rfl⟩
  · exact ⟨rfl, ⟨rfl, by decide, by decide⟩, rfl⟩
  · exact ⟨rfl, (gd_str (n := 12) (by decide +kernel) (by decide) (by decide +kernel)).up (Nat.le_refl _) (by decide) (by decide), rfl⟩
  · exact ⟨isStd_last eb li isSd_c, gt (app gi ((gd_str (n := 12) (by rw [len_app, sideS_len, lc1, List.length_dropLast]; omega) (by decide) (cps_app cps_side cc)).up (Nat.le_refl _) (by decide) (by decide))) (by rw [List.length_append]; simp only [List.length_cons, List.length_nil]; omega), sa si rfl⟩
  · have lne : l ≠ [] := fun z => by rw [z] at el; simp at el; omega
    refine ⟨isStd_last eb li rfl, gt (app gi ?_) (by rw [List.length_append]; simp only [List.length_cons, List.length_nil]; omega), sa si ?_⟩
    · refine (gd_lst (n := 0) (w := 2) (k := 0) (m := 9) (fun d hd => ?_) (by rw [List.length_map]; omega)).up (Nat.le_refl _) (by decide) (by decide)
      obtain ⟨b, _, rfl⟩ := List.mem_map.mp hd
      exact gd_str (n := 1) (by rw [sideS_len]; exact Nat.le_refl 1) (by decide) cps_side
    · show (!(l.map fun b => D.str (sideS [b])).isEmpty && (l.map fun b => D.str (sideS [b])).all fun d => match d with | .str _ => true | _ => false) = true
      rw [Bool.and_eq_true, List.all_eq_true]
      refine ⟨by simpa using lne, fun d hd => ?_⟩
      obtain ⟨b, _, rfl⟩ := List.mem_map.mp hd
      rfl
  · have er : List.replicate (s0.length + 1) D.non = List.replicate s0.length D.non ++ [.non] := List.replicate_succ'
    rw [er]
    exact ⟨isStd_last eb (by rw [List.length_replicate]; exact lb) rfl, gt (app (fun d hd => by rw [(List.mem_replicate.mp hd).2]; exact ⟨rfl, by decide, by decide⟩) ⟨rfl, by decide, by decide⟩) (by rw [List.length_append, List.length_replicate]; simp only [List.length_cons, List.length_nil]; omega), sa (fun d hd => by rw [(List.mem_replicate.mp hd).2]; rfl) rfl⟩
theorem gd_nat {i : Nat} (h : i ≤ 1000) : Gd 0 150 0 (.int (i : Nat)) := ⟨by simp only [D.gd, decide_eq_true_eq]; omega, by simp [D.wg], Nat.zero_le _⟩
theorem gd_way {y : Way} {n m : Nat} (h : y.ok n m) (hn : n ≤ 9) (hm : m ≤ 9) : Gd 0 164 1 y.d := by
  have tie : ∀ t ∈ tiesL, (D.str t).gd 0 = true ∧ (D.str t).wg ≤ 5 := by
    intro t ht
    have a : tiesL.all (fun t => (D.str t).gd 0 && decide ((D.str t).wg ≤ 5)) = true := by decide +kernel
    have := List.all_eq_true.mp a t ht
    simp only [Bool.and_eq_true, decide_eq_true_eq] at this
    exact this
  have three : ∀ (x t : Str) (b : Nat), (D.str x).gd 0 = true → (D.str x).wg ≤ 5 → t ∈ tiesL → b ≤ 1000 → Gd 0 164 1 (.tup [.str x, .int (b : Nat), .str t]) := fun x t b g1 w1 ht hb => by
    obtain ⟨g2, w2⟩ := tie t ht
    have g3 := (gd_nat hb).g
    refine ⟨?_, ?_, ?_⟩
    · simp only [D.gd, gdA, Bool.and_true, Bool.and_eq_true] at g1 g2 g3 ⊢
      exact ⟨g1, g3, g2⟩
    · simp only [D.wg, wgA] at w1 w2 ⊢
      omega
    · simp [D.dg, dgA]
  cases y with
  | kept => exact ⟨by show (D.tup [.str "kept"]).gd 0 = true; decide +kernel, by show (D.tup [.str "kept"]).wg ≤ 164; decide +kernel, by show (D.tup [.str "kept"]).dg ≤ 1; decide +kernel⟩
  | ward i =>
    have h' : i < m := h
    have g3 := (gd_nat (i := i) (by omega)).g
    have g1 : (D.str "ward").gd 0 = true := by decide +kernel
    have w1 : (D.str "ward").wg ≤ 5 := by decide +kernel
    refine ⟨?_, ?_, ?_⟩
    · show (D.tup [.str "ward", .int (i : Nat)]).gd 0 = true
      simp only [D.gd, gdA, Bool.and_true, Bool.and_eq_true] at g1 g3 ⊢
      exact ⟨g1, g3⟩
    · show (D.tup [.str "ward", .int (i : Nat)]).wg ≤ 164
      simp only [D.wg, wgA] at w1 ⊢
      omega
    · show (D.tup [.str "ward", .int (i : Nat)]).dg ≤ 1
      simp [D.dg, dgA]
  | body b t => exact three "body" t b (by decide +kernel) (by decide +kernel) h.2 (by have := h.1; omega)
  | rest b t => exact three "rest" t b (by decide +kernel) (by decide +kernel) h.2 (by have := h.1; omega)
theorem gd_seat {s : Seat} {n m : Nat} (h : s.ok n m) (hn : n ≤ 9) (hm : m ≤ 9) : Gd 0 468 2 s.d := by
  have h1 := h.t6
  have h2 := h.p
  obtain ⟨g, w, k⟩ := gd_way h.w hn hm
  have ga := (gd_nat (i := s.term) (by omega)).g
  have gb := (gd_nat (i := s.phase) (by omega)).g
  refine ⟨?_, ?_, ?_⟩
  · show (D.tup [.int (s.term : Nat), .int (s.phase : Nat), s.way.d]).gd 0 = true
    simp only [D.gd, gdA, Bool.and_true, Bool.and_eq_true] at ga gb ⊢
    exact ⟨ga, gb, g⟩
  · show (D.tup [.int (s.term : Nat), .int (s.phase : Nat), s.way.d]).wg ≤ 468
    simp only [D.wg, wgA]
    omega
  · show (D.tup [.int (s.term : Nat), .int (s.phase : Nat), s.way.d]).dg ≤ 2
    simp only [D.dg, dgA]
    omega
theorem wg_body {n m : Nat} (hn : n ≤ 9) (hm : m ≤ 9) : ∀ {b : List Seat}, (∀ s ∈ b, s.ok n m) → wgA (b.map Seat.d) ≤ 469 * b.length
  | [], _ => Nat.zero_le _
  | s :: b, h => by
    have a := (gd_seat (h s (List.mem_cons_self ..)) hn hm).w
    have c := wg_body hn hm fun x hx => h x (List.mem_cons_of_mem _ hx)
    simp only [List.map_cons, wgA, List.length_cons]
    omega
theorem wg_bodies {n m : Nat} (hn : n ≤ 9) (hm : m ≤ 9) : ∀ {bs : List (List Seat)}, (∀ b ∈ bs, ∀ s ∈ b, s.ok n m) → (wgA (bs.map bodyD) : Int) ≤ 469 * (bs.map fun b => (b.length : Int)).sum + 2 * bs.length
  | [], _ => by simp [wgA]
  | b :: bs, h => by
    have a := wg_body hn hm (h b (List.mem_cons_self ..))
    have c := wg_bodies hn hm fun x hx => h x (List.mem_cons_of_mem _ hx)
    have e : (bodyD b).wg = wgA (b.map Seat.d) + 1 := rfl
    simp only [List.map_cons, wgA, List.length_cons, List.sum_cons, e]
    push_cast
    omega
theorem gd_house {h : House} (ok : h.ok) : Gd 0 4381 5 h.d := by
  have n3 := ok.n3
  have w4 := ok.w
  have sm := ok.sum
  have each : ∀ b ∈ h.bodies, ∀ s ∈ b, Gd 0 468 2 s.d := fun b hb s hs => gd_seat (ok.s b hb s hs) (by omega) (by omega)
  have wb := wg_bodies (n := h.bodies.length) (m := h.wards) (by omega) (by omega) ok.s
  have g : (D.tup (h.bodies.map bodyD)).gd 0 = true := gdA_mem.mpr fun d hd => by
    obtain ⟨b, hb, rfl⟩ := List.mem_map.mp hd
    exact gdA_mem.mpr fun d hd => by
      obtain ⟨s, hs, rfl⟩ := List.mem_map.mp hd
      exact (each b hb s hs).g
  have k : (D.tup (h.bodies.map bodyD)).dg ≤ 4 := by
    show dgA (h.bodies.map bodyD) + 1 ≤ 4
    have : dgA (h.bodies.map bodyD) ≤ 3 := dgA_le.mpr fun d hd => by
      obtain ⟨b, hb, rfl⟩ := List.mem_map.mp hd
      show dgA (b.map Seat.d) + 1 ≤ 3
      have : dgA (b.map Seat.d) ≤ 2 := dgA_le.mpr fun d hd => by
        obtain ⟨s, hs, rfl⟩ := List.mem_map.mp hd
        exact (each b hb s hs).k
      omega
    omega
  have gw := (gd_nat (i := h.wards) (by omega)).g
  refine ⟨?_, ?_, ?_⟩
  · show (D.tup [.tup (h.bodies.map bodyD), .int (h.wards : Nat)]).gd 0 = true
    rw [D.gd, gdA, gdA, gdA, g, gw]
    rfl
  · show (D.tup [.tup (h.bodies.map bodyD), .int (h.wards : Nat)]).wg ≤ 4381
    rw [D.wg, wgA, wgA, wgA]
    have : (D.int (h.wards : Nat)).wg = 150 := rfl
    have e : (D.tup (h.bodies.map bodyD)).wg = wgA (h.bodies.map bodyD) + 1 := rfl
    omega
  · show (D.tup [.tup (h.bodies.map bodyD), .int (h.wards : Nat)]).dg ≤ 5
    rw [D.dg, dgA, dgA, dgA]
    have : (D.int (h.wards : Nat)).dg = 0 := rfl
    omega
section
variable {K : PySem.W.Frag} {σ : Sg} {H : Hp} {ta : TE} {xs : List D} {z : D}
theorem mk_initT (h : Mk K ta σ H (.tup (xs ++ [z]))) : Mk K (tSl (rSlA K) ta tNoPart (tPart (tUn (rU fun i => .int (-i)) (tC (.int 1))))) σ H (.tup xs) := by
  have q := mk_sl h mo_no (mo_int (K := K) (mk_neg (mk_int (i := 1))))
  rw [show (-(1 : Int)) = -1 from rfl, cut_init] at q
  exact q
theorem mk_lastT (h : Mk K ta σ H (.tup (xs ++ [z]))) : Mk K (tOp (rIxT K) ta (tUn (rU fun i => .int (-i)) (tC (.int 1)))) σ H z := mk_ixTn h (mk_neg mk_int) (at_last xs z)
end
section
variable {P : Program} {w : World} {K : PySem.W.Frag} {mg : Str → Option Value} {base : Heap} {σ : Sg} {H : Hp} {te ta tb : TE} {t : TA} {d : D} {ds : List D} {a : HA} {T : List (Addr × Str)} {CH CS : Addr}
def spStands (K : PySem.W.Frag) (T : List (Addr × Str)) : Sp := fun vs H Q _ => ∃ (m c g : Addr) (r : Nat) (x : V) (h : House), vs = [.ref m, x] ∧ MAt m c g H (r + 27) ∧ Ap K m g H x h.d ∧ h.ok ∧ Tabs T H ∧ ∀ H', MAt m c g H' r → Kt m g H H' → Tabs T H' → Q (.bl true) H'
theorem ok_ST {f fF fN fL fg c P0 : Addr} {fd fdF fdN fdL fdg : FuncData} (F : FunC K "_law_stands_right" sST f fd c) (B : Blt mg) (TB : TabB base mg c P0) (hmT : (P0, lamQ "_law_stands_right" (defScope sST)) ∈ T) (huT : ∀ p ∈ T, p.1 = P0 → p.2 = lamQ "_law_stands_right" (defScope sST))
    (d_law_heard : HeD P w K mg base a fg fdg 6) (d_law_first : Dok P w K mg base 4 "_law_first" ["m", "home"] (spFirst K) fF fdF) (d_law_like : DoG P w K mg base 1 "_law_like" ["heard", "due"] (spLike K) fL fdL)
    (dneed_stand : DoX P w K mg base 6 "need_stand" ["house", "stand"] (spO K (fNSn CH CS)) fN fdN) (RS : HRow K a CS "value" "stand" 2) : FnG P w K mg base CX0 10 f fd ["m", "home"] (spStands K T) := by
  refine fnG_ofC (k := 9) F scST (fun vs H Q E h => by obtain ⟨_, _, _, _, _, _, rfl, _⟩ := h; rfl) (fun A outer s H vs Q E g hr h => ?_)
  obtain ⟨m, cc, gg, r, x, h, rfl, M, ax, ok, TT, k⟩ := h
  have g2 := guards_deeper g (PyProof.Rows.envOfC "_law_stands_right" (defScope sST) s.heap.objs.size f (.ref c))
  refine ⟨_, (pss_cons (ps_set (i := 2) scST.nd rfl (Or.inl rfl) (pe_call d_law_first.G (hr.mono (by decide)) rfl d_law_first.g d_law_first.k d_law_first.b .nil pass0 (pa_cons (pv 0) (pa_cons (pv 1) pa_nil))))
  (pss_cons (ps_set (i := 3) scST.nd rfl (Or.inl rfl) (pe_lst (pa_cons (pe_slice sl_tupA (pv 2) po_none (po_some (pe_un un_neg pe_int))) (pa_cons (pe_op op_catA (pv 2) (pe_tup (pa_cons pe_str pa_nil))) (pa_cons (pe_callTy call_list_of (by rfl) B.list PyProof.Rows.boot_list (pa_cons (pv 2) pa_nil)) (pa_cons (pe_op op_catA (pe_slice sl_tupA (pv 2) po_none (po_some (pe_un un_neg pe_int))) (pe_tup (pa_cons (pe_op op_add_str (pe_ix ix_tup (pv 2) (pe_un un_neg pe_int) (fun _ _ => rfl)) pe_str) pa_nil))) (pa_cons (pe_op op_catA (pe_slice sl_tupA (pv 2) po_none (po_some (pe_un un_neg pe_int))) (pe_tup (pa_cons pe_str pa_nil))) (pa_cons pe_non (pa_cons pe_str pa_nil)))))))))
  (pss_cons (ps_set (i := 3) scST.nd rfl (Or.inl rfl) (pe_op op_cat (pv 3) (pe_lst (pa_cons (pe_op op_catA (pe_slice sl_tupA (pv 2) po_none (po_some (pe_un un_neg pe_int))) (pe_tup (pa_cons (pe_op op_add_str (pe_slice sl_str (pe_ix ix_tup (pv 2) (pe_un un_neg pe_int) (fun _ _ => rfl)) po_none (po_some (pe_un un_neg pe_int))) pe_str) pa_nil))) (pa_cons (pe_op op_catA (pe_slice sl_tupA (pv 2) po_none (po_some (pe_un un_neg pe_int))) (pe_tup (pa_cons (pe_callTy (call_listS rfl) (by rfl) B.list PyProof.Rows.boot_list (pa_cons (pe_ix ix_tup (pv 2) (pe_un un_neg pe_int) (fun _ _ => rfl)) pa_nil)) pa_nil))) (pa_cons (pe_op op_repTA (pe_tup (pa_cons pe_non pa_nil)) (pe_callB call_len_seq (by rfl) B.len PySem.boot_len (pa_cons (pv 2) pa_nil))) pa_nil))))))
  (pss_cons (ps_for PassesOwn.never rfl (pi_list (pv 3)) (pg_name (i := 4) scST.nd rfl (Or.inr rfl))
  (pss_one (ps_if (pt_not (pt_val (pe_callG d_law_like.G g2 (hr.mono (by decide)) rfl d_law_like.g d_law_like.k d_law_like.b pass0 (pa_cons (pe_lc (own := [("k", 5)]) (g := gName 5) (tt := tYes) rfl scST.nd (pi_range1 rfl B.range (pa_cons pe_int pa_nil)) (blkOk_by (N := ["m", "home", "first", "odds", "odd", "k"]) (sc := defScope sST) (by decide +kernel)) (fun _ _ _ _ _ => pg_name (i := 5) scST.nd rfl (Or.inl rfl)) (fun _ _ _ _ _ => pts_nil) (fun _ _ _ _ _ => (pe_lamC (T := T) (l := LW.mk _ _ _ none) d_law_heard.F rfl d_law_heard.gm d_law_heard.b scHE rfl (Or.inl rfl) d_law_heard.G TB rfl hmT huT (hr.mono (by decide)) ⟨rfl, rfl, rfl, by decide +kernel, loc_of (N := ["m", "home", "first", "odds", "odd", "k"]) (by decide +kernel), free_of (sc := PySem.relabel _ (PyProof.Rows.envOfC "" (defScope sST) 0 0 .none)) (by decide +kernel), rfl, by walk_at "df"⟩ (fun A outer s H E f c2 hr => (pe_call dneed_stand.G (hr.mono (by decide)) rfl dneed_stand.g dneed_stand.k dneed_stand.b .nil (passes_call (takes_of rfl rfl rfl rfl) (fun _ _ _ _ z => z)) (pa_cons (pv 1) (pa_cons (pv 4) pa_nil))))))) (pa_cons (pe_op op_rep (pe_lst (pa_cons (pe_tup (pa_cons pe_str (pa_cons (pv 4) pa_nil))) pa_nil)) pe_int) pa_nil))))) (pss_one (ps_ret pe_bl)) pss_nil)))
  (pss_one (ps_ret (pe_callG d_law_like.G g2 (hr.mono (by decide)) rfl d_law_like.g d_law_like.k d_law_like.b pass0 (pa_cons (pe_call dneed_stand.G (hr.mono (by decide)) rfl dneed_stand.g dneed_stand.k dneed_stand.b .nil passN (pa_cons (pv 1) (pa_cons (pv 2) pa_nil))) (pa_cons (pv 2) pa_nil))))))))), ?_⟩
  walk_at "st"
  refine r_call (r_cons (r_v rfl (r_cons (r_v rfl (r_nil ⟨m, cc, gg, r, x, h, rfl, ax.dt, ok, M, fun v H1 s fit av M1 k1 => ?_⟩)))))
  walk_at "st"
  have n3 := ok.n3
  have n1 := ok.n1
  have ls := fits_len fit
  have x1 : Dt K H1 x h.d := (Ap.kp ax k1).dt
  have T1 : Tabs T H1 := Tabs.kp TT M k1
  have hne : s ≠ [] := fun z => by rw [z] at ls; simp at ls; omega
  obtain ⟨s0, l, rfl⟩ : ∃ s0 l, s = s0 ++ [l] := ⟨s.dropLast, s.getLast hne, (List.dropLast_concat_getLast hne).symm⟩
  have eD : standD (s0 ++ [l]) = .tup (iniD s0 ++ [.str (sideS l)]) := by unfold standD iniD; rw [List.map_append]; rfl
  rw [eD] at av
  have ll := fits_mem ok fit (l := l) (by simp)
  rw [List.length_append, List.length_cons, List.length_nil] at ls
  have li : (iniD s0).length = s0.length := by unfold iniD; rw [List.length_map]
  have v2 : ∀ {σ : Sg} {H9 : Hp}, σ[2]? = some (some v) → Same H1 H9 → Mk K (tVar 2) σ H9 (.tup (iniD s0 ++ [.str (sideS l)])) := fun e s9 => mk_var e (av.gr s9)
  have l7 := mk_lst (K := K) (σ := [some (.ref m), some x, some v, none, none, none]) (H := H1) (ds := odds7 s0 l)
    (mka_cons (mk_initT (v2 rfl Gr.rfl'))
    (mka_cons (mk_catA (v2 rfl Gr.rfl') (mk_tup (mka_cons mk_str mka_nil) (show 1 ≤ 100000 by decide)) (by rw [List.length_append, li]; simp only [List.length_cons, List.length_nil]; omega))
    (mka_cons (mk_listT (v2 rfl Gr.rfl'))
    (mka_cons (mk_catA (mk_initT (v2 rfl Gr.rfl')) (mk_tup (mka_cons (mk_addT (mk_lastT (v2 rfl Gr.rfl')) mk_str (by rw [sideS_len, show (Str.ofString "a").length = 1 by decide +kernel]; omega)) mka_nil) (show 1 ≤ 100000 by decide)) (by rw [li]; simp only [List.length_cons, List.length_nil]; omega))
    (mka_cons (mk_catA (mk_initT (v2 rfl Gr.rfl')) (mk_tup (mka_cons mk_str mka_nil) (show 1 ≤ 100000 by decide)) (by rw [li]; simp only [List.length_cons, List.length_nil]; omega))
    (mka_cons mk_non (mka_cons mk_str mka_nil))))))) (show 7 ≤ 100000 by decide)
  refine l7 H1 Gr.rfl' _ fun v7 H2 s2 a7 => ?_
  walk_at "st"
  have l3 := mk_lst (K := K) (σ := [some (.ref m), some x, some v, some v7, none, none]) (H := H2) (ds := odds3 s0 l)
    (mka_cons (mk_catA (mk_initT (v2 rfl s2)) (mk_tup (mka_cons (mk_addT (x := sideS l.dropLast) (by
        have q := mk_slS (mk_lastT (v2 (σ := [some (.ref m), some x, some v, some v7, none, none]) rfl s2)) mo_no (mo_int (K := K) (mk_neg (mk_int (i := 1)))) (by rw [sideS_len]; omega)
        rw [show (-(1 : Int)) = -1 from rfl, cutS_init] at q
        exact q) mk_str (by rw [sideS_len, List.length_dropLast, show (Str.ofString "c").length = 1 by decide +kernel]; omega)) mka_nil) (show 1 ≤ 100000 by decide)) (by rw [li]; simp only [List.length_cons, List.length_nil]; omega))
    (mka_cons (mk_catA (mk_initT (v2 rfl s2)) (mk_tup (mka_cons (mk_listSd (mk_lastT (v2 rfl s2)) (by omega)) mka_nil) (show 1 ≤ 100000 by decide)) (by rw [li]; simp only [List.length_cons, List.length_nil]; omega))
    (mka_cons (mk_repA (n := s0.length + 1) mk_non (by
        have q := mk_lenT (v2 (σ := [some (.ref m), some x, some v, some v7, none, none]) rfl s2)
        rw [List.length_append, li] at q
        exact q) (by omega) (by omega)) mka_nil))) (show 3 ≤ 100000 by decide)
  refine mk_cat (mk_var (n := 3) rfl a7) l3 (show 7 + 3 ≤ 100000 by decide) H2 Gr.rfl' _ fun vO H3 s3 aO => ?_
  walk_at "st"
  have od := odd_all ok fit
  have wok := wrH_ok ok
  have hn : h.d.nx = true := (gd_house ok).nx
  cases aO with
  | @lst p xs _ e aa =>
  have s13 := s2.trans s3
  refine ⟨.ref p, rfl, p, rfl, ⟨xs, SqL.of e⟩, for_list (fun _ σ' H' => (∃ o4 o5 : Option V, σ' = [some (.ref m), some x, some v, some (.ref p), o4, o5]) ∧ ExtN H3 H' ∧ Tabs T H') ⟨⟨_, _, rfl⟩, ExtN.refl H3, Tabs.sm T1 s13⟩ (fun i σ' H' _ z => SqL.of (z.2.1 _ _ e (fun _ z => by cases z))) ?_ ?_⟩
  · rintro i odd σ' H' hi ⟨⟨o4, o5, rfl⟩, eX, TX⟩
    obtain ⟨d, hd, ad⟩ := aa.at hi
    obtain ⟨f1, f2, f3⟩ := od d (List.mem_of_getElem? hd)
    have x3 : Dt K H' x h.d := (x1.gr s13).ext eX
    have d3 : Dt K H' odd d := ad.ext eX
    refine r_name ?_
    walk_at "st"
    refine r_call (r_cons ?_)
    unfold tLc iRng1
    refine r_cons (r_c (r_nil ⟨2, rfl, by omega, by omega, fun L nL => lc_range (lo := 0) (n := 2) (fun i H9 => ExtN H' H9 ∧ Tabs T H9 ∧ ∃ acc, H9 L = some (.lst acc) ∧ acc.length = i ∧ DtA K H9 acc (List.replicate i (D.tup [.str "stand", d])) ∧ ∀ y ∈ acc, ∃ a, y = V.ref a) ⟨ExtN.of (same_new nL), Tabs.sm TX (same_new nL), [], upd_same, rfl, .nil, by simp⟩ ?_ ?_⟩))
    · rintro j H9 hj ⟨eY, TY, acc, eL, lacc, aacc, racc⟩
      refine r_name ⟨rfl, r_yes ?_⟩
      refine r_heard (K := K) (a := a) (o := .exc CS "value" d) (r := D.tup [.str "stand", d]) TY (fun H8 e8 => mka_cons (mk_var (n := 1) rfl (x3.ext (eY.trans e8))) (mka_cons (mk_var (n := 4) rfl (d3.ext (eY.trans e8))) mka_nil)) ⟨h.d, d, rfl, hn, f2.nx, by unfold outNS; rw [wok]; simp only []; rw [f1]; rfl⟩ (.exc RS d) fun y H8 e8 T8 a8 => ?_
      have eL8 := e8 _ _ eL (fun _ z => by cases z)
      refine ⟨acc, eL8, by rw [lacc]; exact sz2 (by omega), ext_mut (eY.trans e8) nL, Tabs.upd' T8 eL8 (fun _ z => by cases z) (fun _ _ z => by unfold CodeO at z; cases z), acc ++ [y], upd_same, by rw [List.length_append, lacc]; rfl, ?_, fun z hz => ?_⟩
      · have all := (aacc.ext e8).app (.cons a8 .nil : DtA K H8 [y] [D.tup [.str "stand", d]])
        have er : List.replicate j (D.tup [.str "stand", d]) ++ [D.tup [.str "stand", d]] = List.replicate (j + 1) (D.tup [.str "stand", d]) := List.replicate_succ'.symm
        rw [er] at all
        refine DtA.ovr eL8 racc all (slA_of fun z hz => ?_)
        rw [(List.mem_replicate.mp hz).2]
        show (true && (d.sl && true)) = true
        rw [f3]
        rfl
      · rcases List.mem_append.mp hz with q | q
        · exact racc z q
        · rw [List.mem_singleton.mp q]
          cases a8
          exact ⟨_, rfl⟩
    · rintro H9 ⟨eY, TY, acc, eL, lacc, aacc, racc⟩
      have m2 := mk_rep (K := K) (σ := [some (.ref m), some x, some v, some (.ref p), some odd, o5]) (H := H9) (mk_lst (mka_cons (mk_tup (mka_cons (mk_str (x := "stand")) (mka_cons (mk_var (n := 4) rfl (d3.ext eY)) mka_nil)) (show 2 ≤ 100000 by decide)) mka_nil) (show 1 ≤ 100000 by decide)) (mk_int (i := 2)) (by decide) (by decide) (show 1 ≤ 100 by decide)
      refine r_cons (m2 H9 Gr.rfl' _ fun u HA sA aA => r_nil ?_)
      refine ⟨_, _, .lst (List.replicate 2 (D.tup [.str "stand", d])), rfl, (Dt.lst eL aacc).gr sA, aA, ?_, ?_⟩
      · refine (gd_lst (n := 0) (w := 2100) (k := 4) (m := 2) (fun z hz => ?_) (by rw [List.length_replicate]; exact Nat.le_refl 2)).rd (by decide) (by decide) (by decide)
        rw [(List.mem_replicate.mp hz).2]
        obtain ⟨g, w, k⟩ := f2
        have g1 : (D.str "stand").gd 0 = true := by decide +kernel
        have w1 : (D.str "stand").wg ≤ 10 := by decide +kernel
        have k1 : (D.str "stand").dg = 0 := rfl
        refine ⟨?_, ?_, ?_⟩
        · rw [D.gd, gdA, gdA, gdA, g, g1]; rfl
        · rw [D.wg, wgA, wgA, wgA]; omega
        · rw [D.dg, dgA, dgA, dgA]; omega
      · refine ⟨true, rfl, iteF ?_⟩
        exact ⟨⟨_, _, rfl⟩, eX.trans (eY.trans (ExtN.of sA)), Tabs.sm TY sA⟩
  · rintro σ' H' ⟨⟨o4, o5, rfl⟩, eX, TX⟩
    walk_at "st"
    have x3 : Dt K H' x h.d := (x1.gr s13).ext eX
    have a3 : Dt K H' v (standD (s0 ++ [l])) := by rw [eD]; exact (av.gr s13).ext eX
    have st := isStd_ok fit
    have gs : Gd 0 2000 3 (standD (s0 ++ [l])) := by
      rw [eD]
      refine (gd_tup (n := 0) (w := 200) (k := 1) (m := 4) (fun z hz => ?_) (by rw [List.length_append, li]; simp only [List.length_cons, List.length_nil]; omega)).up (Nat.le_refl _) (by decide) (by decide)
      rcases List.mem_append.mp hz with q | q
      · exact gd_ini (by omega) (fun y hy => fits_mem ok fit (by simp [hy])) z q
      · rw [List.mem_singleton.mp q]
        exact (gd_str (n := 9) (by rw [sideS_len]; omega) (by decide) cps_side).up (Nat.le_refl _) (by decide) (by decide)
    refine mk_like (K := K) (d := standD (s0 ++ [l])) (mk_callO (f := fNSn CH CS) (mka_cons (mk_var (n := 1) rfl x3) (mka_cons (mk_var (n := 2) rfl a3) mka_nil)) ⟨h.d, standD (s0 ++ [l]), rfl, hn, gs.nx, by unfold outNS; rw [wok]; simp only []; rw [st]; rfl⟩) (mk_var (n := 2) rfl a3) (gs.rd (by decide) (by decide) (by decide)) H' Gr.rfl' _ fun u H9 s9 a9 => ?_
    cases a9
    exact k H9 (((M1.same s13).ext eX).same s9) ((((Kt.kp k1).tr (Kt.ext (ExtN.of s13))).tr (Kt.ext eX)).tr (Kt.ext (ExtN.of s9))) (Tabs.sm TX s9)
end
end TSx

namespace TSx
open PySem L2 LamX
local macro_rules | `(tactic| walk_at "rd") => `(tactic| repeat (first
  | ((with_reducible show tVar _ _ _ _); refine r_v rfl ?_)
  | with_reducible refine r_c ?_
  | with_reducible refine r_op ?_
  | with_reducible refine r_I0 ?_
  | with_reducible refine r_cb ?_
  | with_reducible refine r_nil ?_
  | with_reducible refine r_cons ?_
  | with_reducible refine r_seq ?_
  | with_reducible refine r_next ?_
  | with_reducible refine r_asg ?_
  | with_reducible refine r_name ?_
  | with_reducible refine r_ret ?_
  | with_reducible refine r_drop ?_
  | with_reducible refine r_if ?_
  | with_reducible refine r_test ?_
  | with_reducible refine r_bl ?_
  | with_reducible refine r_call ?_))
local macro_rules | `(tactic| walk_at "st") => `(tactic| repeat (first
  | with_reducible refine r_seq ?_
  | with_reducible refine r_next ?_
  | with_reducible refine r_asg ?_
  | with_reducible refine r_name ?_
  | with_reducible refine r_ret ?_
  | with_reducible refine r_drop ?_
  | with_reducible refine r_if ?_))
local macro_rules | `(tactic| walk_at "mk") => `(tactic| repeat (first
  | with_reducible exact mk_non
  | with_reducible exact mk_int
  | with_reducible exact mk_str
  | with_reducible exact mk_bl
  | with_reducible exact mk_dic
  | with_reducible exact mka_nil
  | with_reducible refine mka_cons ?_ ?_
  | ((with_reducible refine mk_tup ?_ ?hz); (case hz => decide))
  | ((with_reducible refine mk_lst ?_ ?hz); (case hz => decide))
  | with_reducible refine mk_neg ?_))
local macro_rules | `(tactic| walk_at "kb") => `(tactic| repeat (first
  | with_reducible exact kb_non
  | with_reducible exact kb_int
  | with_reducible exact kb_str
  | with_reducible exact kb_bl
  | with_reducible exact kb_dic (by assumption)
  | with_reducible exact kba_nil
  | with_reducible refine kba_cons ?_ ?_
  | ((with_reducible refine kb_tup (by assumption) ?_ ?hz); (case hz => decide))
  | ((with_reducible refine kb_lst (by assumption) ?_ ?hz); (case hz => decide))
  | with_reducible refine kb_neg ?_))
abbrev sHA : Stmt := top 54
theorem scHA : FnScope ["plain", "some", "one"] [] (defScope sHA) := ⟨rfl, rfl, rfl, by decide +kernel, rfl, by decide +kernel, by decide +kernel⟩
abbrev plD : D := (D.tup [(.int 6), (.int 5), (.tup [(.str "kept")])])
abbrev hd1 : List D := [(D.tup [(.tup (List.replicate 9 plD))]), (.tup [(.tup (List.replicate 5 plD)), (.tup (List.replicate 5 plD))]), (.tup [(.tup [plD]), (.tup [plD]), (.tup [plD]), (.tup [plD])]), (.tup [(.tup (List.replicate 10 plD))])]
abbrev hd2 : List D := [(D.tup [(.tup [plD, (.tup [(.int 4), (.int 0), (.tup [(.str "kept")])])])]), (.tup [(.tup [plD, (.tup [(.int 5), (.int 0), (.tup [(.str "kept")])])])])]
abbrev hd3 : List D := [(D.tup [(.tup [(.tup [(.int 5), (.int 0), (.tup [(.str "kept")])]), (.tup [(.int 4), (.int 3), (.tup [(.str "kept")])])])])]
abbrev hd4 : List D := [(D.tup [(.tup [plD, (.tup [(.int 7), (.int 0), (.tup [(.str "kept")])])])]), (.tup [(.tup [plD, (.tup [(.int 1), (.int 0), (.tup [(.str "ward"), (.int 4)])])])]), (.tup [(.tup [plD, (.tup [(.int 1), (.int 0), (.tup [(.str "ward"), (.int 3)])])])]), (.tup [])]
abbrev hd5 : List D := [(D.tup [(.tup [plD, (.tup [(.int 1), (.int 0), (.tup [(.str "rest"), (.int 1), (.str "a")])])])]), (.tup [(.tup [plD, (.tup [(.int 1), (.int 1), (.tup [(.str "kept")])])])]), (.tup [(.tup [plD, (.tup [(.int 1), (.int 0), (.tup [(.str "kept"), (.int 0)])])])])]
abbrev hd6 : List D := [(D.tup [(.tup (List.replicate 5 plD)), (.tup (List.replicate 5 (.tup [(.int 5), (.int 0), (.tup [(.str "kept")])])))])]
theorem lst_inv {K : PySem.W.Frag} {H : Hp} {v : V} {ds : List D} (h : Dt K H v (.lst ds)) : ∃ p xs, v = .ref p ∧ H p = some (.lst xs) ∧ DtA K H xs ds := by
  cases h with
  | @lst p xs _ e aa => exact ⟨p, xs, rfl, e, aa⟩
theorem wo_no {B : Addr → Bool} {H : Hp} {p : Addr} {o : HO} (h : wo B H p = some o) : B p = false := by
  unfold wo at h
  cases e : B p with
  | false => rfl
  | true => rw [if_pos e] at h; cases h
theorem dom_un {H : Hp} {p : Addr} (h : dom H p = false) : H p = none := by
  unfold dom at h
  cases e : H p with
  | none => rfl
  | some o => rw [e] at h; cases h
theorem refs_of {K : PySem.W.Frag} {H : Hp} : ∀ {xs : List V} {ds : List D}, DtA K H xs ds → ds.all isT = true → ∀ y ∈ xs, ∃ a, y = V.ref a
  | _, _, .nil, _ => fun y hy => by cases hy
  | _, _, .cons (d := d) a b, h => fun y hy => by
    simp only [List.all_cons, Bool.and_eq_true] at h
    rcases List.mem_cons.mp hy with rfl | hy
    · cases a <;> first | exact ⟨_, rfl⟩ | (exact absurd h.1 (by simp [isT]))
    · exact refs_of b h.2 y hy
section
variable {K : PySem.W.Frag} {B : Addr → Bool} {σ : Sg} {H : Hp} {te ta tb : TE} {d : D}
theorem r_appB {n : Nat} {p : Addr} {xs : List V} {E : Ends} (hv : σ[n]? = some (some (.ref p))) (hp : H p = some (.lst xs)) (hz : xs.length < 100000) (m : MkB K B te σ H d) (q : ∀ v H1, Same H H1 → Dt K (wo B H1) v d → E.nx σ (upd H1 p (.lst (xs ++ [v])))) :
    tDrop (tBM K "list" rAppend (tVar n) (tCons te tNil)) E σ H := by
  refine ⟨_, hv, Or.inl ⟨rfl, _, SqL.of hp⟩, ?_⟩
  refine m H Gr.rfl' _ fun v H1 s1 a => ?_
  exact ⟨p, xs, v, rfl, rfl, s1 _ _ hp, sz2 hz, q v H1 s1 a⟩
theorem kb_repA {n : Nat} (hB : ∀ b, B b = true → H b ≠ none) (h : MkB K B ta σ H d) (h2 : MkB K B tb σ H (.int (n : Nat))) (n1 : 1 ≤ n) (nz : n ≤ 1000) : MkB K B (tOp (rRepTA K) (tTup (tCons ta tNil)) tb) σ H (.tup (List.replicate n d)) := by
  intro H1 s Q q
  refine (kb_tup hB (kba_cons h kba_nil) (show 1 ≤ 100000 by decide) : MkB K B _ _ H (.tup [d])) H1 s _ fun v H2 s2 a => h2 H2 (s.trans s2) _ fun u H3 s3 b => ?_
  cases b
  have a3 := a.gr (wo_same s3)
  cases a3 with
  | @tup p xs _ el aa =>
    obtain ⟨x, rfl, ax⟩ := aa.one
    refine ⟨p, (n : Int), [x], rfl, rfl, gr_T wo_le el, by simp, by omega, by omega, by simp, fun e => ?_, fun e w nw => ?_⟩
    · have : n = 1 := by omega
      subst this
      exact q _ _ (s2.trans s3) (.tup el (.cons ax .nil))
    · refine q _ _ ((s2.trans s3).trans (same_new nw)) (.tup (SqT.of (by rw [wo_at (apart hB ((s.trans s2).trans s3) nw), upd_same])) ?_)
      have e : (List.replicate (n : Int).toNat [x]).flatten = List.replicate n x := by
        rw [Int.toNat_natCast]
        simp
      rw [e]
      exact (dta_rep ax n).gr (wo_same (same_new nw))
end
def spHand (K : PySem.W.Frag) (T : List (Addr × Str)) : Sp := fun vs H Q _ => vs = [] ∧ Tabs T H ∧ ∀ H', ExtN H H' → Tabs T H' → Q (.bl true) H'
section
variable {P : Program} {w : World} {K : PySem.W.Frag} {mg : Str → Option Value} {base : Heap} {T : List (Addr × Str)}
theorem r_right {σ : Sg} {H : Hp} {Q : Bool → Hp → Prop} {od : V} {d : D} {n : Int} (h : σ[2]? = some (some od)) (a : Dt K H od d) (g1 : Gd 900 20000 20 (.tup [d, .int n])) (g2 : Gd 900 20000 20 (.tup [.int n, .int n])) (TX : Tabs T H) (q : ∀ H2, ExtN H H2 → Tabs T H2 → Q false H2) :
    tNot (tB (tCall (spRight K T) [] E0 (tCons (tTup (tCons (tVar 2) (tCons (tC (.int n)) tNil))) (tCons (tTup (tCons (tC (.int n)) (tCons (tC (.int n)) tNil))) tNil)))) σ H Q := by
  refine r_call ((mka_cons (mk_tup (mka_cons (mk_var h a) (mka_cons mk_int mka_nil)) (show 2 ≤ 100000 by decide)) (mka_cons (mk_tup (mka_cons mk_int (mka_cons mk_int mka_nil)) (show 2 ≤ 100000 by decide)) mka_nil) : MkA K _ σ H [.tup [d, .int n], .tup [.int n, .int n]]) H Gr.rfl' _ fun vs H1 s1 aa => ?_)
  obtain ⟨x, y, rfl, ax, ay⟩ := aa.two
  exact ⟨x, y, _, _, rfl, ax, ay, g1, g2, Tabs.sm TX s1, fun H2 e2 T2 => ⟨true, rfl, q H2 ((ExtN.of s1).trans e2) T2⟩⟩
def okH (n : Int) (d : D) : Bool := (D.tup [d, .int n]).gd 900 && decide ((D.tup [d, .int n]).wg ≤ 20000) && decide ((D.tup [d, .int n]).dg ≤ 20)
theorem okH_gd {n : Int} {d : D} (h : okH n d = true) : Gd 900 20000 20 (.tup [d, .int n]) := by
  unfold okH at h
  simp only [Bool.and_eq_true, decide_eq_true_eq] at h
  exact ⟨h.1.1, h.1.2, h.2⟩
abbrev handD : List D := hd1 ++ hd2 ++ hd3 ++ hd4 ++ hd5 ++ hd6
theorem hand_ok : (handD.all fun d => okH 4 d && okH 5 d) = true := by decide +kernel
theorem four_ok : okH 4 (.int 4) = true ∧ okH 5 (.int 5) = true := by decide +kernel
theorem ok_HA {f fR : Addr} {fd fdR : FuncData} (F : L2.Fun K "_law_hand_right" "_law_hand_right" sHA f fd) (B : Blt mg) (d_law_right : DoG P w K mg base 9 "_law_right" ["home", "limits"] (spRight K T) fR fdR) : FnG P w K mg base CX0 10 f fd [] (spHand K T) := by
  refine fnG_of (k := 9) F scHA (fun vs H Q E h => by obtain ⟨rfl, _⟩ := h; rfl) (fun cdv A outer s H vs Q E g hr h => ?_)
  obtain ⟨rfl, TT, k⟩ := h
  have g2 := guards_deeper g (PyProof.Rows.envOfC "_law_hand_right" (defScope sHA) s.heap.objs.size f cdv)
  refine ⟨_, (pss_cons (ps_set (i := 0) scHA.nd rfl (Or.inl rfl) (pe_tup (pa_cons pe_int (pa_cons pe_int (pa_cons (pe_tup (pa_cons pe_str pa_nil)) pa_nil)))))
  (pss_cons (ps_set (i := 1) scHA.nd rfl (Or.inl rfl) (pe_lst (pa_cons (pe_tup (pa_cons (pe_op op_repTA (pe_tup (pa_cons (pv 0) pa_nil)) pe_int) pa_nil)) (pa_cons (pe_tup (pa_cons (pe_op op_repTA (pe_tup (pa_cons (pv 0) pa_nil)) pe_int) (pa_cons (pe_op op_repTA (pe_tup (pa_cons (pv 0) pa_nil)) pe_int) pa_nil))) (pa_cons (pe_tup (pa_cons (pe_tup (pa_cons (pv 0) pa_nil)) (pa_cons (pe_tup (pa_cons (pv 0) pa_nil)) (pa_cons (pe_tup (pa_cons (pv 0) pa_nil)) (pa_cons (pe_tup (pa_cons (pv 0) pa_nil)) pa_nil))))) (pa_cons (pe_tup (pa_cons (pe_op op_repTA (pe_tup (pa_cons (pv 0) pa_nil)) pe_int) pa_nil)) pa_nil))))))
  (pss_cons (ps_set (i := 1) scHA.nd rfl (Or.inl rfl) (pe_op op_cat (pv 1) (pe_lst (pa_cons (pe_tup (pa_cons (pe_tup (pa_cons (pv 0) (pa_cons (pe_tup (pa_cons pe_int (pa_cons pe_int (pa_cons (pe_tup (pa_cons pe_str pa_nil)) pa_nil)))) pa_nil))) pa_nil)) (pa_cons (pe_tup (pa_cons (pe_tup (pa_cons (pv 0) (pa_cons (pe_tup (pa_cons pe_int (pa_cons pe_int (pa_cons (pe_tup (pa_cons pe_str pa_nil)) pa_nil)))) pa_nil))) pa_nil)) pa_nil)))))
  (pss_cons (ps_expr (pe_bm PySem.F.plainAttrs_list PySem.F.slot_list_append PySem.F.type_list_append mt_append (pv 1) (pa_cons (pe_tup (pa_cons (pe_tup (pa_cons (pe_tup (pa_cons pe_int (pa_cons pe_int (pa_cons (pe_tup (pa_cons pe_str pa_nil)) pa_nil)))) (pa_cons (pe_tup (pa_cons pe_int (pa_cons pe_int (pa_cons (pe_tup (pa_cons pe_str pa_nil)) pa_nil)))) pa_nil))) pa_nil)) pa_nil)))
  (pss_cons (ps_set (i := 1) scHA.nd rfl (Or.inl rfl) (pe_op op_cat (pv 1) (pe_lst (pa_cons (pe_tup (pa_cons (pe_tup (pa_cons (pv 0) (pa_cons (pe_tup (pa_cons pe_int (pa_cons pe_int (pa_cons (pe_tup (pa_cons pe_str pa_nil)) pa_nil)))) pa_nil))) pa_nil)) (pa_cons (pe_tup (pa_cons (pe_tup (pa_cons (pv 0) (pa_cons (pe_tup (pa_cons pe_int (pa_cons pe_int (pa_cons (pe_tup (pa_cons pe_str (pa_cons pe_int pa_nil))) pa_nil)))) pa_nil))) pa_nil)) (pa_cons (pe_tup (pa_cons (pe_tup (pa_cons (pv 0) (pa_cons (pe_tup (pa_cons pe_int (pa_cons pe_int (pa_cons (pe_tup (pa_cons pe_str (pa_cons pe_int pa_nil))) pa_nil)))) pa_nil))) pa_nil)) (pa_cons (pe_tup pa_nil) pa_nil)))))))
  (pss_cons (ps_set (i := 1) scHA.nd rfl (Or.inl rfl) (pe_op op_cat (pv 1) (pe_lst (pa_cons (pe_tup (pa_cons (pe_tup (pa_cons (pv 0) (pa_cons (pe_tup (pa_cons pe_int (pa_cons pe_int (pa_cons (pe_tup (pa_cons pe_str (pa_cons pe_int (pa_cons pe_str pa_nil)))) pa_nil)))) pa_nil))) pa_nil)) (pa_cons (pe_tup (pa_cons (pe_tup (pa_cons (pv 0) (pa_cons (pe_tup (pa_cons pe_int (pa_cons pe_int (pa_cons (pe_tup (pa_cons pe_str pa_nil)) pa_nil)))) pa_nil))) pa_nil)) (pa_cons (pe_tup (pa_cons (pe_tup (pa_cons (pv 0) (pa_cons (pe_tup (pa_cons pe_int (pa_cons pe_int (pa_cons (pe_tup (pa_cons pe_str (pa_cons pe_int pa_nil))) pa_nil)))) pa_nil))) pa_nil)) pa_nil))))))
  (pss_cons (ps_expr (pe_bm PySem.F.plainAttrs_list PySem.F.slot_list_append PySem.F.type_list_append mt_append (pv 1) (pa_cons (pe_tup (pa_cons (pe_op op_repTA (pe_tup (pa_cons (pv 0) pa_nil)) pe_int) (pa_cons (pe_op op_repTA (pe_tup (pa_cons (pe_tup (pa_cons pe_int (pa_cons pe_int (pa_cons (pe_tup (pa_cons pe_str pa_nil)) pa_nil)))) pa_nil)) pe_int) pa_nil))) pa_nil)))
  (pss_one (ps_ret (pe_cmpR (op_eqD hr.units) (pe_lc (own := [("one", 2)]) (g := gName 2) rfl scHA.nd (pi_list (pv 1)) (blkOk_by (N := ["plain", "some", "one"]) (sc := defScope sHA) (by decide +kernel)) (fun _ _ _ _ _ => pg_name (i := 2) scHA.nd rfl (Or.inl rfl)) (fun _ _ _ _ _ => (pts_one (PW.pt (pw_or (pt_not (pt_val (pe_callG d_law_right.G g2 (hr.mono (by decide)) rfl d_law_right.g d_law_right.k d_law_right.b pass0 (pa_cons (pe_tup (pa_cons (pv 2) (pa_cons pe_int pa_nil))) (pa_cons (pe_tup (pa_cons pe_int (pa_cons pe_int pa_nil))) pa_nil))))) (pw_or1 (pt_not (pt_val (pe_callG d_law_right.G g2 (hr.mono (by decide)) rfl d_law_right.g d_law_right.k d_law_right.b pass0 (pa_cons (pe_tup (pa_cons (pv 2) (pa_cons pe_int pa_nil))) (pa_cons (pe_tup (pa_cons pe_int (pa_cons pe_int pa_nil))) pa_nil)))))))))) (fun _ _ _ _ _ => (pv 2))) (pe_lst pa_nil) (nomark _))))))))))), ?_⟩
  walk_at "st"
  have hB0 : ∀ b, dom H b = true → H b ≠ none := fun b e z => by rw [dom_no z] at e; cases e
  refine ((kb_tup hB0 (kba_cons (kb_int (i := 6)) (kba_cons (kb_int (i := 5)) (kba_cons (kb_tup hB0 (kba_cons (kb_str (x := "kept")) kba_nil) (show 1 ≤ 100000 by decide)) kba_nil))) (show 3 ≤ 100000 by decide)) : MkB K (dom H) _ _ H plD) H Gr.rfl' _ fun v H1 s1 ap1 => ?_
  walk_at "st"
  have hB1 : ∀ b, dom H b = true → H1 b ≠ none := fun b e z => hB0 b e (gr_none s1 z)
  refine ((kb_lst hB1 (kba_cons (kb_tup hB1 (kba_cons (kb_repA (n := 9) hB1 (kb_var (n := 0) rfl ap1) (kb_int (i := 9)) (by decide) (by decide)) kba_nil) (show 1 ≤ 100000 by decide)) (kba_cons (kb_tup hB1 (kba_cons (kb_repA (n := 5) hB1 (kb_var (n := 0) rfl ap1) (kb_int (i := 5)) (by decide) (by decide)) (kba_cons (kb_repA (n := 5) hB1 (kb_var (n := 0) rfl ap1) (kb_int (i := 5)) (by decide) (by decide)) kba_nil)) (show 2 ≤ 100000 by decide)) (kba_cons (kb_tup hB1 (kba_cons (kb_tup hB1 (kba_cons (kb_var (n := 0) rfl ap1) kba_nil) (show 1 ≤ 100000 by decide)) (kba_cons (kb_tup hB1 (kba_cons (kb_var (n := 0) rfl ap1) kba_nil) (show 1 ≤ 100000 by decide)) (kba_cons (kb_tup hB1 (kba_cons (kb_var (n := 0) rfl ap1) kba_nil) (show 1 ≤ 100000 by decide)) (kba_cons (kb_tup hB1 (kba_cons (kb_var (n := 0) rfl ap1) kba_nil) (show 1 ≤ 100000 by decide)) kba_nil)))) (show 4 ≤ 100000 by decide)) (kba_cons (kb_tup hB1 (kba_cons (kb_repA (n := 10) hB1 (kb_var (n := 0) rfl ap1) (kb_int (i := 10)) (by decide) (by decide)) kba_nil) (show 1 ≤ 100000 by decide)) kba_nil)))) (show 4 ≤ 100000 by decide)) : MkB K (dom H) _ _ H1 (.lst hd1)) H1 Gr.rfl' _ fun vL2 H2 t2 aL2 => ?_
  walk_at "st"
  have ap2 : Dt K (wo (dom H) H2) v plD := ap1.gr (wo_same t2)
  have s2 := s1.trans t2
  have hB2 : ∀ b, dom H b = true → H2 b ≠ none := fun b e z => hB0 b e (gr_none s2 z)
  refine (kb_cat hB2 (kb_var (n := 1) rfl aL2) ((kb_lst hB2 (kba_cons (kb_tup hB2 (kba_cons (kb_tup hB2 (kba_cons (kb_var (n := 0) rfl ap2) (kba_cons (kb_tup hB2 (kba_cons (kb_int (i := 4)) (kba_cons (kb_int (i := 0)) (kba_cons (kb_tup hB2 (kba_cons (kb_str (x := "kept")) kba_nil) (show 1 ≤ 100000 by decide)) kba_nil))) (show 3 ≤ 100000 by decide)) kba_nil)) (show 2 ≤ 100000 by decide)) kba_nil) (show 1 ≤ 100000 by decide)) (kba_cons (kb_tup hB2 (kba_cons (kb_tup hB2 (kba_cons (kb_var (n := 0) rfl ap2) (kba_cons (kb_tup hB2 (kba_cons (kb_int (i := 5)) (kba_cons (kb_int (i := 0)) (kba_cons (kb_tup hB2 (kba_cons (kb_str (x := "kept")) kba_nil) (show 1 ≤ 100000 by decide)) kba_nil))) (show 3 ≤ 100000 by decide)) kba_nil)) (show 2 ≤ 100000 by decide)) kba_nil) (show 1 ≤ 100000 by decide)) kba_nil)) (show 2 ≤ 100000 by decide)) : MkB K (dom H) _ _ H2 (.lst hd2)) (by decide)) H2 Gr.rfl' _ fun vL3 H3 t3 aL3 => ?_
  walk_at "st"
  have ap3 : Dt K (wo (dom H) H3) v plD := ap2.gr (wo_same t3)
  have s3 := s2.trans t3
  have hB3 : ∀ b, dom H b = true → H3 b ≠ none := fun b e z => hB0 b e (gr_none s3 z)
  obtain ⟨p3, xs3, rfl, e3, aa3⟩ := lst_inv aL3
  have B3 : dom H p3 = false := wo_no e3
  have rf3 := refs_of aa3 (by decide +kernel)
  refine r_appB (K := K) (n := 1) (p := p3) (xs := xs3) rfl (wo_le _ _ e3) (by rw [aa3.len]; decide) (d := (D.tup [(.tup [(.tup [(.int 5), (.int 0), (.tup [(.str "kept")])]), (.tup [(.int 4), (.int 3), (.tup [(.str "kept")])])])])) (kb_tup hB3 (kba_cons (kb_tup hB3 (kba_cons (kb_tup hB3 (kba_cons (kb_int (i := 5)) (kba_cons (kb_int (i := 0)) (kba_cons (kb_tup hB3 (kba_cons (kb_str (x := "kept")) kba_nil) (show 1 ≤ 100000 by decide)) kba_nil))) (show 3 ≤ 100000 by decide)) (kba_cons (kb_tup hB3 (kba_cons (kb_int (i := 4)) (kba_cons (kb_int (i := 3)) (kba_cons (kb_tup hB3 (kba_cons (kb_str (x := "kept")) kba_nil) (show 1 ≤ 100000 by decide)) kba_nil))) (show 3 ≤ 100000 by decide)) kba_nil)) (show 2 ≤ 100000 by decide)) kba_nil) (show 1 ≤ 100000 by decide)) fun u3 G3 t4 au3 => ?_
  walk_at "st"
  have f3 := wo_same (B := dom H) t4 _ _ e3
  have ap4 : Dt K (wo (dom H) (upd G3 p3 (.lst (xs3 ++ [u3])))) v plD := by rw [wo_updN B3]; exact Dt.ovr f3 rf3 (ap3.gr (wo_same t4)) (by decide +kernel)
  have aL4 : Dt K (wo (dom H) (upd G3 p3 (.lst (xs3 ++ [u3])))) (.ref p3) (.lst (hd1 ++ hd2 ++ hd3)) := by rw [wo_updN B3]; exact .lst upd_same (DtA.ovr f3 rf3 ((aa3.gr (wo_same t4)).app (.cons au3 .nil)) (by decide +kernel))
  have s4 : Same H (upd G3 p3 (.lst (xs3 ++ [u3]))) := same_mut (s3.trans t4) (dom_un B3)
  generalize upd G3 p3 (.lst (xs3 ++ [u3])) = H4 at ap4 aL4 s4 ⊢
  have hB4 : ∀ b, dom H b = true → H4 b ≠ none := fun b e z => hB0 b e (gr_none s4 z)
  refine (kb_cat hB4 (kb_var (n := 1) rfl aL4) ((kb_lst hB4 (kba_cons (kb_tup hB4 (kba_cons (kb_tup hB4 (kba_cons (kb_var (n := 0) rfl ap4) (kba_cons (kb_tup hB4 (kba_cons (kb_int (i := 7)) (kba_cons (kb_int (i := 0)) (kba_cons (kb_tup hB4 (kba_cons (kb_str (x := "kept")) kba_nil) (show 1 ≤ 100000 by decide)) kba_nil))) (show 3 ≤ 100000 by decide)) kba_nil)) (show 2 ≤ 100000 by decide)) kba_nil) (show 1 ≤ 100000 by decide)) (kba_cons (kb_tup hB4 (kba_cons (kb_tup hB4 (kba_cons (kb_var (n := 0) rfl ap4) (kba_cons (kb_tup hB4 (kba_cons (kb_int (i := 1)) (kba_cons (kb_int (i := 0)) (kba_cons (kb_tup hB4 (kba_cons (kb_str (x := "ward")) (kba_cons (kb_int (i := 4)) kba_nil)) (show 2 ≤ 100000 by decide)) kba_nil))) (show 3 ≤ 100000 by decide)) kba_nil)) (show 2 ≤ 100000 by decide)) kba_nil) (show 1 ≤ 100000 by decide)) (kba_cons (kb_tup hB4 (kba_cons (kb_tup hB4 (kba_cons (kb_var (n := 0) rfl ap4) (kba_cons (kb_tup hB4 (kba_cons (kb_int (i := 1)) (kba_cons (kb_int (i := 0)) (kba_cons (kb_tup hB4 (kba_cons (kb_str (x := "ward")) (kba_cons (kb_int (i := 3)) kba_nil)) (show 2 ≤ 100000 by decide)) kba_nil))) (show 3 ≤ 100000 by decide)) kba_nil)) (show 2 ≤ 100000 by decide)) kba_nil) (show 1 ≤ 100000 by decide)) (kba_cons (kb_tup hB4 kba_nil (show 0 ≤ 100000 by decide)) kba_nil)))) (show 4 ≤ 100000 by decide)) : MkB K (dom H) _ _ H4 (.lst hd4)) (by decide)) H4 Gr.rfl' _ fun vL5 H5 t5 aL5 => ?_
  walk_at "st"
  have ap5 : Dt K (wo (dom H) H5) v plD := ap4.gr (wo_same t5)
  have s5 := s4.trans t5
  have hB5 : ∀ b, dom H b = true → H5 b ≠ none := fun b e z => hB0 b e (gr_none s5 z)
  refine (kb_cat hB5 (kb_var (n := 1) rfl aL5) ((kb_lst hB5 (kba_cons (kb_tup hB5 (kba_cons (kb_tup hB5 (kba_cons (kb_var (n := 0) rfl ap5) (kba_cons (kb_tup hB5 (kba_cons (kb_int (i := 1)) (kba_cons (kb_int (i := 0)) (kba_cons (kb_tup hB5 (kba_cons (kb_str (x := "rest")) (kba_cons (kb_int (i := 1)) (kba_cons (kb_str (x := "a")) kba_nil))) (show 3 ≤ 100000 by decide)) kba_nil))) (show 3 ≤ 100000 by decide)) kba_nil)) (show 2 ≤ 100000 by decide)) kba_nil) (show 1 ≤ 100000 by decide)) (kba_cons (kb_tup hB5 (kba_cons (kb_tup hB5 (kba_cons (kb_var (n := 0) rfl ap5) (kba_cons (kb_tup hB5 (kba_cons (kb_int (i := 1)) (kba_cons (kb_int (i := 1)) (kba_cons (kb_tup hB5 (kba_cons (kb_str (x := "kept")) kba_nil) (show 1 ≤ 100000 by decide)) kba_nil))) (show 3 ≤ 100000 by decide)) kba_nil)) (show 2 ≤ 100000 by decide)) kba_nil) (show 1 ≤ 100000 by decide)) (kba_cons (kb_tup hB5 (kba_cons (kb_tup hB5 (kba_cons (kb_var (n := 0) rfl ap5) (kba_cons (kb_tup hB5 (kba_cons (kb_int (i := 1)) (kba_cons (kb_int (i := 0)) (kba_cons (kb_tup hB5 (kba_cons (kb_str (x := "kept")) (kba_cons (kb_int (i := 0)) kba_nil)) (show 2 ≤ 100000 by decide)) kba_nil))) (show 3 ≤ 100000 by decide)) kba_nil)) (show 2 ≤ 100000 by decide)) kba_nil) (show 1 ≤ 100000 by decide)) kba_nil))) (show 3 ≤ 100000 by decide)) : MkB K (dom H) _ _ H5 (.lst hd5)) (by decide)) H5 Gr.rfl' _ fun vL6 H6 t6 aL6 => ?_
  walk_at "st"
  have ap6 : Dt K (wo (dom H) H6) v plD := ap5.gr (wo_same t6)
  have s6 := s5.trans t6
  have hB6 : ∀ b, dom H b = true → H6 b ≠ none := fun b e z => hB0 b e (gr_none s6 z)
  obtain ⟨p6, xs6, rfl, e6, aa6⟩ := lst_inv aL6
  have B6 : dom H p6 = false := wo_no e6
  have rf6 := refs_of aa6 (by decide +kernel)
  refine r_appB (K := K) (n := 1) (p := p6) (xs := xs6) rfl (wo_le _ _ e6) (by rw [aa6.len]; decide) (d := (D.tup [(.tup (List.replicate 5 plD)), (.tup (List.replicate 5 (.tup [(.int 5), (.int 0), (.tup [(.str "kept")])])))])) (kb_tup hB6 (kba_cons (kb_repA (n := 5) hB6 (kb_var (n := 0) rfl ap6) (kb_int (i := 5)) (by decide) (by decide)) (kba_cons (kb_repA (n := 5) hB6 (kb_tup hB6 (kba_cons (kb_int (i := 5)) (kba_cons (kb_int (i := 0)) (kba_cons (kb_tup hB6 (kba_cons (kb_str (x := "kept")) kba_nil) (show 1 ≤ 100000 by decide)) kba_nil))) (show 3 ≤ 100000 by decide)) (kb_int (i := 5)) (by decide) (by decide)) kba_nil)) (show 2 ≤ 100000 by decide)) fun u6 G6 t7 au6 => ?_
  walk_at "st"
  have f6 := wo_same (B := dom H) t7 _ _ e6
  have ap7 : Dt K (wo (dom H) (upd G6 p6 (.lst (xs6 ++ [u6])))) v plD := by rw [wo_updN B6]; exact Dt.ovr f6 rf6 (ap6.gr (wo_same t7)) (by decide +kernel)
  have aL7 : Dt K (wo (dom H) (upd G6 p6 (.lst (xs6 ++ [u6])))) (.ref p6) (.lst (hd1 ++ hd2 ++ hd3 ++ hd4 ++ hd5 ++ hd6)) := by rw [wo_updN B6]; exact .lst upd_same (DtA.ovr f6 rf6 ((aa6.gr (wo_same t7)).app (.cons au6 .nil)) (by decide +kernel))
  have s7 : Same H (upd G6 p6 (.lst (xs6 ++ [u6]))) := same_mut (s6.trans t7) (dom_un B6)
  generalize upd G6 p6 (.lst (xs6 ++ [u6])) = H7 at ap7 aL7 s7 ⊢
  have hB7 : ∀ b, dom H b = true → H7 b ≠ none := fun b e z => hB0 b e (gr_none s7 z)
  obtain ⟨p7, xs7, e0, e7, aa7⟩ := lst_inv (aL7.gr wo_le)
  cases e0
  have T7 : Tabs T H7 := Tabs.sm TT s7
  refine r_op ?_
  unfold tLc iList
  refine ⟨.ref p6, rfl, p6, rfl, ⟨xs7, SqL.of e7⟩, fun L nL => lc_it (walk_list (K := K) (a := p6) (xs := xs7)) (fun _ H' => ExtN H7 H' ∧ Tabs T H' ∧ H' L = some (.lst [])) ⟨ExtN.of (same_new nL), Tabs.sm T7 (same_new nL), upd_same⟩ (fun i H' _ z => SqL.of (z.1 _ _ e7 (fun _ z => by cases z))) ?_ ?_⟩
  · rintro j od H' H'' hj ⟨eX, TX, eL⟩ ⟨rfl, hx⟩
    obtain ⟨d, hd, ad⟩ := aa7.at hx
    have dm := List.all_eq_true.mp hand_ok d (List.mem_of_getElem? hd)
    rw [Bool.and_eq_true] at dm
    refine r_name ⟨rfl, ?_⟩
    unfold tOr
    refine r_right (σ := (wipe [some v, some (.ref p6), none] [2]).set 2 (some od)) (od := od) (d := d) rfl (ad.ext eX) (okH_gd dm.1) (okH_gd four_ok.1) TX fun H8 e8 T8 => ?_
    refine iteF ?_
    refine r_right (σ := (wipe [some v, some (.ref p6), none] [2]).set 2 (some od)) (od := od) (d := d) rfl ((ad.ext eX).ext e8) (okH_gd dm.2) (okH_gd four_ok.2) T8 fun H9 e9 T9 => ?_
    exact iteF ⟨eX.trans (e8.trans e9), T9, e9 _ _ (e8 _ _ eL (fun _ z => by cases z)) (fun _ z => by cases z)⟩
  · rintro H' ⟨eX, TX, eL⟩
    refine r_lst (r_nil ⟨sz1 (show 0 ≤ 100000 by decide), fun p9 n9 => ?_⟩)
    have s9 : Same H' (upd H' p9 (.lst [])) := same_new n9
    refine r_eqD (d := .lst []) (e := .lst []) (.lst (s9 _ _ eL) .nil) (.lst upd_same .nil) rfl rfl (by simp [D.py, pyA, PyData.depth, PyData.depthAll]) (by simp [D.py, pyA, PyData.depth, PyData.depthAll]) ?_
    rw [show PyData.eqv (D.lst []).py (D.lst []).py = true from rfl]
    exact k _ ((ExtN.of s7).trans (eX.trans (ExtN.of s9))) (Tabs.sm TX s9)
end
end TSx

namespace TSx
open PySem L2
local macro_rules | `(tactic| walk_at "rd") => `(tactic| repeat (first
  | ((with_reducible show tVar _ _ _ _); refine r_v rfl ?_)
  | with_reducible refine r_c ?_
  | with_reducible refine r_op ?_
  | with_reducible refine r_I0 ?_
  | with_reducible refine r_cb ?_
  | with_reducible refine r_nil ?_
  | with_reducible refine r_cons ?_
  | with_reducible refine r_seq ?_
  | with_reducible refine r_next ?_
  | with_reducible refine r_asg ?_
  | with_reducible refine r_name ?_
  | with_reducible refine r_ret ?_
  | with_reducible refine r_drop ?_
  | with_reducible refine r_if ?_
  | with_reducible refine r_test ?_
  | with_reducible refine r_bl ?_
  | with_reducible refine r_call ?_))
local macro_rules | `(tactic| walk_at "st") => `(tactic| repeat (first
  | with_reducible refine r_seq ?_
  | with_reducible refine r_next ?_
  | with_reducible refine r_asg ?_
  | with_reducible refine r_name ?_
  | with_reducible refine r_ret ?_
  | with_reducible refine r_drop ?_
  | with_reducible refine r_if ?_))
local macro_rules | `(tactic| walk_at "mk") => `(tactic| repeat (first
  | with_reducible exact mk_non
  | with_reducible exact mk_int
  | with_reducible exact mk_str
  | with_reducible exact mk_bl
  | with_reducible exact mk_dic
  | with_reducible exact mka_nil
  | with_reducible refine mka_cons ?_ ?_
  | ((with_reducible refine mk_tup ?_ ?hz); (case hz => decide))
  | ((with_reducible refine mk_lst ?_ ?hz); (case hz => decide))
  | with_reducible refine mk_neg ?_))
local macro_rules | `(tactic| walk_at "kb") => `(tactic| repeat (first
  | with_reducible exact kb_non
  | with_reducible exact kb_int
  | with_reducible exact kb_str
  | with_reducible exact kb_bl
  | with_reducible exact kb_dic (by assumption)
  | with_reducible exact kba_nil
  | with_reducible refine kba_cons ?_ ?_
  | ((with_reducible refine kb_tup (by assumption) ?_ ?hz); (case hz => decide))
  | ((with_reducible refine kb_lst (by assumption) ?_ ?hz); (case hz => decide))
  | with_reducible refine kb_neg ?_))
abbrev sBE : Stmt := top 47
theorem scBE : FnScope ["m", "thing", "some", "at", "pick"] ["m", "thing", "some"] (defScope sBE) := ⟨rfl, rfl, rfl, by decide +kernel, rfl, by decide +kernel, by decide +kernel⟩
/-- something otherwise, at any depth up to j -/
def spBent (K : PySem.W.Frag) (j : Nat) : Sp := fun vs H Q _ => ∃ (m c g : Addr) (r n W : Nat) (x y : V) (d : D) (os : List D), vs = [.ref m, x, y] ∧ MAt m c g H (r + 4 * (j + 1)) ∧ Ap K m g H x d ∧ Ap K m g H y (.lst os) ∧ (∀ o ∈ os, Gd 0 700 2 o) ∧ 0 < os.length ∧ os.length ≤ 1000 ∧
  Gd n W j d ∧ W ≤ 50000 ∧ n ≤ 900 ∧ ∀ v H' d', Gd (n + 6) (2 * W + 702) (j + 2) d' → Ap K m g H' v d' → MAt m c g H' r → Kp m g H H' → Q v H'
def spBt (K : PySem.W.Frag) : Nat → Sp
  | 0 => fun _ _ _ _ => False
  | j + 1 => spBent K j
theorem cut_to {ds : List D} {a : Nat} (h : a ≤ ds.length) : cutD ds none (some (a : Int)) = ds.take a := by
  have e : HT.sIx ds.length ds.length (some (a : Int)) = a := by
    unfold HT.sIx
    simp only []
    first | (rw [if_neg (by omega)]; omega) | (simp; omega)
  unfold cutD
  rw [e]
  rfl
theorem cut_from {ds : List D} {a : Nat} (h : a ≤ ds.length) : cutD ds (some (a : Int)) none = ds.drop a := by
  have e : HT.sIx ds.length 0 (some (a : Int)) = a := by
    unfold HT.sIx
    simp only []
    first | (rw [if_neg (by omega)]; omega) | (simp; omega)
  unfold cutD
  rw [e]
  show (ds.drop a).take (ds.length - a) = _
  rw [List.take_of_length_le (by rw [List.length_drop]; omega)]
theorem wg_split {ds : List D} {a : Nat} {x : D} (h : ds[a]? = some x) : wgA ds = wgA (ds.take a) + (x.wg + 1) + wgA (ds.drop (a + 1)) := by
  obtain ⟨l, rfl⟩ := List.getElem?_eq_some_iff.mp h
  have e : ds = ds.take a ++ (ds[a] :: ds.drop (a + 1)) := by
    conv => lhs; rw [← List.take_append_drop a ds]
    rw [List.drop_eq_getElem_cons l]
  conv => lhs; rw [e]
  rw [wgA_app]
  simp only [wgA]
  omega
section
variable {P : Program} {w : World} {K : PySem.W.Frag} {mg : Str → Option Value} {base : Heap} {σ : Sg} {H : Hp} {tt uu : TT} {Q : Bool → Hp → Prop}
theorem un2 {r : R2} {a b : V} {H : Hp} {Q : V → Hp → Prop} (h : tOp r (tVar 0) (tVar 1) [some a, some b] H Q) : r a b H Q := by
  obtain ⟨x, e, y, e2, h⟩ := h
  have e' : some (some a) = some (some x) := e
  have e2' : some (some b) = some (some y) := e2
  cases e'; cases e2'; exact h
theorem r_andT (h : MkT tt σ H true) (q : ∀ H1, Same H H1 → uu σ H1 Q) : tAnd tt uu σ H Q := h H Gr.rfl' _ fun H2 s2 => q H2 s2
theorem r_andF (h : MkT tt σ H false) (q : ∀ H1, Same H H1 → Q false H1) : tAnd tt uu σ H Q := h H Gr.rfl' _ fun H2 s2 => q H2 s2
theorem r_orT (h : MkT tt σ H true) (q : ∀ H1, Same H H1 → Q true H1) : tOr tt uu σ H Q := h H Gr.rfl' _ fun H2 s2 => q H2 s2
theorem r_orF (h : MkT tt σ H false) (q : ∀ H1, Same H H1 → uu σ H1 Q) : tOr tt uu σ H Q := h H Gr.rfl' _ fun H2 s2 => q H2 s2
theorem ok_BE {f fD fO : Addr} {fd fdD fdO : FuncData} (F : L2.Fun K "_law_bent" "_law_bent" sBE f fd) (B : Blt mg) (Z : Blt2 mg) (gB : mg "_law_bent" = some (.ref f)) (kB : PySem.W.keepIn K (.ref f) = true) (bB : Binds K fd ["m", "thing", "some"] [])
    (d_law_draw : Dok P w K mg base 2 "_law_draw" ["m", "limit"] spDraw fD fdD) (d_law_of : Dok P w K mg base 3 "_law_of" ["m", "some"] (spOfG K) fO fdO) : ∀ t, FnOk P w K mg base CX0 (3 + t) f fd ["m", "thing", "some"] (spBt K t)
  | 0 => ⟨fun _ _ _ _ h => h.elim, fun _ _ _ _ _ _ _ _ _ _ _ _ _ h => h.elim⟩
  | j + 1 => by
      have d_law_bent : Dok P w K mg base (3 + j) "_law_bent" ["m", "thing", "some"] (spBt K j) f fd := ⟨ok_BE F B Z gB kB bB d_law_draw d_law_of j, gB, kB, bB⟩
      refine F.ok (k := 3 + j) scBE (fun vs H Q E h => by obtain ⟨_, _, _, _, _, _, _, _, _, _, rfl, _⟩ := h; rfl) (fun cdv A outer s H vs Q E hr h => ?_)
      obtain ⟨m, c, g, r, n, W, x, y, d, os, rfl, M, ax, ay, go, o0, o1, gd, hW, hn, k⟩ := h
      refine ⟨_, (pss_cons (ps_if (PW.pt (pw_and (pt_val (pe_callB call_isi (by rfl) B.isinstance PyProof.Rows.boot_isinstance (pa_cons (pv 1) (pa_cons (pe_bltn (v := .ty "int") (by rfl) Z.int (by decide +kernel) rfl) pa_nil)))) (pw_and (pt_not (pt_val (pe_callB call_isi (by rfl) B.isinstance PyProof.Rows.boot_isinstance (pa_cons (pv 1) (pa_cons (pe_bltn (v := .ty "bool") (by rfl) Z.bool (by decide +kernel) rfl) pa_nil))))) (pw_and1 (pt_cmpR op_gt (pe_call d_law_draw.G (hr.mono (by omega)) rfl d_law_draw.g d_law_draw.k d_law_draw.b .nil pass0 (pa_cons (pv 0) (pa_cons pe_int pa_nil))) pe_int (nomark _)))))) (pss_one (ps_ret (pe_op op_add (pv 1) (pe_ix ix_list (pe_lst (pa_cons pe_int (pa_cons (pe_un un_neg pe_int) (pa_cons pe_int (pa_cons pe_int (pa_cons (pe_un un_neg pe_int) pa_nil)))))) (pe_call d_law_draw.G (hr.mono (by omega)) rfl d_law_draw.g d_law_draw.k d_law_draw.b .nil pass0 (pa_cons (pv 0) (pa_cons pe_int pa_nil))) (fun _ _ => rfl))))) pss_nil)
  (pss_cons (ps_if (PW.pt (pw_or (pt_not (pt_val (pe_callB call_isi (by rfl) B.isinstance PyProof.Rows.boot_isinstance (pa_cons (pv 1) (pa_cons (pe_bltn (v := .ty "tuple") (by rfl) Z.tuple (by decide +kernel) rfl) pa_nil))))) (pw_or (pt_cmpR (op_eqE (Nat.lt_of_le_of_lt (Nat.le_add_right _ 64) hr.units)) (pv 1) (pe_tup pa_nil) (nomark _)) (pw_or1 (pt_cmpR op_eq (pe_call d_law_draw.G (hr.mono (by omega)) rfl d_law_draw.g d_law_draw.k d_law_draw.b .nil pass0 (pa_cons (pv 0) (pa_cons pe_int pa_nil))) pe_int (nomark _)))))) (pss_one (ps_ret (pe_call d_law_of.G (hr.mono (by omega)) rfl d_law_of.g d_law_of.k d_law_of.b .nil pass0 (pa_cons (pv 0) (pa_cons (pv 2) pa_nil))))) pss_nil)
  (pss_cons (ps_par (i := 3) (j := 4) (by rfl) scBE.nd rfl rfl (by decide) rfl rfl (pa_cons (pe_call d_law_draw.G (hr.mono (by omega)) rfl d_law_draw.g d_law_draw.k d_law_draw.b .nil pass0 (pa_cons (pv 0) (pa_cons (pe_callB call_len_seq (by rfl) B.len PySem.boot_len (pa_cons (pv 1) pa_nil)) pa_nil))) (pa_cons (pe_call d_law_draw.G (hr.mono (by omega)) rfl d_law_draw.g d_law_draw.k d_law_draw.b .nil pass0 (pa_cons (pv 0) (pa_cons pe_int pa_nil))) pa_nil)) (by rfl))
  (pss_cons (ps_if (pt_cmpR op_eq (pv 4) pe_int (nomark _)) (pss_one (ps_ret (pe_op op_catA (pe_slice sl_tupA (pv 1) po_none (po_some (pv 3))) (pe_slice sl_tupA (pv 1) (po_some (pe_op op_add (pv 3) pe_int)) po_none)))) pss_nil)
  (pss_cons (ps_if (pt_cmpR op_eq (pv 4) pe_int (nomark _)) (pss_one (ps_ret (pe_op op_catA (pe_op op_catA (pe_slice sl_tupA (pv 1) po_none (po_some (pv 3))) (pe_tup (pa_cons (pe_ix ix_tup (pv 1) (pv 3) (fun _ _ => rfl)) pa_nil))) (pe_slice sl_tupA (pv 1) (po_some (pv 3)) po_none)))) pss_nil)
  (pss_cons (ps_if (pt_cmpR op_eq (pv 4) pe_int (nomark _)) (pss_one (ps_ret (pe_callTy call_list_of (by rfl) B.list PyProof.Rows.boot_list (pa_cons (pv 1) pa_nil)))) pss_nil)
  (pss_cons (ps_if (pt_cmpR op_eq (pv 4) pe_int (nomark _)) (pss_one (ps_ret (pe_back (pv 1)))) pss_nil)
  (pss_one (ps_ret (pe_op op_catA (pe_op op_catA (pe_slice sl_tupA (pv 1) po_none (po_some (pv 3))) (pe_tup (pa_cons (pe_call d_law_bent.G (hr.mono (by omega)) rfl d_law_bent.g d_law_bent.k d_law_bent.b .nil pass0 (pa_cons (pv 0) (pa_cons (pe_ix ix_tup (pv 1) (pv 3) (fun _ _ => rfl)) (pa_cons (pv 2) pa_nil)))) pa_nil))) (pe_slice sl_tupA (pv 1) (po_some (pe_op op_add (pv 3) pe_int)) po_none))))))))))), ?_⟩
      -- one of the odds
      have odd : ∀ {σ : Sg} {H1 : Hp} {q : Nat}, σ[0]? = some (some (.ref m)) → σ[2]? = some (some y) → r ≤ q → MAt m c g H1 (q + 1) → Kp m g H H1 → tCall (spOfG K) [] E0 (tCons (tVar 0) (tCons (tVar 2) tNil)) σ H1 Q := fun {σ H1 q} h0 h2 hq M1 k1 => by
        refine r_call (r_cons (r_v h0 (r_cons (r_v h2 (r_nil ?_)))))
        exact ⟨m, c, g, q, y, os, rfl, M1, Ap.kp ay k1, o0, o1, fun v H2 o ho a M2 k2 => k v H2 o ((go o ho).up (by omega) (by omega) (by omega)) a (M2.less hq) (k1.tr k2)⟩
      have nx := gd.nx
      have a0 := ax.dt
      walk_at "st"
      -- the second look, where the first one let it by
      have second : ∀ {H1 : Hp}, MAt m c g H1 (r + 4 * j + 3) → Kp m g H H1 → isT d = false → ∀ {u : TS} {uu : TT}, tIfS (tOr (tNot (tTest (tCB (rIsi K) (tCons (tVar 1) (tCons (tC (.ty "tuple")) tNil))))) uu) (tRet (tCall (spOfG K) [] E0 (tCons (tVar 0) (tCons (tVar 2) tNil)))) tNext
          { nx := u { nx := fun _ H' => Q .non H', rt := Q }, rt := Q } ([some (.ref m), some x, some y, none, none] : Sg) H1 := fun {H1} M1 k1 it {u uu} => by
        walk_at "st"
        have t := mt_not (mt_test (mk_isT (K := K) (σ := ([some (.ref m), some x, some y, none, none] : Sg)) (mk_var (n := 1) rfl (Ap.dt (Ap.kp ax k1))) nx))
        rw [it] at t
        refine r_orT t fun H2 s2 => iteT ?_
        walk_at "st"
        exact odd (q := r + 4 * j + 2) rfl rfl (by omega) (M1.same s2) (k1.tr (Kp.of s2))
      cases d with
      | int i =>
        refine r_andT (mt_test (mk_isI (mk_var rfl a0) nx)) fun H1 s1 => ?_
        refine r_andT (mt_not (mt_test (mk_isB (mk_var rfl (a0.gr s1)) nx))) fun H2 s2 => ?_
        have M2 := M.same (s1.trans s2)
        walk_at "rd"
        refine ⟨m, c, g, r + 4 * j + 3, 3, rfl, by decide, by decide, M2.less (by omega), fun v3 H3 p0 p1 M3 k3 => ?_⟩
        walk_at "rd"
        have kA : Kp m g H H3 := (Kp.of (s1.trans s2)).tr k3
        by_cases c3 : v3 > 0
        · rw [decide_eq_true c3]
          refine iteT ?_
          walk_at "st"
          have vx : x = .int i := by cases a0; rfl
          subst vx
          refine r_op (r_v rfl ?_)
          have dB := m_there M3
          refine r_pickD (K := K) (r := r + 4 * j + 2) (ds := [.int 1, .int (-1), .int 2, .int 6, .int (-6)]) rfl M3 (by walk_at "kb") (by decide) (by decide) rfl fun v4 H4 d4 h4 a4 M4 k4 => ?_
          simp only [List.mem_cons, List.mem_nil_iff, or_false] at h4
          have g0 := gd.g
          have g1 := gd.w
          simp only [D.gd, decide_eq_true_eq] at g0
          have go : ∀ z : Int, z.natAbs ≤ 6 → Gd (n + 6) (2 * W + 702) (j + 2) (.int (i + z)) := fun z hz => ⟨by simp only [D.gd, decide_eq_true_eq]; omega, by simp only [D.wg] at g1 ⊢; omega, Nat.zero_le _⟩
          have fin : ∀ z : Int, z.natAbs ≤ 6 → d4 = .int z → rI0 (fun i j => .int (i + j)) (.int i) v4 H4 Q := fun z hz e => by
            subst e
            cases a4
            exact r_I0 (k _ H4 (.int (i + z)) (go z hz) (.int _) (M4.less (by omega)) (kA.tr k4))
          rcases h4 with e | e | e | e | e
          · exact fin _ (by decide) e
          · exact fin _ (by decide) e
          · exact fin _ (by decide) e
          · exact fin _ (by decide) e
          · exact fin _ (by decide) e
        · rw [decide_eq_false c3]
          refine iteF ?_
          walk_at "st"
          exact second M3 kA rfl
      | tup ds =>
        have g1 := gd.g
        have g2 := gd.w
        have g3 := gd.k
        simp only [D.wg] at g2
        simp only [D.dg] at g3
        have gm : ∀ x ∈ ds, x.gd n = true := fun x hx => gdA_mem.mp g1 x hx
        have dm : ∀ x ∈ ds, x.dg ≤ j - 1 := fun x hx => by have := dgA_le.mp (Nat.le_refl (dgA ds)) x hx; omega
        have wl := wgA_len ds
        have lds : ds.length ≤ 50000 := by omega
        refine r_andF (mt_test (mk_isI (mk_var rfl a0) nx)) fun H1 s1 => iteF ?_
        walk_at "st"
        refine r_orF (mt_not (mt_test (mk_isT (mk_var rfl (a0.gr s1)) nx))) fun H2 s2 => ?_
        have s12 := s1.trans s2
        cases hds : ds with
        | nil =>
          subst hds
          refine r_orT (mt_test (mk_eqE (mk_var rfl (a0.gr s12)))) fun H3 s3 => iteT ?_
          walk_at "st"
          exact odd (q := r + 4 * j + 3) rfl rfl (by omega) ((M.same (s12.trans s3)).less (by omega)) (Kp.of (s12.trans s3))
        | cons d0 dr =>
        have ne : ds.isEmpty = false := by rw [hds]; rfl
        have l1 : 0 < ds.length := by rw [hds]; simp
        rw [← hds] at *
        have tE := mt_test (mk_eqE (K := K) (σ := ([some (.ref m), some x, some y, none, none] : Sg)) (mk_var (n := 1) rfl (a0.gr s12)))
        rw [ne] at tE
        refine r_orF tE fun H3 s3 => ?_
        have s13 := s12.trans s3
        walk_at "rd"
        refine ⟨m, c, g, r + 4 * j + 3, 8, rfl, by decide, by decide, (M.same s13).less (by omega), fun v4 H4 p0 p1 M4 k4 => ?_⟩
        walk_at "rd"
        refine ⟨rfl, _, rfl, ?_⟩
        have k14 : Kp m g H H4 := (Kp.of s13).tr k4
        by_cases z4 : v4 = 0
        · subst z4
          refine r_ifT (decide_eq_true rfl) ?_
          walk_at "st"
          exact odd (q := r + 4 * j + 2) rfl rfl (by omega) M4 k14
        refine r_ifF (decide_eq_false fun z => z4 (V.int.inj z)) ?_
        walk_at "st"
        -- at, pick
        have x4 := Ap.kp ax k14
        refine r_cons (r_call (r_cons (r_v rfl (r_cons ?_))))
        refine mk_lenT (mk_var rfl x4.dt) H4 Gr.rfl' _ fun vl H5 s5 al => ?_
        cases al
        refine r_nil ⟨m, c, g, r + 4 * j + 2, (ds.length : Int), rfl, by omega, by omega, M4.same s5, fun va H6 a0' a1' M6 k6 => ?_⟩
        refine r_cons (r_call (r_cons (r_v rfl (r_cons (r_c (r_nil ?_))))))
        refine ⟨m, c, g, r + 4 * j + 1, 8, rfl, by decide, by decide, M6, fun vp H7 q0 q1 M7 k7 => ?_⟩
        refine r_nil ⟨_, _, rfl, ?_⟩
        obtain ⟨a, rfl⟩ : ∃ a : Nat, va = (a : Int) := ⟨va.toNat, by omega⟩
        have la : a < ds.length := by omega
        have k47 : Kp m g H4 H7 := ((Kp.of s5).tr k6).tr k7
        have k17 := k14.tr k47
        have x7 := Ap.kp x4 k47
        obtain ⟨xa, hxa⟩ : ∃ xa, ds[a]? = some xa := ⟨_, List.getElem?_eq_getElem la⟩
        have wsp := wg_split hxa
        have mxa : xa ∈ ds := List.mem_of_getElem? hxa
        have fin : ∀ {te : TE} {ds' : List D}, (∀ H8, Same H7 H8 → MkB K (B2 m g) te ([some (.ref m), some x, some y, some (.int (a : Int)), some (.int vp)] : Sg) H8 (.tup ds')) → (∀ x ∈ ds', x ∈ ds) → wgA ds' ≤ 2 * wgA ds →
            ∀ H8, Same H7 H8 → te ([some (.ref m), some x, some y, some (.int (a : Int)), some (.int vp)] : Sg) H8 Q := fun {te ds'} h hm hw H8 s8 => by
          refine h H8 s8 H8 Gr.rfl' _ fun v H9 s9 a9 => k v H9 (.tup ds') ⟨gdA_mem.mpr fun x hx => gd_mono (by omega) (gm x (hm x hx)), ?_, ?_⟩ a9 ((M7.same (s8.trans s9)).less (by omega)) (k17.tr (Kp.of (s8.trans s9)))
          · simp only [D.wg]; omega
          · simp only [D.dg]
            have := dgA_le.mpr fun x hx => dm x (hm x hx)
            omega
        have vB : ∀ {H8 : Hp}, Same H7 H8 → MkB K (B2 m g) (tVar 1) ([some (.ref m), some x, some y, some (.int (a : Int)), some (.int vp)] : Sg) H8 (.tup ds) := fun s8 => kb_var rfl (x7.sm s8)
        have bT : ∀ {H8 : Hp}, Same H7 H8 → ∀ b, B2 m g b = true → H8 b ≠ none := fun s8 => m_there (M7.same s8)
        have oA : ∀ {H8 : Hp}, MkO (tPart (tVar 3)) ([some (.ref m), some x, some y, some (.int (a : Int)), some (.int vp)] : Sg) H8 (some (a : Int)) := mo_int (mk_var (K := K) rfl (.int _))
        have oB : ∀ {H8 : Hp}, MkO (tPart (tOp (rI0 fun i j => .int (i + j)) (tVar 3) (tC (.int 1)))) ([some (.ref m), some x, some y, some (.int (a : Int)), some (.int vp)] : Sg) H8 (some ((a + 1 : Nat) : Int)) := by
          intro H8
          rw [show (((a + 1 : Nat)) : Int) = (a : Int) + 1 by omega]
          exact mo_int (mk_I0 (g := fun i j => i + j) (mk_var (K := K) rfl (.int _)) mk_int)
        have cA : cutD ds none (some (a : Int)) = ds.take a := cut_to (by omega)
        have cB : cutD ds (some ((a + 1 : Nat) : Int)) none = ds.drop (a + 1) := cut_from (by omega)
        have cC : cutD ds (some (a : Int)) none = ds.drop a := cut_from (by omega)
        have wt : wgA (ds.take a) + wgA (ds.drop a) = wgA ds := by rw [← wgA_app, List.take_append_drop]
        have test : ∀ {z : Int} {H8 : Hp}, MkT (tTest (tOp rEq (tVar 4) (tC (.int z)))) ([some (.ref m), some x, some y, some (.int (a : Int)), some (.int vp)] : Sg) H8 (decide (vp = z)) := fun {z H8} => mt_test (K := K) (mk_eqI (mk_var rfl (.int _)) mk_int)
        have mt : ∀ x ∈ ds.take a, x ∈ ds := fun x h => List.mem_of_mem_take h
        have md : ∀ (b : Nat), ∀ x ∈ ds.drop b, x ∈ ds := fun b x h => List.mem_of_mem_drop h
        walk_at "st"
        refine test H7 Gr.rfl' _ fun H8 s8 => ?_
        by_cases e0 : vp = 0
        · rw [decide_eq_true e0]
          refine iteT ?_
          walk_at "st"
          refine fin (ds' := ds.take a ++ ds.drop (a + 1)) (fun H9 s9 => ?_) (fun x h => (List.mem_append.mp h).elim (mt x) (md _ x)) (by rw [wgA_app]; omega) H8 s8
          have q := kb_catA (bT s9) (kb_sl (bT s9) (vB s9) mo_no oA) (kb_sl (bT s9) (vB s9) oB mo_no) (by rw [cA, cB, List.length_take, List.length_drop]; omega)
          rw [cA, cB] at q
          exact q
        rw [decide_eq_false e0]
        refine iteF ?_
        walk_at "st"
        refine test H8 Gr.rfl' _ fun H9 s9 => ?_
        by_cases e1 : vp = 1
        · rw [decide_eq_true e1]
          refine iteT ?_
          walk_at "st"
          refine fin (ds' := ds.take a ++ [xa] ++ ds.drop a) (fun H9 s9 => ?_) (fun x h => ?_) (by rw [wgA_app, wgA_app]; simp only [wgA]; omega) H9 (s8.trans s9)
          · have q := kb_catA (bT s9) (kb_catA (bT s9) (kb_sl (bT s9) (vB s9) mo_no oA) (kb_tup (bT s9) (kba_cons (kb_ixT (vB s9) (kb_var (n := 3) rfl (.int (a : Int))) hxa) kba_nil) (show 1 ≤ 100000 by decide)) (by rw [cA, List.length_take]; simp only [List.length_cons, List.length_nil]; omega)) (kb_sl (bT s9) (vB s9) oA mo_no) (by rw [cA, cC, List.length_append, List.length_take, List.length_drop]; simp only [List.length_cons, List.length_nil]; omega)
            rw [cA, cC] at q
            exact q
          · rcases List.mem_append.mp h with h | h
            · rcases List.mem_append.mp h with h | h
              · exact mt x h
              · rw [List.mem_singleton.mp h]; exact mxa
            · exact md _ x h
        rw [decide_eq_false e1]
        refine iteF ?_
        walk_at "st"
        refine test H9 Gr.rfl' _ fun H10 s10 => ?_
        have s810 := (s8.trans s9).trans s10
        by_cases e2 : vp = 2
        · rw [decide_eq_true e2]
          refine iteT ?_
          walk_at "st"
          refine kb_listT (bT s810) (vB s810) H10 Gr.rfl' _ fun v H11 s11 a11 => k v H11 (.lst ds) ⟨gdA_mem.mpr fun x hx => gd_mono (by omega) (gm x hx), ?_, ?_⟩ a11 ((M7.same (s810.trans s11)).less (by omega)) (k17.tr (Kp.of (s810.trans s11)))
          · simp only [D.wg]; omega
          · simp only [D.dg]; omega
        rw [decide_eq_false e2]
        refine iteF ?_
        walk_at "st"
        refine test H10 Gr.rfl' _ fun H11 s11 => ?_
        have s811 := s810.trans s11
        by_cases e3 : vp = 3
        · rw [decide_eq_true e3]
          refine iteT ?_
          walk_at "st"
          exact fin (ds' := ds.reverse) (fun H9 s9 => kb_back (bT s9) (vB s9)) (fun x h => List.mem_reverse.mp h) (by rw [wgA_rev]; omega) H11 s811
        rw [decide_eq_false e3]
        refine iteF ?_
        walk_at "st"
        -- deeper
        refine r_op (r_op ?_)
        have qA := kb_sl (K := K) (bT s811) (vB s811) mo_no oA
        rw [cA] at qA
        refine qA H11 Gr.rfl' _ fun w1 H12 s12' aw1 => ?_
        have s812 := s811.trans s12'
        refine r_tup (r_cons (r_call (r_cons (r_v rfl (r_cons ?_)))))
        refine kb_ixT (vB s812) (kb_var (n := 3) rfl (.int (a : Int))) hxa H12 Gr.rfl' _ fun w2 H13 s13' aw2 => ?_
        have s813 := s812.trans s13'
        refine r_cons (r_v rfl (r_nil ?_))
        cases j with
        | zero => exact absurd g3 (by omega)
        | succ j' =>
        refine ⟨m, c, g, r + 1, n, xa.wg, w2, y, xa, os, rfl, (M7.same s813).less (by omega), aw2, (Ap.kp ay k17).sm s813, go, o0, o1, ⟨gm xa mxa, Nat.le_refl _, by have := dm xa mxa; omega⟩, by omega, hn, fun v H14 d' gd' a14 M14 k14' => ?_⟩
        refine r_nil ⟨sz1 (show 1 ≤ 100000 by decide), fun p np => ?_⟩
        obtain ⟨pm, pg⟩ := new_m M14 np
        have sp := same_new (H := H14) (p := p) (o := .tup [v]) np
        have aP : Ap K m g (upd H14 p (.tup [v])) (.ref p) (.tup [d']) := .tup (SqT.of (by rw [wo_at (B2_no pm pg), upd_same])) (.cons (a14.sm sp) .nil)
        have M15 := M14.same sp
        have aw1' : Ap K m g (upd H14 p (.tup [v])) w1 (.tup (ds.take a)) := (Ap.kp (Ap.sm aw1 s13') k14').sm sp
        have x15 : Ap K m g (upd H14 p (.tup [v])) x (.tup ds) := (Ap.kp (x7.sm s813) k14').sm sp
        have kF : Kp m g H (upd H14 p (.tup [v])) := ((k17.tr (Kp.of s813)).tr k14').tr (Kp.of sp)
        generalize upd H14 p (.tup [v]) = H15 at aP M15 aw1' x15 kF ⊢
        have bT15 := m_there M15
        have j1 := kb_catA (K := K) (B := B2 m g) (H := H15) (σ := ([some w1, some (.ref p)] : Sg)) bT15 (kb_var (n := 0) rfl aw1') (kb_var (n := 1) rfl aP) (by rw [List.length_take]; simp only [List.length_cons, List.length_nil]; omega)
        refine un2 (j1 H15 Gr.rfl' _ ?_)
        refine fun w3 H16 s16 aw3 => ?_
        have qB := kb_sl (K := K) (B := B2 m g) (σ := ([some (.ref m), some x, some y, some (.int (a : Int)), some (.int vp)] : Sg)) (m_there (M15.same s16)) (kb_var (n := 1) rfl (x15.sm s16)) oB mo_no
        rw [cB] at qB
        refine qB H16 Gr.rfl' _ fun w4 H17 s17 aw4 => ?_
        have j2 := kb_catA (K := K) (B := B2 m g) (H := H17) (σ := ([some w3, some w4] : Sg)) (m_there (M15.same (s16.trans s17))) (kb_var (n := 0) rfl (Ap.sm aw3 s17)) (kb_var (n := 1) rfl aw4) (by rw [List.length_append, List.length_take, List.length_drop]; simp only [List.length_cons, List.length_nil]; omega)
        refine un2 (j2 H17 Gr.rfl' _ ?_)
        refine fun w5 H18 s18 aw5 => k w5 H18 (.tup (ds.take a ++ [d'] ++ ds.drop (a + 1))) ⟨?_, ?_, ?_⟩ aw5 ((M15.same ((s16.trans s17).trans s18)).less (by omega)) (kF.tr (Kp.of ((s16.trans s17).trans s18)))
        · refine gdA_mem.mpr fun z hz => ?_
          rcases List.mem_append.mp hz with hz | hz
          · rcases List.mem_append.mp hz with hz | hz
            · exact gd_mono (by omega) (gm z (mt z hz))
            · rw [List.mem_singleton.mp hz]; exact gd'.g
          · exact gd_mono (by omega) (gm z (md _ z hz))
        · have := gd'.w
          simp only [D.wg]
          rw [wgA_app, wgA_app]
          simp only [wgA]
          omega
        · have gk := gd'.k
          simp only [D.dg]
          have : dgA (ds.take a ++ [d'] ++ ds.drop (a + 1)) ≤ j' + 2 := dgA_le.mpr fun z hz => by
            rcases List.mem_append.mp hz with hz | hz
            · rcases List.mem_append.mp hz with hz | hz
              · have := dm z (mt z hz); omega
              · rw [List.mem_singleton.mp hz]; exact gk
            · have := dm z (md _ z hz); omega
          omega
      | bl b =>
        refine r_andT (mt_test (mk_isI (mk_var rfl a0) nx)) fun H1 s1 => ?_
        refine r_andF (mt_not (mt_test (mk_isB (mk_var rfl (a0.gr s1)) nx))) fun H2 s2 => iteF ?_
        walk_at "st"
        exact second ((M.same (s1.trans s2)).less (by omega)) (Kp.of (s1.trans s2)) rfl
      | _ =>
        refine r_andF (mt_test (mk_isI (mk_var rfl a0) nx)) fun H1 s1 => iteF ?_
        walk_at "st"
        exact second ((M.same s1).less (by omega)) (Kp.of s1) rfl
end
end TSx

namespace TSx
open PySem L2 LamX
local macro_rules | `(tactic| walk_at "rd") => `(tactic| repeat (first
  | ((with_reducible show tVar _ _ _ _); refine r_v rfl ?_)
  | with_reducible refine r_c ?_
  | with_reducible refine r_op ?_
  | with_reducible refine r_I0 ?_
  | with_reducible refine r_cb ?_
  | with_reducible refine r_nil ?_
  | with_reducible refine r_cons ?_
  | with_reducible refine r_seq ?_
  | with_reducible refine r_next ?_
  | with_reducible refine r_asg ?_
  | with_reducible refine r_name ?_
  | with_reducible refine r_ret ?_
  | with_reducible refine r_drop ?_
  | with_reducible refine r_if ?_
  | with_reducible refine r_test ?_
  | with_reducible refine r_bl ?_
  | with_reducible refine r_call ?_))
local macro_rules | `(tactic| walk_at "st") => `(tactic| repeat (first
  | with_reducible refine r_seq ?_
  | with_reducible refine r_next ?_
  | with_reducible refine r_asg ?_
  | with_reducible refine r_name ?_
  | with_reducible refine r_ret ?_
  | with_reducible refine r_drop ?_
  | with_reducible refine r_if ?_))
local macro_rules | `(tactic| walk_at "mk") => `(tactic| repeat (first
  | with_reducible exact mk_non
  | with_reducible exact mk_int
  | with_reducible exact mk_str
  | with_reducible exact mk_bl
  | with_reducible exact mk_dic
  | with_reducible exact mka_nil
  | with_reducible refine mka_cons ?_ ?_
  | ((with_reducible refine mk_tup ?_ ?hz); (case hz => decide))
  | ((with_reducible refine mk_lst ?_ ?hz); (case hz => decide))
  | with_reducible refine mk_neg ?_))
local macro_rules | `(tactic| walk_at "kb") => `(tactic| repeat (first
  | with_reducible exact kb_non
  | with_reducible exact kb_int
  | with_reducible exact kb_str
  | with_reducible exact kb_bl
  | with_reducible exact kb_dic (by assumption)
  | with_reducible exact kba_nil
  | with_reducible refine kba_cons ?_ ?_
  | ((with_reducible refine kb_tup (by assumption) ?_ ?hz); (case hz => decide))
  | ((with_reducible refine kb_lst (by assumption) ?_ ?hz); (case hz => decide))
  | with_reducible refine kb_neg ?_))
abbrev sLaw : Stmt := top 55
theorem scLaw : FnScope ["script", "m", "turn", "again", "home", "limits", "bent"] ["script"] (defScope sLaw) := ⟨rfl, rfl, rfl, by decide +kernel, rfl, by decide +kernel, by decide +kernel⟩
def spLaw (K : PySem.W.Frag) (T : List (Addr × Str)) : Sp := fun vs H Q _ => ∃ (a : Addr) (ns : List Int), vs = [.ref a] ∧ SqL K H a (ns.map V.int) ∧ ns.length ≤ 63 ∧ Tabs T H ∧ ∀ H', Q (.bl true) H'
mutual
/-- tuples, and what has no parts -/
def D.tp : D → Bool
  | .tup xs => tpA xs
  | d => d.sc
def tpA : List D → Bool
  | [] => true
  | d :: ds => d.tp && tpA ds
end
theorem tpA_of : ∀ {ds : List D}, (∀ d ∈ ds, d.tp = true) → tpA ds = true
  | [], _ => rfl
  | x :: xs, h => by
    simp only [tpA, Bool.and_eq_true]
    exact ⟨h x (List.mem_cons_self ..), tpA_of fun d m => h d (List.mem_cons_of_mem _ m)⟩
section
variable {K : PySem.W.Frag} {H H' : Hp} {m c g : Addr} {r : Nat} {B : Addr → Bool}
theorem tup_wo (hB : ∀ b o, B b = true → H b = some o → (∀ xs, o ≠ .tup xs) ∧ ∀ u xs, o ≠ .frz u (.tup xs)) {a : Addr} {xs : List V} (h : SqT K H a xs) : SqT K (wo B H) a xs := by
  have out : ∀ {o}, H a = some o → (∃ ys, o = .tup ys) ∨ (∃ u ys, o = .frz u (.tup ys)) → wo B H a = some o := fun {o} e z => by
    cases q : B a with
    | false => rw [wo_at q]; exact e
    | true =>
      obtain ⟨h1, h2⟩ := hB a o q e
      rcases z with ⟨ys, z⟩ | ⟨u, ys, z⟩
      · exact absurd z (h1 ys)
      · exact absurd z (h2 u ys)
  rcases h with (e | ⟨u, e⟩) | e
  · exact Or.inl (Or.inl (out e (Or.inl ⟨_, rfl⟩)))
  · exact Or.inl (Or.inr ⟨u, out e (Or.inr ⟨_, _, rfl⟩)⟩)
  · exact Or.inr e
mutual
theorem Dt.tpw (hB : ∀ b o, B b = true → H b = some o → (∀ xs, o ≠ .tup xs) ∧ ∀ u xs, o ≠ .frz u (.tup xs)) : ∀ {v : V} {d : D}, Dt K H v d → d.tp = true → Dt K (wo B H) v d
  | _, _, .non, _ => .non
  | _, _, .bl b, _ => .bl b
  | _, _, .int i, _ => .int i
  | _, _, .str x, _ => .str x
  | _, _, .lst e aa, h => by cases h
  | _, _, .tup e aa, h => .tup (tup_wo hB e) (DtA.tpw hB aa h)
  | _, _, .dic e aa, h => by cases h
  | _, _, .exc e f aa, h => by cases h
theorem DtA.tpw (hB : ∀ b o, B b = true → H b = some o → (∀ xs, o ≠ .tup xs) ∧ ∀ u xs, o ≠ .frz u (.tup xs)) : ∀ {v : List V} {d : List D}, DtA K H v d → tpA d = true → DtA K (wo B H) v d
  | _, _, .nil, _ => .nil
  | _, _, .cons a b, h => by
    simp only [tpA, Bool.and_eq_true] at h
    exact .cons (Dt.tpw hB a h.1) (DtA.tpw hB b h.2)
end
theorem ap_of_tp {v : V} {d : D} (M : MAt m c g H r) (a : Dt K H v d) (h : d.tp = true) : Ap K m g H v d := by
  obtain ⟨⟨n, cs, gs, e1, e2, e3, _⟩, _⟩ := M
  refine a.tpw (fun b o hb e => ?_) h
  by_cases z : b = m
  · rw [z, e1] at e
    cases e
    exact ⟨(fun _ z => by cases z), (fun _ _ z => by cases z)⟩
  · by_cases z2 : b = g
    · rw [z2, e3] at e
      cases e
      exact ⟨(fun _ z => by cases z), (fun _ _ z => by cases z)⟩
    · rw [B2_no z z2] at hb; cases hb
theorem ap_of_dom {v : V} {d : D} (M : MAt m c g H r) (a : Dt K (wo (dom H) H') v d) : Ap K m g H' v d := by
  obtain ⟨⟨n, cs, gs, e1, e2, e3, _⟩, _⟩ := M
  refine a.gr fun b o e => ?_
  have nb := wo_no e
  have n1 : b ≠ m := fun z => by rw [z, dom_of e1] at nb; cases nb
  have n2 : b ≠ g := fun z => by rw [z, dom_of e3] at nb; cases nb
  rw [wo_at nb] at e
  rw [wo_at (B2_no n1 n2)]
  exact e
end
theorem tp_way (y : Way) : y.d.tp = true := by cases y <;> rfl
theorem tp_house (h : House) : h.d.tp = true := by
  have e : tpA (h.bodies.map bodyD) = true := tpA_of fun d hd => by
    obtain ⟨b, _, rfl⟩ := List.mem_map.mp hd
    exact tpA_of fun d hd => by
      obtain ⟨s, _, rfl⟩ := List.mem_map.mp hd
      show (true && (true && (s.way.d.tp && true))) = true
      rw [tp_way]
      rfl
  show (tpA (h.bodies.map bodyD) && (true && true)) = true
  rw [e]
  rfl
theorem odds_n : 0 < (odds1 ++ odds2).length ∧ (odds1 ++ odds2).length ≤ 1000 := by decide
section
variable {P : Program} {w : World} {K : PySem.W.Frag} {mg : Str → Option Value} {base : Heap} {T : List (Addr × Str)}
theorem FnOk.or {CX : CXT} {k1 k2 k : Nat} {f : Addr} {fd : FuncData} {ps : List Str} {s1 s2 : Sp} (h1 : FnOk P w K mg base CX k1 f fd ps s1) (h2 : FnOk P w K mg base CX k2 f fd ps s2) (l1 : k1 ≤ k) (l2 : k2 ≤ k) : FnOk P w K mg base CX k f fd ps (fun vs H Q E => s1 vs H Q E ∨ s2 vs H Q E) :=
  ⟨fun vs H Q E h => h.elim (h1.len vs H Q E) (h2.len vs H Q E), fun A outer s H args us vs Q E hr he hb hv h => h.elim (fun q => (h1.mono l1).run A outer s H args us vs Q E hr he hb hv q) (fun q => (h2.mono l2).run A outer s H args us vs Q E hr he hb hv q)⟩
def spB (K : PySem.W.Frag) : Sp := fun vs H Q E => spBt K 6 vs H Q E ∨ spBt K 8 vs H Q E
section
variable {σ : Sg} {H : Hp} {m c g : Addr} {r : Nat} {Q : VK}
theorem odds_gd2 : ∀ o ∈ odds1 ++ odds2, Gd 0 700 2 o := odds_gd
theorem r_oddsL (M : MAt m c g H r) (q : ∀ v H', Same H H' → Ap K m g H' v (.lst (odds1 ++ odds2)) → Q v H') : tCall (spOdds K) [] E0 tNil σ H Q := r_call (r_nil ⟨rfl, fun v H' s a => q v H' s (ap_of_dom M a)⟩)
theorem r_bent {n W j i : Nat} {x : V} {d : D} (h1 : σ[1]? = some (some (.ref m))) (hi : σ[i]? = some (some x)) (hj : j = 5 ∨ j = 7) (M : MAt m c g H (r + 4 * (j + 1))) (ax : Ap K m g H x d) (gd : Gd n W j d) (hW : W ≤ 50000) (hn : n ≤ 900)
    (q : ∀ v H' d', Gd (n + 6) (2 * W + 702) (j + 2) d' → Ap K m g H' v d' → MAt m c g H' r → Kp m g H H' → Q v H') : tCall (spB K) [] E0 (tCons (tVar 1) (tCons (tVar i) (tCons (tCall (spOdds K) [] E0 tNil) tNil))) σ H Q := by
  refine r_call (r_cons (r_v h1 (r_cons (r_v hi (r_cons (r_oddsL M fun vo H1 s1 ao => r_nil ?_))))))
  have st : spBent K j [.ref m, x, vo] H1 Q E0 := ⟨m, c, g, r, n, W, x, vo, d, odds1 ++ odds2, rfl, M.same s1, Ap.sm ax s1, ao, odds_gd2, odds_n.1, odds_n.2, gd, hW, hn, fun v H' d' g1 a1 M1 k1 => q v H' d' g1 a1 M1 ((Kp.of s1).tr k1)⟩
  rcases hj with rfl | rfl
  · exact Or.inl st
  · exact Or.inr st
theorem r_ofL (h1 : σ[1]? = some (some (.ref m))) (M : MAt m c g H (r + 1)) (q : ∀ v H' d, Gd 0 700 2 d → Ap K m g H' v d → MAt m c g H' r → Kp m g H H' → Q v H') : tCall (spOfG K) [] E0 (tCons (tVar 1) (tCons (tCall (spOdds K) [] E0 tNil) tNil)) σ H Q := by
  refine r_call (r_cons (r_v h1 (r_cons (r_oddsL M fun vo H1 s1 ao => r_nil ?_))))
  exact ⟨m, c, g, r, vo, odds1 ++ odds2, rfl, M.same s1, ao, odds_n.1, odds_n.2, fun v H' d hd a M1 k1 => q v H' d (odds_gd2 d hd) a M1 ((Kp.of s1).tr k1)⟩
end
theorem ok_law {f fB fH fL fE fO fF fR fS fA : Addr} {fd fdB fdH fdL fdE fdO fdF fdR fdS fdA : FuncData} (F : L2.Fun K "law" "law" sLaw f fd) (B : Blt mg)
    (d_law_begun : Dok P w K mg base 2 "_law_begun" ["script"] (spBegun K) fB fdB) (d_law_home : Dok P w K mg base 4 "_law_home" ["m", "bodies", "each", "most"] (spHome K) fH fdH) (d_law_limits : Dok P w K mg base 3 "_law_limits" ["m"] (spLim K) fL fdL)
    (d_law_bent : Dok P w K mg base 11 "_law_bent" ["m", "thing", "some"] (spB K) fE fdE) (d_law_odds : Dok P w K mg base 1 "_law_odds" [] (spOdds K) fO fdO) (d_law_of : Dok P w K mg base 3 "_law_of" ["m", "some"] (spOfG K) fF fdF)
    (d_law_right : DoG P w K mg base 9 "_law_right" ["home", "limits"] (spRight K T) fR fdR) (d_law_stands_right : DoG P w K mg base 10 "_law_stands_right" ["m", "home"] (spStands K T) fS fdS) (d_law_hand_right : DoG P w K mg base 10 "_law_hand_right" [] (spHand K T) fA fdA) :
    FnG P w K mg base CX0 12 f fd ["script"] (spLaw K T) := by
  refine fnG_of0 (k := 11) F scLaw (fun vs H Q E h => by obtain ⟨_, _, rfl, _⟩ := h; rfl) (fun cdv A outer s H vs Q E g hr h => ?_)
  obtain ⟨a, ns, rfl, hS, hl, TT, k⟩ := h
  have g2 := guards_deeper g (PyProof.Rows.envOfC "law" (defScope sLaw) s.heap.objs.size f cdv)
  refine ⟨_, (pss_cons (ps_set (i := 1) scLaw.nd rfl (Or.inl rfl) (pe_call d_law_begun.G (hr.mono (by decide)) rfl d_law_begun.g d_law_begun.k d_law_begun.b .nil pass0 (pa_cons (pv 0) pa_nil)))
  (pss_cons (ps_for PassesOwn.never rfl (pi_range1 rfl B.range (pa_cons pe_int pa_nil)) (pg_name (i := 2) scLaw.nd rfl (Or.inl rfl))
  (pss_cons (ps_par (i := 4) (j := 5) (by rfl) scLaw.nd rfl rfl (by decide) rfl rfl (pa_cons (pe_call d_law_home.G (hr.mono (by decide)) rfl d_law_home.g d_law_home.k d_law_home.b .nil pass0 (pa_cons (pv 1) (pa_cons pe_int (pa_cons pe_int (pa_cons pe_int pa_nil))))) (pa_cons (pe_call d_law_limits.G (hr.mono (by decide)) rfl d_law_limits.g d_law_limits.k d_law_limits.b .nil pass0 (pa_cons (pv 1) pa_nil)) pa_nil)) (by rfl))
  (pss_cons (ps_if (PW.pt (pw_or (pt_not (pt_val (pe_callG d_law_right.G g2 (hr.mono (by decide)) rfl d_law_right.g d_law_right.k d_law_right.b pass0 (pa_cons (pv 4) (pa_cons (pv 5) pa_nil))))) (pw_or1 (pt_not (pt_val (pe_callG d_law_stands_right.G g2 (hr.mono (by decide)) rfl d_law_stands_right.g d_law_stands_right.k d_law_stands_right.b pass0 (pa_cons (pv 1) (pa_cons (pv 4) pa_nil)))))))) (pss_one (ps_ret pe_bl)) pss_nil)
  (pss_one (ps_for PassesOwn.never rfl (pi_range1 rfl B.range (pa_cons pe_int pa_nil)) (pg_name (i := 3) scLaw.nd rfl (Or.inl rfl))
  (pss_cons (ps_set (i := 6) scLaw.nd rfl (Or.inl rfl) (pe_call d_law_bent.G (hr.mono (by decide)) rfl d_law_bent.g d_law_bent.k d_law_bent.b .nil pass0 (pa_cons (pv 1) (pa_cons (pv 4) (pa_cons (pe_call0 d_law_odds.G (hr.mono (by decide)) rfl d_law_odds.g d_law_odds.k d_law_odds.b .nil pass0) pa_nil)))))
  (pss_cons (ps_if (pt_not (pt_val (pe_callG d_law_right.G g2 (hr.mono (by decide)) rfl d_law_right.g d_law_right.k d_law_right.b pass0 (pa_cons (pv 6) (pa_cons (pe_call d_law_bent.G (hr.mono (by decide)) rfl d_law_bent.g d_law_bent.k d_law_bent.b .nil pass0 (pa_cons (pv 1) (pa_cons (pv 5) (pa_cons (pe_call0 d_law_odds.G (hr.mono (by decide)) rfl d_law_odds.g d_law_odds.k d_law_odds.b .nil pass0) pa_nil)))) pa_nil))))) (pss_one (ps_ret pe_bl)) pss_nil)
  (pss_one (ps_if (pt_not (pt_val (pe_callG d_law_right.G g2 (hr.mono (by decide)) rfl d_law_right.g d_law_right.k d_law_right.b pass0 (pa_cons (pe_call d_law_bent.G (hr.mono (by decide)) rfl d_law_bent.g d_law_bent.k d_law_bent.b .nil pass0 (pa_cons (pv 1) (pa_cons (pv 6) (pa_cons (pe_call0 d_law_odds.G (hr.mono (by decide)) rfl d_law_odds.g d_law_odds.k d_law_odds.b .nil pass0) pa_nil)))) (pa_cons (pe_call d_law_of.G (hr.mono (by decide)) rfl d_law_of.g d_law_of.k d_law_of.b .nil pass0 (pa_cons (pv 1) (pa_cons (pe_call0 d_law_odds.G (hr.mono (by decide)) rfl d_law_odds.g d_law_odds.k d_law_odds.b .nil pass0) pa_nil))) pa_nil))))) (pss_one (ps_ret pe_bl)) pss_nil)))))))))
  (pss_one (ps_ret (pe_and (pe_callG d_law_right.G g2 (hr.mono (by decide)) rfl d_law_right.g d_law_right.k d_law_right.b pass0 (pa_cons (pe_call d_law_of.G (hr.mono (by decide)) rfl d_law_of.g d_law_of.k d_law_of.b .nil pass0 (pa_cons (pv 1) (pa_cons (pe_call0 d_law_odds.G (hr.mono (by decide)) rfl d_law_odds.g d_law_odds.k d_law_odds.b .nil pass0) pa_nil))) (pa_cons (pe_tup (pa_cons pe_int (pa_cons pe_int pa_nil))) pa_nil))) (pe_one (pe_callG0 d_law_hand_right.G g2 (hr.mono (by decide)) rfl d_law_hand_right.g d_law_hand_right.k d_law_hand_right.b pass0))))))), ?_⟩
  walk_at "st"
  have va : V.ref a = V.ref a := rfl
  refine r_call (r_cons (r_v rfl (r_nil ⟨a, ns, rfl, hS, hl, fun H1 m c g' s1 m0 c0 g0 M => ?_⟩)))
  have T1 : Tabs T H1 := Tabs.sm TT s1
  walk_at "st"
  refine r_for (r_rng1 (r_cons (r_c (r_nil ⟨8, rfl, by omega, by omega, for_range (lo := 0) (n := 8) (fun i σ' H' => (∃ o2 o3 o4 o5 o6 : Option V, σ' = [some (.ref a), some (.ref m), o2, o3, o4, o5, o6]) ∧ MAt m c g' H' (536870912 - 1000 * i) ∧ Tabs T H') ⟨⟨_, _, _, _, _, rfl⟩, M, T1⟩ ?_ ?_⟩))))
  · rintro i σ' H2 hi ⟨⟨o2, o3, o4, o5, o6, rfl⟩, M2, T2⟩
    refine r_name ?_
    walk_at "st"
    generalize hR : 536870912 - 1000 * i = R at M2
    have R8 : 10000 ≤ R := by omega
    refine r_cons (r_call (r_cons (r_v rfl (r_cons (r_c (r_cons (r_c (r_cons (r_c (r_nil ?_)))))))))) 
    refine ⟨m, c, g', R - 100, rfl, M2.less (by omega), fun vh H3 h ok ah M3 k3 => ?_⟩
    have ah3 := ap_of_tp M3 ah (tp_house h)
    have T3 := Tabs.kp T2 M2 k3
    refine r_cons (r_call (r_cons (r_v rfl (r_nil ?_))))
    refine ⟨m, c, g', R - 102, rfl, M3.less (by omega), fun vl H4 dl gl al M4 k4 => r_nil ⟨vh, vl, rfl, ?_⟩⟩
    have ah4 := Ap.kp ah3 k4
    have T4 := Tabs.kp T3 M3 k4
    have gh := gd_house ok
    walk_at "st"
    unfold tOr
    refine r_call (r_cons (r_v rfl (r_cons (r_v rfl (r_nil ?_)))))
    refine ⟨vh, vl, h.d, dl, rfl, ah4.dt, al.dt, gh.up (by decide) (by decide) (by decide), gl.up (by decide) (by decide) (by decide), T4, fun H5 e5 T5 => ⟨true, rfl, iteF ?_⟩⟩
    refine r_call (r_cons (r_v rfl (r_cons (r_v rfl (r_nil ?_)))))
    have M5 := M4.ext e5
    refine ⟨m, c, g', R - 129, vh, h, rfl, M5.less (by omega), Ap.ext ah4 e5, ok, T5, fun H6 M6 k6 T6 => ⟨true, rfl, iteF ?_⟩⟩
    have ah6 : Ap K m g' H6 vh h.d := Ap.kt (Ap.ext ah4 e5) k6
    have al6 : Ap K m g' H6 vl dl := Ap.kt (Ap.ext al e5) k6
    walk_at "st"
    refine r_for (r_rng1 (r_cons (r_c (r_nil ⟨4, rfl, by omega, by omega, for_range (lo := 0) (n := 4) (fun j σ' H' => (∃ o3 o6 : Option V, σ' = [some (.ref a), some (.ref m), some (.int (0 + (i : Int))), o3, some vh, some vl, o6]) ∧ MAt m c g' H' (R - 129 - 100 * j) ∧ Tabs T H' ∧ Ap K m g' H' vh h.d ∧ Ap K m g' H' vl dl) ⟨⟨_, _, rfl⟩, M6, T6, ah6, al6⟩ ?_ ?_⟩))))
    · rintro j σ' H7 hj ⟨⟨p3, p6, rfl⟩, M7, T7, ah7, al7⟩
      refine r_name ?_
      walk_at "st"
      generalize hS2 : R - 129 - 100 * j = S at M7
      have S8 : 1000 ≤ S := by omega
      refine r_bent (j := 5) (r := S - 24) (n := 0) (W := 4381) rfl rfl (Or.inl rfl) (M7.less (by omega)) ah7 gh (by decide) (by decide) fun vb H8 db gb ab M8 k8 => ?_
      walk_at "st"
      have T8 := Tabs.kp T7 M7 k8
      have ah8 := Ap.kp ah7 k8
      have al8 := Ap.kp al7 k8
      refine r_call (r_cons (r_v rfl (r_cons ?_)))
      refine r_bent (j := 5) (r := S - 48) (n := 0) (W := 400) rfl rfl (Or.inl rfl) (M8.less (by omega)) al8 (gl.up (by decide) (by decide) (by decide)) (by decide) (by decide) fun vq H9 dq gq aq M9 k9 => ?_
      refine r_nil ?_
      have T9 := Tabs.kp T8 M8 k9
      have ah9 := Ap.kp ah8 k9
      have al9 := Ap.kp al8 k9
      have ab9 := Ap.kp ab k9
      refine ⟨vb, vq, db, dq, rfl, ab9.dt, aq.dt, gb.up (by decide) (by decide) (by decide), gq.up (by decide) (by decide) (by decide), T9, fun HA eA TA => ⟨true, rfl, iteF ?_⟩⟩
      walk_at "st"
      have MA := M9.ext eA
      have ahA := Ap.ext ah9 eA
      have alA := Ap.ext al9 eA
      have abA := Ap.ext ab9 eA
      refine r_call (r_cons ?_)
      refine r_bent (j := 7) (r := S - 80) (n := 6) (W := 9464) rfl rfl (Or.inr rfl) (MA.less (by omega)) abA (gb.up (by decide) (by decide) (by decide)) (by decide) (by decide) fun vc HB dc gc ac MB kB => ?_
      have TB := Tabs.kp TA MA kB
      refine r_cons (r_ofL (r := S - 81) rfl (MB.less (by omega)) fun vo HC do_ go ao MC kC => r_nil ?_)
      have TC := Tabs.kp TB MB kC
      have acC := Ap.kp ac kC
      refine ⟨vc, vo, dc, do_, rfl, acC.dt, ao.dt, gc.up (by decide) (by decide) (by decide), go.up (by decide) (by decide) (by decide), TC, fun HD eD TD => ⟨true, rfl, iteF ?_⟩⟩
      exact ⟨⟨_, _, rfl⟩, (MC.ext eD).less (by omega), TD, Ap.ext (Ap.kp (Ap.kp ahA kB) kC) eD, Ap.ext (Ap.kp (Ap.kp alA kB) kC) eD⟩
    · rintro σ' H7 ⟨⟨p3, p6, rfl⟩, M7, T7, ah7, al7⟩
      exact ⟨⟨_, _, _, _, _, rfl⟩, M7.less (by omega), T7⟩
  · rintro σ' H2 ⟨⟨o2, o3, o4, o5, o6, rfl⟩, M2, T2⟩
    walk_at "st"
    refine r_call (r_cons (r_ofL (r := 100) rfl (M2.less (by omega)) fun vo H3 d go ao M3 k3 => ?_))
    have T3 := Tabs.kp T2 (M2.less (Nat.zero_le _)) k3
    refine r_cons ((mk_tup (K := K) (mka_cons (mk_int (i := 0)) (mka_cons (mk_int (i := 1)) mka_nil)) (show 2 ≤ 100000 by decide)) H3 Gr.rfl' _ fun vt H4 s4 at_ => r_nil ?_)
    refine ⟨vo, vt, d, .tup [.int 0, .int 1], rfl, (ao.dt).gr s4, at_, go.up (by decide) (by decide) (by decide), ⟨by decide +kernel, by decide +kernel, by decide +kernel⟩, Tabs.sm T3 s4, fun H5 e5 T5 => ?_⟩
    exact ⟨true, rfl, iteT (r_call (r_nil ⟨rfl, T5, fun H6 _ _ => k H6⟩))⟩
end
end TSx

namespace TSx
open PySem L2 LamX
local macro_rules | `(tactic| walk_at "rd") => `(tactic| repeat (first
  | ((with_reducible show tVar _ _ _ _); refine r_v rfl ?_)
  | with_reducible refine r_c ?_
  | with_reducible refine r_op ?_
  | with_reducible refine r_I0 ?_
  | with_reducible refine r_cb ?_
  | with_reducible refine r_nil ?_
  | with_reducible refine r_cons ?_
  | with_reducible refine r_seq ?_
  | with_reducible refine r_next ?_
  | with_reducible refine r_asg ?_
  | with_reducible refine r_name ?_
  | with_reducible refine r_ret ?_
  | with_reducible refine r_drop ?_
  | with_reducible refine r_if ?_
  | with_reducible refine r_test ?_
  | with_reducible refine r_bl ?_
  | with_reducible refine r_call ?_))
local macro_rules | `(tactic| walk_at "st") => `(tactic| repeat (first
  | with_reducible refine r_seq ?_
  | with_reducible refine r_next ?_
  | with_reducible refine r_asg ?_
  | with_reducible refine r_name ?_
  | with_reducible refine r_ret ?_
  | with_reducible refine r_drop ?_
  | with_reducible refine r_if ?_))
local macro_rules | `(tactic| walk_at "mk") => `(tactic| repeat (first
  | with_reducible exact mk_non
  | with_reducible exact mk_int
  | with_reducible exact mk_str
  | with_reducible exact mk_bl
  | with_reducible exact mk_dic
  | with_reducible exact mka_nil
  | with_reducible refine mka_cons ?_ ?_
  | ((with_reducible refine mk_tup ?_ ?hz); (case hz => decide))
  | ((with_reducible refine mk_lst ?_ ?hz); (case hz => decide))
  | with_reducible refine mk_neg ?_))
local macro_rules | `(tactic| walk_at "kb") => `(tactic| repeat (first
  | with_reducible exact kb_non
  | with_reducible exact kb_int
  | with_reducible exact kb_str
  | with_reducible exact kb_bl
  | with_reducible exact kb_dic (by assumption)
  | with_reducible exact kba_nil
  | with_reducible refine kba_cons ?_ ?_
  | ((with_reducible refine kb_tup (by assumption) ?_ ?hz); (case hz => decide))
  | ((with_reducible refine kb_lst (by assumption) ?_ ?hz); (case hz => decide))
  | with_reducible refine kb_neg ?_))

open LamX
abbrev sIniH : Stmt := inClass (top 3) 0
theorem scIniH : FnScope ["self", "place"] ["self", "place"] (defScope sIniH) := ⟨rfl, rfl, rfl, by decide +kernel, rfl, by decide +kernel, by decide +kernel⟩
abbrev sIniS : Stmt := inClass (top 4) 0
theorem scIniS : FnScope ["self", "value"] ["self", "value"] (defScope sIniS) := ⟨rfl, rfl, rfl, by decide +kernel, rfl, by decide +kernel, by decide +kernel⟩
abbrev sIniB : Stmt := inClass (top 6) 0
theorem scIniB : FnScope ["self", "part"] ["self", "part"] (defScope sIniB) := ⟨rfl, rfl, rfl, by decide +kernel, rfl, by decide +kernel, by decide +kernel⟩
section
variable {P : Program} {w : World} {K : PySem.W.Frag} {mg : Str → Option Value} {base : Heap}
theorem ok_iniH {C f : Addr} {fd : FuncData} (F : L2.Fun K "__init__" "BadHouse.__init__" sIniH f fd) (T : OexC K C) (no : PySem.W.findIn K (.ref C) "place" = some none) : FnOk P w K mg base CX0 1 f fd ["self", "place"] (spIni C "place") := by
  refine F.ok scIniH (fun vs H Q E h => by obtain ⟨a, x, rfl, _⟩ := h; rfl) (fun cdv A outer s H vs Q E hr h => ?_)
  exact ⟨_, pss_one (ps_ost (pv 0) (pv 1)), ini_reading T no h⟩
theorem ok_iniS {C f : Addr} {fd : FuncData} (F : L2.Fun K "__init__" "BadStand.__init__" sIniS f fd) (T : OexC K C) (no : PySem.W.findIn K (.ref C) "value" = some none) : FnOk P w K mg base CX0 1 f fd ["self", "value"] (spIni C "value") := by
  refine F.ok scIniS (fun vs H Q E h => by obtain ⟨a, x, rfl, _⟩ := h; rfl) (fun cdv A outer s H vs Q E hr h => ?_)
  exact ⟨_, pss_one (ps_ost (pv 0) (pv 1)), ini_reading T no h⟩
theorem ok_iniB {C f : Addr} {fd : FuncData} (F : L2.Fun K "__init__" "BadBand.__init__" sIniB f fd) (T : OexC K C) (no : PySem.W.findIn K (.ref C) "part" = some none) : FnOk P w K mg base CX0 1 f fd ["self", "part"] (spIni C "part") := by
  refine F.ok scIniB (fun vs H Q E h => by obtain ⟨a, x, rfl, _⟩ := h; rfl) (fun cdv A outer s H vs Q E hr h => ?_)
  exact ⟨_, pss_one (ps_ost (pv 0) (pv 1)), ini_reading T no h⟩
end
/-! ### the end: what the top has written -/
theorem kit_ref {K : PySem.W.Frag} {C E : Addr} {b : Bool} (ic : PySem.W.isClsIn K E = true) (ty : PySem.W.typeIn K (.ref E) = some (.type "type")) (s : PySem.W.subIn K (.ref C) (.ref E) = some b) (self : PySem.W.subIn K (.ref C) (.ref C) = some true) : PySem.W.kitOne K (.ref C) (.ref E) = some b := by
  have e2 : ((PySem.W.clsIn K E).isSome && PySem.W.typeIn K (.ref E) == some (.type "type")) = true := by
    have ic' : (PySem.W.clsIn K E).isSome = true := ic
    rw [ic', ty] <;> rfl
  show (if (Value.ref C == Value.ref E) = true then some true else (if ((PySem.W.clsIn K E).isSome && PySem.W.typeIn K (.ref E) == some (.type "type")) = true then PySem.W.subIn K (.ref C) (.ref E) else none)) = some b
  by_cases h : (Value.ref C == Value.ref E) = true
  · rw [if_pos h]
    have e : C = E := Value.ref.inj (beq_iff_eq.mp h)
    rw [← e, self] at s
    exact s
  · rw [if_neg h, if_pos e2]
    exact s
theorem exm_two {K : PySem.W.Frag} {C x y : Value} (h1 : PySem.W.exmOne K C x = some true) (h2 : PySem.W.exmOne K C y = some false) : PySem.W.exmAny K C [x, y] = some true := by
  unfold PySem.W.exmAny
  rw [h1]
  unfold PySem.W.exmAny
  rw [h2]
  rfl
def tabsOf (cs : List (Addr × Addr)) : List (Addr × Str) := match cs with
  | [p, q] => [(p.2, lamQ "_law_right" (defScope sRI)), (q.2, lamQ "_law_stands_right" (defScope sST))]
  | _ => []
theorem tabs_new {H : Hp} {cs : List (Addr × Addr)} (h : ∀ p ∈ cs, H p.2 = some (.tbl #[])) : Tabs (tabsOf cs) H := by
  have one : ∀ p ∈ cs, ∀ q : Str, ∃ ps : Array Value, H p.2 = some (.tbl ps) ∧ TriplesOk ps.toList ∧ ∀ pos cv, codeAmong pos ps.toList = some cv → ∃ c, cv = .ref c ∧ H c = some (CodeO c q) := fun p hp q => ⟨#[], h p hp, trivial, fun pos cv z => by cases z⟩
  intro x hx
  unfold tabsOf at hx
  split at hx
  · rename_i p q
    simp only [List.mem_cons, List.not_mem_nil, or_false] at hx
    rcases hx with rfl | rfl
    · exact one p (by simp) _
    · exact one q (by simp) _
  · cases hx
theorem all_mk {l : PySem.W.OpenLaw} {w : World} {K : PySem.W.Frag} {h : Heap} {mg : Str → Option Value} {fa pT cRI cST c_seat c_great c_house c_stand c_choices c_band c_number c_paper i_H i_S i_B f_mixed f_folded f_draw f_begun f_whole f_tup f_word f_sides f_way f_seatf f_NB f_CT f_NH f_HR f_IS f_NS f_BA f_like f_OF f_TE f_WY f_HO f_FS f_LI f_RN f_OD f_HE f_II f_BE f_IW f_IE f_WR f_BW f_RI f_ST f_HA f_law : Addr} {ts : List Addr} (X : K.In h) (G : h.Ns mainGlobals mg) (hfa : mg "law" = some (.ref fa))
    {nmH qH : Str} {NH : Addr} {bsH : List Value} {snH : List Str} {subH : List Value} {abH : Bool} {colH : Option Bool} {ddH : Option Addr} {m0H m1H m2H m3H m5H : Option Value}
    {odH anH : Option Addr} {slH : Array (Option Value)} {ocH kVH dcH pmH cdH ctH : Value}
    {nmS qS : Str} {NS : Addr} {bsS : List Value} {snS : List Str} {subS : List Value} {abS : Bool} {colS : Option Bool} {ddS : Option Addr} {m0S m1S m2S m3S m5S : Option Value}
    {odS anS : Option Addr} {slS : Array (Option Value)} {ocS kVS dcS pmS cdS ctS : Value}
    {nmB qB : Str} {NB : Addr} {bsB : List Value} {snB : List Str} {subB : List Value} {abB : Bool} {colB : Option Bool} {ddB : Option Addr} {m0B m1B m2B m3B m5B : Option Value}
    {odB anB : Option Addr} {slB : Array (Option Value)} {ocB kVB dcB pmB cdB ctB : Value}
    {t_MOST_WARDS : Tok}
    {t_MOST_BODIES : Tok}
    {t_MOST_SEATS : Tok}
    {t_MOST_TERM : Tok}
    {t_MOST_ROUND : Tok}
    {t_MOST_GAP : Tok}
    {ta tb tk : Tok} {nT : Nat} {odT : Option Addr} {slT : Array (Option Value)}
    {od_mixed an_mixed : Option Addr} {sl_mixed : Array (Option Value)} {oc_mixed kV_mixed dc_mixed pm_mixed ct_mixed : Value} {cd_mixed : Value}
    {od_folded an_folded : Option Addr} {sl_folded : Array (Option Value)} {oc_folded kV_folded dc_folded pm_folded ct_folded : Value} {cd_folded : Value}
    {od_draw an_draw : Option Addr} {sl_draw : Array (Option Value)} {oc_draw kV_draw dc_draw pm_draw ct_draw : Value} {cd_draw : Value}
    {od_begun an_begun : Option Addr} {sl_begun : Array (Option Value)} {oc_begun kV_begun dc_begun pm_begun ct_begun : Value} {cd_begun : Value}
    {od_whole an_whole : Option Addr} {sl_whole : Array (Option Value)} {oc_whole kV_whole dc_whole pm_whole ct_whole : Value} {cd_whole : Value}
    {od_tup an_tup : Option Addr} {sl_tup : Array (Option Value)} {oc_tup kV_tup dc_tup pm_tup ct_tup : Value} {cd_tup : Value}
    {od_word an_word : Option Addr} {sl_word : Array (Option Value)} {oc_word kV_word dc_word pm_word ct_word : Value} {cd_word : Value}
    {od_sides an_sides : Option Addr} {sl_sides : Array (Option Value)} {oc_sides kV_sides dc_sides pm_sides ct_sides : Value} {cd_sides : Value}
    {od_way an_way : Option Addr} {sl_way : Array (Option Value)} {oc_way kV_way dc_way pm_way ct_way : Value} {cd_way : Value}
    {od_seatf an_seatf : Option Addr} {sl_seatf : Array (Option Value)} {oc_seatf kV_seatf dc_seatf pm_seatf ct_seatf : Value} {cd_seatf : Value}
    {od_NB an_NB : Option Addr} {sl_NB : Array (Option Value)} {oc_NB kV_NB dc_NB pm_NB ct_NB : Value} {cd_NB : Value}
    {od_CT an_CT : Option Addr} {sl_CT : Array (Option Value)} {oc_CT kV_CT dc_CT pm_CT ct_CT : Value} {cd_CT : Value}
    {od_NH an_NH : Option Addr} {sl_NH : Array (Option Value)} {oc_NH kV_NH dc_NH pm_NH ct_NH : Value} {cd_NH : Value}
    {od_HR an_HR : Option Addr} {sl_HR : Array (Option Value)} {oc_HR kV_HR dc_HR pm_HR ct_HR : Value} {cd_HR : Value}
    {od_IS an_IS : Option Addr} {sl_IS : Array (Option Value)} {oc_IS kV_IS dc_IS pm_IS ct_IS : Value} {cd_IS : Value}
    {od_NS an_NS : Option Addr} {sl_NS : Array (Option Value)} {oc_NS kV_NS dc_NS pm_NS ct_NS : Value} {cd_NS : Value}
    {od_BA an_BA : Option Addr} {sl_BA : Array (Option Value)} {oc_BA kV_BA dc_BA pm_BA ct_BA : Value} {cd_BA : Value}
    {od_like an_like : Option Addr} {sl_like : Array (Option Value)} {oc_like kV_like dc_like pm_like ct_like : Value} {cd_like : Value}
    {od_OF an_OF : Option Addr} {sl_OF : Array (Option Value)} {oc_OF kV_OF dc_OF pm_OF ct_OF : Value} {cd_OF : Value}
    {od_TE an_TE : Option Addr} {sl_TE : Array (Option Value)} {oc_TE kV_TE dc_TE pm_TE ct_TE : Value} {cd_TE : Value}
    {od_WY an_WY : Option Addr} {sl_WY : Array (Option Value)} {oc_WY kV_WY dc_WY pm_WY ct_WY : Value} {cd_WY : Value}
    {od_HO an_HO : Option Addr} {sl_HO : Array (Option Value)} {oc_HO kV_HO dc_HO pm_HO ct_HO : Value} {cd_HO : Value}
    {od_FS an_FS : Option Addr} {sl_FS : Array (Option Value)} {oc_FS kV_FS dc_FS pm_FS ct_FS : Value} {cd_FS : Value}
    {od_LI an_LI : Option Addr} {sl_LI : Array (Option Value)} {oc_LI kV_LI dc_LI pm_LI ct_LI : Value} {cd_LI : Value}
    {od_RN an_RN : Option Addr} {sl_RN : Array (Option Value)} {oc_RN kV_RN dc_RN pm_RN ct_RN : Value} {cd_RN : Value}
    {od_OD an_OD : Option Addr} {sl_OD : Array (Option Value)} {oc_OD kV_OD dc_OD pm_OD ct_OD : Value} {cd_OD : Value}
    {od_HE an_HE : Option Addr} {sl_HE : Array (Option Value)} {oc_HE kV_HE dc_HE pm_HE ct_HE : Value} {cd_HE : Value}
    {od_II an_II : Option Addr} {sl_II : Array (Option Value)} {oc_II kV_II dc_II pm_II ct_II : Value} {cd_II : Value}
    {od_BE an_BE : Option Addr} {sl_BE : Array (Option Value)} {oc_BE kV_BE dc_BE pm_BE ct_BE : Value} {cd_BE : Value}
    {od_IW an_IW : Option Addr} {sl_IW : Array (Option Value)} {oc_IW kV_IW dc_IW pm_IW ct_IW : Value} {cd_IW : Value}
    {od_IE an_IE : Option Addr} {sl_IE : Array (Option Value)} {oc_IE kV_IE dc_IE pm_IE ct_IE : Value} {cd_IE : Value}
    {od_WR an_WR : Option Addr} {sl_WR : Array (Option Value)} {oc_WR kV_WR dc_WR pm_WR ct_WR : Value} {cd_WR : Value}
    {od_BW an_BW : Option Addr} {sl_BW : Array (Option Value)} {oc_BW kV_BW dc_BW pm_BW ct_BW : Value} {cd_BW : Value}
    {od_RI an_RI : Option Addr} {sl_RI : Array (Option Value)} {oc_RI kV_RI dc_RI pm_RI ct_RI : Value}
    {od_ST an_ST : Option Addr} {sl_ST : Array (Option Value)} {oc_ST kV_ST dc_ST pm_ST ct_ST : Value}
    {od_HA an_HA : Option Addr} {sl_HA : Array (Option Value)} {oc_HA kV_HA dc_HA pm_HA ct_HA : Value} {cd_HA : Value}
    {od_law an_law : Option Addr} {sl_law : Array (Option Value)} {oc_law kV_law dc_law pm_law ct_law : Value} {cd_law : Value}
    (a_seat : PySem.W.nsIn K mainGlobals "SeatError" = some (some (.ref c_seat)))
    (ic_seat : PySem.W.isClsIn K c_seat = true)
    (ty_seat : PySem.W.typeIn K (.ref c_seat) = some (.type "type"))
    (a_great : PySem.W.nsIn K mainGlobals "TooGreat" = some (some (.ref c_great)))
    (ic_great : PySem.W.isClsIn K c_great = true)
    (ty_great : PySem.W.typeIn K (.ref c_great) = some (.type "type"))
    (a_house : PySem.W.nsIn K mainGlobals "BadHouse" = some (some (.ref c_house)))
    (ic_house : PySem.W.isClsIn K c_house = true)
    (ty_house : PySem.W.typeIn K (.ref c_house) = some (.type "type"))
    (a_stand : PySem.W.nsIn K mainGlobals "BadStand" = some (some (.ref c_stand)))
    (ic_stand : PySem.W.isClsIn K c_stand = true)
    (ty_stand : PySem.W.typeIn K (.ref c_stand) = some (.type "type"))
    (a_choices : PySem.W.nsIn K mainGlobals "BadChoices" = some (some (.ref c_choices)))
    (ic_choices : PySem.W.isClsIn K c_choices = true)
    (ty_choices : PySem.W.typeIn K (.ref c_choices) = some (.type "type"))
    (a_band : PySem.W.nsIn K mainGlobals "BadBand" = some (some (.ref c_band)))
    (ic_band : PySem.W.isClsIn K c_band = true)
    (ty_band : PySem.W.typeIn K (.ref c_band) = some (.type "type"))
    (a_number : PySem.W.nsIn K mainGlobals "BadNumber" = some (some (.ref c_number)))
    (ic_number : PySem.W.isClsIn K c_number = true)
    (ty_number : PySem.W.typeIn K (.ref c_number) = some (.type "type"))
    (a_paper : PySem.W.nsIn K mainGlobals "BadPaper" = some (some (.ref c_paper)))
    (ic_paper : PySem.W.isClsIn K c_paper = true)
    (ty_paper : PySem.W.typeIn K (.ref c_paper) = some (.type "type"))
    (eB_seat : PySem.W.subIn K (.ref c_seat) (.type "BaseException") = some true)
    (hdB_seat : PySem.W.hasDictIn K c_seat = true)
    (eB_great : PySem.W.subIn K (.ref c_great) (.type "BaseException") = some true)
    (hdB_great : PySem.W.hasDictIn K c_great = true)
    (hn : PySem.W.specialIn K (.builtin "object.__class__") "__get__" = some (some (.builtin "getset_descriptor.__get__")))
    (ht : PySem.W.takesIn K (.builtin "object.__class__") = some true)
    (xLH : K.lookup c_house = some (excClassObj nmH qH c_house NH bsH [.ref c_seat, .type "ValueError", .type "Exception", .type "BaseException", .type "object"] true snH subH abH colH ddH m0H m1H m2H m3H m5H "ValueError.__new__"))
    (saH : PySem.W.findIn K (.ref c_house) "__setattr__" = some (some (.builtin "object.__setattr__")))
    (eCH : PySem.W.subIn K (.ref c_house) (.type "BaseException") = some true)
    (kCH : PySem.W.keepIn K (.ref c_house) = true)
    (hgH : PySem.W.findIn K (.ref c_house) "__getattribute__" = some (some (.builtin "BaseException.__getattribute__")))
    (hkH : PySem.W.findIn K (.ref c_house) "__getattr__" = some none)
    (hdH : PySem.W.hasDictIn K c_house = true)
    (haH : PySem.W.findIn K (.ref c_house) "__class__" = some (some (.builtin "object.__class__")))
    (hmH : PySem.W.mroIn K c_house (.type "object") = some true)
    (noH : PySem.W.findIn K (.ref c_house) "place" = some none)
    (iCH : PySem.W.findIn K (.ref c_house) "__init__" = some (some (.ref i_H)))
    (tIH : PySem.W.typeIn K (.ref i_H) = some (.type "function"))
    (lH : K.lookup i_H = some ⟨ocH, odH, .func (PySem.W.fnOf "__init__" "BadHouse.__init__" (defArgs sIniH) (defBody sIniH) (defScope sIniH) .none kVH dcH pmH anH cdH ctH), slH⟩)
    (cd_H : PySem.W.codeIn K cdH "BadHouse.__init__" = true)
    (kIH : PySem.W.keepIn K (.ref i_H) = true)
    (sH_seat : PySem.W.subIn K (.ref c_house) (.ref c_seat) = some true)
    (sH_great : PySem.W.subIn K (.ref c_house) (.ref c_great) = some false)
    (sH_house : PySem.W.subIn K (.ref c_house) (.ref c_house) = some true)
    (sH_stand : PySem.W.subIn K (.ref c_house) (.ref c_stand) = some false)
    (sH_choices : PySem.W.subIn K (.ref c_house) (.ref c_choices) = some false)
    (sH_band : PySem.W.subIn K (.ref c_house) (.ref c_band) = some false)
    (sH_number : PySem.W.subIn K (.ref c_house) (.ref c_number) = some false)
    (sH_paper : PySem.W.subIn K (.ref c_house) (.ref c_paper) = some false)
    (xLS : K.lookup c_stand = some (excClassObj nmS qS c_stand NS bsS [.ref c_seat, .type "ValueError", .type "Exception", .type "BaseException", .type "object"] true snS subS abS colS ddS m0S m1S m2S m3S m5S "ValueError.__new__"))
    (saS : PySem.W.findIn K (.ref c_stand) "__setattr__" = some (some (.builtin "object.__setattr__")))
    (eCS : PySem.W.subIn K (.ref c_stand) (.type "BaseException") = some true)
    (kCS : PySem.W.keepIn K (.ref c_stand) = true)
    (hgS : PySem.W.findIn K (.ref c_stand) "__getattribute__" = some (some (.builtin "BaseException.__getattribute__")))
    (hkS : PySem.W.findIn K (.ref c_stand) "__getattr__" = some none)
    (hdS : PySem.W.hasDictIn K c_stand = true)
    (haS : PySem.W.findIn K (.ref c_stand) "__class__" = some (some (.builtin "object.__class__")))
    (hmS : PySem.W.mroIn K c_stand (.type "object") = some true)
    (noS : PySem.W.findIn K (.ref c_stand) "value" = some none)
    (iCS : PySem.W.findIn K (.ref c_stand) "__init__" = some (some (.ref i_S)))
    (tIS : PySem.W.typeIn K (.ref i_S) = some (.type "function"))
    (lS : K.lookup i_S = some ⟨ocS, odS, .func (PySem.W.fnOf "__init__" "BadStand.__init__" (defArgs sIniS) (defBody sIniS) (defScope sIniS) .none kVS dcS pmS anS cdS ctS), slS⟩)
    (cd_S : PySem.W.codeIn K cdS "BadStand.__init__" = true)
    (kIS : PySem.W.keepIn K (.ref i_S) = true)
    (sS_seat : PySem.W.subIn K (.ref c_stand) (.ref c_seat) = some true)
    (sS_great : PySem.W.subIn K (.ref c_stand) (.ref c_great) = some false)
    (sS_house : PySem.W.subIn K (.ref c_stand) (.ref c_house) = some false)
    (sS_stand : PySem.W.subIn K (.ref c_stand) (.ref c_stand) = some true)
    (sS_choices : PySem.W.subIn K (.ref c_stand) (.ref c_choices) = some false)
    (sS_band : PySem.W.subIn K (.ref c_stand) (.ref c_band) = some false)
    (sS_number : PySem.W.subIn K (.ref c_stand) (.ref c_number) = some false)
    (sS_paper : PySem.W.subIn K (.ref c_stand) (.ref c_paper) = some false)
    (xLB : K.lookup c_band = some (excClassObj nmB qB c_band NB bsB [.ref c_seat, .type "ValueError", .type "Exception", .type "BaseException", .type "object"] true snB subB abB colB ddB m0B m1B m2B m3B m5B "ValueError.__new__"))
    (saB : PySem.W.findIn K (.ref c_band) "__setattr__" = some (some (.builtin "object.__setattr__")))
    (eCB : PySem.W.subIn K (.ref c_band) (.type "BaseException") = some true)
    (kCB : PySem.W.keepIn K (.ref c_band) = true)
    (hgB : PySem.W.findIn K (.ref c_band) "__getattribute__" = some (some (.builtin "BaseException.__getattribute__")))
    (hkB : PySem.W.findIn K (.ref c_band) "__getattr__" = some none)
    (hdB : PySem.W.hasDictIn K c_band = true)
    (haB : PySem.W.findIn K (.ref c_band) "__class__" = some (some (.builtin "object.__class__")))
    (hmB : PySem.W.mroIn K c_band (.type "object") = some true)
    (noB : PySem.W.findIn K (.ref c_band) "part" = some none)
    (iCB : PySem.W.findIn K (.ref c_band) "__init__" = some (some (.ref i_B)))
    (tIB : PySem.W.typeIn K (.ref i_B) = some (.type "function"))
    (lB : K.lookup i_B = some ⟨ocB, odB, .func (PySem.W.fnOf "__init__" "BadBand.__init__" (defArgs sIniB) (defBody sIniB) (defScope sIniB) .none kVB dcB pmB anB cdB ctB), slB⟩)
    (cd_B : PySem.W.codeIn K cdB "BadBand.__init__" = true)
    (kIB : PySem.W.keepIn K (.ref i_B) = true)
    (sB_seat : PySem.W.subIn K (.ref c_band) (.ref c_seat) = some true)
    (sB_great : PySem.W.subIn K (.ref c_band) (.ref c_great) = some false)
    (sB_house : PySem.W.subIn K (.ref c_band) (.ref c_house) = some false)
    (sB_stand : PySem.W.subIn K (.ref c_band) (.ref c_stand) = some false)
    (sB_choices : PySem.W.subIn K (.ref c_band) (.ref c_choices) = some false)
    (sB_band : PySem.W.subIn K (.ref c_band) (.ref c_band) = some true)
    (sB_number : PySem.W.subIn K (.ref c_band) (.ref c_number) = some false)
    (sB_paper : PySem.W.subIn K (.ref c_band) (.ref c_paper) = some false)
    (a_MOST_WARDS : PySem.W.nsIn K mainGlobals "MOST_WARDS" = some (some (.int 4 t_MOST_WARDS)))
    (a_MOST_BODIES : PySem.W.nsIn K mainGlobals "MOST_BODIES" = some (some (.int 3 t_MOST_BODIES)))
    (a_MOST_SEATS : PySem.W.nsIn K mainGlobals "MOST_SEATS" = some (some (.int 9 t_MOST_SEATS)))
    (a_MOST_TERM : PySem.W.nsIn K mainGlobals "MOST_TERM" = some (some (.int 6 t_MOST_TERM)))
    (a_MOST_ROUND : PySem.W.nsIn K mainGlobals "MOST_ROUND" = some (some (.int 12 t_MOST_ROUND)))
    (a_MOST_GAP : PySem.W.nsIn K mainGlobals "MOST_GAP" = some (some (.int 4 t_MOST_GAP)))
    (a_TIES : PySem.W.nsIn K mainGlobals "TIES" = some (some (.ref pT)))
    (x_TIES : K.lookup pT = some ⟨.type "tuple", odT, .seq #[.str "a" ta, .str "b" tb, .str "kept" tk] nT, slT⟩)
    (a_lcm : PySem.W.nsIn K mainGlobals "lcm" = some (some (.builtin "math.lcm")))
    (a_mixed : PySem.W.nsIn K mainGlobals "_law_mixed" = some (some (.ref f_mixed)))
    (l_mixed : K.lookup f_mixed = some ⟨oc_mixed, od_mixed, .func (PySem.W.fnOf "_law_mixed" "_law_mixed" (defArgs sMixed) (defBody sMixed) (defScope sMixed) .none kV_mixed dc_mixed pm_mixed an_mixed cd_mixed ct_mixed), sl_mixed⟩)
    (cd_of_mixed : PySem.W.codeIn K cd_mixed "_law_mixed" = true)
    (k_mixed : PySem.W.keepIn K (.ref f_mixed) = true)
    (a_folded : PySem.W.nsIn K mainGlobals "_law_folded" = some (some (.ref f_folded)))
    (l_folded : K.lookup f_folded = some ⟨oc_folded, od_folded, .func (PySem.W.fnOf "_law_folded" "_law_folded" (defArgs sFolded) (defBody sFolded) (defScope sFolded) .none kV_folded dc_folded pm_folded an_folded cd_folded ct_folded), sl_folded⟩)
    (cd_of_folded : PySem.W.codeIn K cd_folded "_law_folded" = true)
    (k_folded : PySem.W.keepIn K (.ref f_folded) = true)
    (a_draw : PySem.W.nsIn K mainGlobals "_law_draw" = some (some (.ref f_draw)))
    (l_draw : K.lookup f_draw = some ⟨oc_draw, od_draw, .func (PySem.W.fnOf "_law_draw" "_law_draw" (defArgs sDraw) (defBody sDraw) (defScope sDraw) .none kV_draw dc_draw pm_draw an_draw cd_draw ct_draw), sl_draw⟩)
    (cd_of_draw : PySem.W.codeIn K cd_draw "_law_draw" = true)
    (k_draw : PySem.W.keepIn K (.ref f_draw) = true)
    (a_begun : PySem.W.nsIn K mainGlobals "_law_begun" = some (some (.ref f_begun)))
    (l_begun : K.lookup f_begun = some ⟨oc_begun, od_begun, .func (PySem.W.fnOf "_law_begun" "_law_begun" (defArgs sBegun) (defBody sBegun) (defScope sBegun) .none kV_begun dc_begun pm_begun an_begun cd_begun ct_begun), sl_begun⟩)
    (cd_of_begun : PySem.W.codeIn K cd_begun "_law_begun" = true)
    (k_begun : PySem.W.keepIn K (.ref f_begun) = true)
    (a_whole : PySem.W.nsIn K mainGlobals "is_whole" = some (some (.ref f_whole)))
    (l_whole : K.lookup f_whole = some ⟨oc_whole, od_whole, .func (PySem.W.fnOf "is_whole" "is_whole" (defArgs sWhole) (defBody sWhole) (defScope sWhole) .none kV_whole dc_whole pm_whole an_whole cd_whole ct_whole), sl_whole⟩)
    (cd_of_whole : PySem.W.codeIn K cd_whole "is_whole" = true)
    (k_whole : PySem.W.keepIn K (.ref f_whole) = true)
    (a_tup : PySem.W.nsIn K mainGlobals "is_tuple" = some (some (.ref f_tup)))
    (l_tup : K.lookup f_tup = some ⟨oc_tup, od_tup, .func (PySem.W.fnOf "is_tuple" "is_tuple" (defArgs sTup) (defBody sTup) (defScope sTup) .none kV_tup dc_tup pm_tup an_tup cd_tup ct_tup), sl_tup⟩)
    (cd_of_tup : PySem.W.codeIn K cd_tup "is_tuple" = true)
    (k_tup : PySem.W.keepIn K (.ref f_tup) = true)
    (a_word : PySem.W.nsIn K mainGlobals "is_word" = some (some (.ref f_word)))
    (l_word : K.lookup f_word = some ⟨oc_word, od_word, .func (PySem.W.fnOf "is_word" "is_word" (defArgs sWord) (defBody sWord) (defScope sWord) .none kV_word dc_word pm_word an_word cd_word ct_word), sl_word⟩)
    (cd_of_word : PySem.W.codeIn K cd_word "is_word" = true)
    (k_word : PySem.W.keepIn K (.ref f_word) = true)
    (a_sides : PySem.W.nsIn K mainGlobals "is_sides" = some (some (.ref f_sides)))
    (l_sides : K.lookup f_sides = some ⟨oc_sides, od_sides, .func (PySem.W.fnOf "is_sides" "is_sides" (defArgs sSides) (defBody sSides) (defScope sSides) .none kV_sides dc_sides pm_sides an_sides cd_sides ct_sides), sl_sides⟩)
    (cd_of_sides : PySem.W.codeIn K cd_sides "is_sides" = true)
    (k_sides : PySem.W.keepIn K (.ref f_sides) = true)
    (a_way : PySem.W.nsIn K mainGlobals "is_way" = some (some (.ref f_way)))
    (l_way : K.lookup f_way = some ⟨oc_way, od_way, .func (PySem.W.fnOf "is_way" "is_way" (defArgs sWay) (defBody sWay) (defScope sWay) .none kV_way dc_way pm_way an_way cd_way ct_way), sl_way⟩)
    (cd_of_way : PySem.W.codeIn K cd_way "is_way" = true)
    (k_way : PySem.W.keepIn K (.ref f_way) = true)
    (a_seatf : PySem.W.nsIn K mainGlobals "is_seat" = some (some (.ref f_seatf)))
    (l_seatf : K.lookup f_seatf = some ⟨oc_seatf, od_seatf, .func (PySem.W.fnOf "is_seat" "is_seat" (defArgs sSeat) (defBody sSeat) (defScope sSeat) .none kV_seatf dc_seatf pm_seatf an_seatf cd_seatf ct_seatf), sl_seatf⟩)
    (cd_of_seatf : PySem.W.codeIn K cd_seatf "is_seat" = true)
    (k_seatf : PySem.W.keepIn K (.ref f_seatf) = true)
    (a_NB : PySem.W.nsIn K mainGlobals "_need_seats" = some (some (.ref f_NB)))
    (l_NB : K.lookup f_NB = some ⟨oc_NB, od_NB, .func (PySem.W.fnOf "_need_seats" "_need_seats" (defArgs sNB) (defBody sNB) (defScope sNB) .none kV_NB dc_NB pm_NB an_NB cd_NB ct_NB), sl_NB⟩)
    (cd_of_NB : PySem.W.codeIn K cd_NB "_need_seats" = true)
    (k_NB : PySem.W.keepIn K (.ref f_NB) = true)
    (a_CT : PySem.W.nsIn K mainGlobals "common_term" = some (some (.ref f_CT)))
    (l_CT : K.lookup f_CT = some ⟨oc_CT, od_CT, .func (PySem.W.fnOf "common_term" "common_term" (defArgs sCT) (defBody sCT) (defScope sCT) .none kV_CT dc_CT pm_CT an_CT cd_CT ct_CT), sl_CT⟩)
    (cd_of_CT : PySem.W.codeIn K cd_CT "common_term" = true)
    (k_CT : PySem.W.keepIn K (.ref f_CT) = true)
    (a_NH : PySem.W.nsIn K mainGlobals "need_house" = some (some (.ref f_NH)))
    (l_NH : K.lookup f_NH = some ⟨oc_NH, od_NH, .func (PySem.W.fnOf "need_house" "need_house" (defArgs sNH) (defBody sNH) (defScope sNH) .none kV_NH dc_NH pm_NH an_NH cd_NH ct_NH), sl_NH⟩)
    (cd_of_NH : PySem.W.codeIn K cd_NH "need_house" = true)
    (k_NH : PySem.W.keepIn K (.ref f_NH) = true)
    (a_HR : PySem.W.nsIn K mainGlobals "house_round" = some (some (.ref f_HR)))
    (l_HR : K.lookup f_HR = some ⟨oc_HR, od_HR, .func (PySem.W.fnOf "house_round" "house_round" (defArgs sHR) (defBody sHR) (defScope sHR) .none kV_HR dc_HR pm_HR an_HR cd_HR ct_HR), sl_HR⟩)
    (cd_of_HR : PySem.W.codeIn K cd_HR "house_round" = true)
    (k_HR : PySem.W.keepIn K (.ref f_HR) = true)
    (a_IS : PySem.W.nsIn K mainGlobals "is_stand" = some (some (.ref f_IS)))
    (l_IS : K.lookup f_IS = some ⟨oc_IS, od_IS, .func (PySem.W.fnOf "is_stand" "is_stand" (defArgs sIS) (defBody sIS) (defScope sIS) .none kV_IS dc_IS pm_IS an_IS cd_IS ct_IS), sl_IS⟩)
    (cd_of_IS : PySem.W.codeIn K cd_IS "is_stand" = true)
    (k_IS : PySem.W.keepIn K (.ref f_IS) = true)
    (a_NS : PySem.W.nsIn K mainGlobals "need_stand" = some (some (.ref f_NS)))
    (l_NS : K.lookup f_NS = some ⟨oc_NS, od_NS, .func (PySem.W.fnOf "need_stand" "need_stand" (defArgs sNS) (defBody sNS) (defScope sNS) .none kV_NS dc_NS pm_NS an_NS cd_NS ct_NS), sl_NS⟩)
    (cd_of_NS : PySem.W.codeIn K cd_NS "need_stand" = true)
    (k_NS : PySem.W.keepIn K (.ref f_NS) = true)
    (a_BA : PySem.W.nsIn K mainGlobals "need_band" = some (some (.ref f_BA)))
    (l_BA : K.lookup f_BA = some ⟨oc_BA, od_BA, .func (PySem.W.fnOf "need_band" "need_band" (defArgs sBA) (defBody sBA) (defScope sBA) .none kV_BA dc_BA pm_BA an_BA cd_BA ct_BA), sl_BA⟩)
    (cd_of_BA : PySem.W.codeIn K cd_BA "need_band" = true)
    (k_BA : PySem.W.keepIn K (.ref f_BA) = true)
    (a_like : PySem.W.nsIn K mainGlobals "_law_like" = some (some (.ref f_like)))
    (l_like : K.lookup f_like = some ⟨oc_like, od_like, .func (PySem.W.fnOf "_law_like" "_law_like" (defArgs sLike) (defBody sLike) (defScope sLike) .none kV_like dc_like pm_like an_like cd_like ct_like), sl_like⟩)
    (cd_of_like : PySem.W.codeIn K cd_like "_law_like" = true)
    (k_like : PySem.W.keepIn K (.ref f_like) = true)
    (a_OF : PySem.W.nsIn K mainGlobals "_law_of" = some (some (.ref f_OF)))
    (l_OF : K.lookup f_OF = some ⟨oc_OF, od_OF, .func (PySem.W.fnOf "_law_of" "_law_of" (defArgs sOF) (defBody sOF) (defScope sOF) .none kV_OF dc_OF pm_OF an_OF cd_OF ct_OF), sl_OF⟩)
    (cd_of_OF : PySem.W.codeIn K cd_OF "_law_of" = true)
    (k_OF : PySem.W.keepIn K (.ref f_OF) = true)
    (a_TE : PySem.W.nsIn K mainGlobals "_law_terms" = some (some (.ref f_TE)))
    (l_TE : K.lookup f_TE = some ⟨oc_TE, od_TE, .func (PySem.W.fnOf "_law_terms" "_law_terms" (defArgs sTE) (defBody sTE) (defScope sTE) .none kV_TE dc_TE pm_TE an_TE cd_TE ct_TE), sl_TE⟩)
    (cd_of_TE : PySem.W.codeIn K cd_TE "_law_terms" = true)
    (k_TE : PySem.W.keepIn K (.ref f_TE) = true)
    (a_WY : PySem.W.nsIn K mainGlobals "_law_way" = some (some (.ref f_WY)))
    (l_WY : K.lookup f_WY = some ⟨oc_WY, od_WY, .func (PySem.W.fnOf "_law_way" "_law_way" (defArgs sWY) (defBody sWY) (defScope sWY) .none kV_WY dc_WY pm_WY an_WY cd_WY ct_WY), sl_WY⟩)
    (cd_of_WY : PySem.W.codeIn K cd_WY "_law_way" = true)
    (k_WY : PySem.W.keepIn K (.ref f_WY) = true)
    (a_HO : PySem.W.nsIn K mainGlobals "_law_home" = some (some (.ref f_HO)))
    (l_HO : K.lookup f_HO = some ⟨oc_HO, od_HO, .func (PySem.W.fnOf "_law_home" "_law_home" (defArgs sHO) (defBody sHO) (defScope sHO) .none kV_HO dc_HO pm_HO an_HO cd_HO ct_HO), sl_HO⟩)
    (cd_of_HO : PySem.W.codeIn K cd_HO "_law_home" = true)
    (k_HO : PySem.W.keepIn K (.ref f_HO) = true)
    (a_FS : PySem.W.nsIn K mainGlobals "_law_first" = some (some (.ref f_FS)))
    (l_FS : K.lookup f_FS = some ⟨oc_FS, od_FS, .func (PySem.W.fnOf "_law_first" "_law_first" (defArgs sFS) (defBody sFS) (defScope sFS) .none kV_FS dc_FS pm_FS an_FS cd_FS ct_FS), sl_FS⟩)
    (cd_of_FS : PySem.W.codeIn K cd_FS "_law_first" = true)
    (k_FS : PySem.W.keepIn K (.ref f_FS) = true)
    (a_LI : PySem.W.nsIn K mainGlobals "_law_limits" = some (some (.ref f_LI)))
    (l_LI : K.lookup f_LI = some ⟨oc_LI, od_LI, .func (PySem.W.fnOf "_law_limits" "_law_limits" (defArgs sLI) (defBody sLI) (defScope sLI) .none kV_LI dc_LI pm_LI an_LI cd_LI ct_LI), sl_LI⟩)
    (cd_of_LI : PySem.W.codeIn K cd_LI "_law_limits" = true)
    (k_LI : PySem.W.keepIn K (.ref f_LI) = true)
    (a_RN : PySem.W.nsIn K mainGlobals "_law_round" = some (some (.ref f_RN)))
    (l_RN : K.lookup f_RN = some ⟨oc_RN, od_RN, .func (PySem.W.fnOf "_law_round" "_law_round" (defArgs sRN) (defBody sRN) (defScope sRN) .none kV_RN dc_RN pm_RN an_RN cd_RN ct_RN), sl_RN⟩)
    (cd_of_RN : PySem.W.codeIn K cd_RN "_law_round" = true)
    (k_RN : PySem.W.keepIn K (.ref f_RN) = true)
    (a_OD : PySem.W.nsIn K mainGlobals "_law_odds" = some (some (.ref f_OD)))
    (l_OD : K.lookup f_OD = some ⟨oc_OD, od_OD, .func (PySem.W.fnOf "_law_odds" "_law_odds" (defArgs sOD) (defBody sOD) (defScope sOD) .none kV_OD dc_OD pm_OD an_OD cd_OD ct_OD), sl_OD⟩)
    (cd_of_OD : PySem.W.codeIn K cd_OD "_law_odds" = true)
    (k_OD : PySem.W.keepIn K (.ref f_OD) = true)
    (a_HE : PySem.W.nsIn K mainGlobals "_law_heard" = some (some (.ref f_HE)))
    (l_HE : K.lookup f_HE = some ⟨oc_HE, od_HE, .func (PySem.W.fnOf "_law_heard" "_law_heard" (defArgs sHE) (defBody sHE) (defScope sHE) .none kV_HE dc_HE pm_HE an_HE cd_HE ct_HE), sl_HE⟩)
    (cd_of_HE : PySem.W.codeIn K cd_HE "_law_heard" = true)
    (k_HE : PySem.W.keepIn K (.ref f_HE) = true)
    (a_II : PySem.W.nsIn K mainGlobals "_law_is_int" = some (some (.ref f_II)))
    (l_II : K.lookup f_II = some ⟨oc_II, od_II, .func (PySem.W.fnOf "_law_is_int" "_law_is_int" (defArgs sII) (defBody sII) (defScope sII) .none kV_II dc_II pm_II an_II cd_II ct_II), sl_II⟩)
    (cd_of_II : PySem.W.codeIn K cd_II "_law_is_int" = true)
    (k_II : PySem.W.keepIn K (.ref f_II) = true)
    (a_BE : PySem.W.nsIn K mainGlobals "_law_bent" = some (some (.ref f_BE)))
    (l_BE : K.lookup f_BE = some ⟨oc_BE, od_BE, .func (PySem.W.fnOf "_law_bent" "_law_bent" (defArgs sBE) (defBody sBE) (defScope sBE) .none kV_BE dc_BE pm_BE an_BE cd_BE ct_BE), sl_BE⟩)
    (cd_of_BE : PySem.W.codeIn K cd_BE "_law_bent" = true)
    (k_BE : PySem.W.keepIn K (.ref f_BE) = true)
    (a_IW : PySem.W.nsIn K mainGlobals "_law_is_way" = some (some (.ref f_IW)))
    (l_IW : K.lookup f_IW = some ⟨oc_IW, od_IW, .func (PySem.W.fnOf "_law_is_way" "_law_is_way" (defArgs sIW) (defBody sIW) (defScope sIW) .none kV_IW dc_IW pm_IW an_IW cd_IW ct_IW), sl_IW⟩)
    (cd_of_IW : PySem.W.codeIn K cd_IW "_law_is_way" = true)
    (k_IW : PySem.W.keepIn K (.ref f_IW) = true)
    (a_IE : PySem.W.nsIn K mainGlobals "_law_is_seat" = some (some (.ref f_IE)))
    (l_IE : K.lookup f_IE = some ⟨oc_IE, od_IE, .func (PySem.W.fnOf "_law_is_seat" "_law_is_seat" (defArgs sIE) (defBody sIE) (defScope sIE) .none kV_IE dc_IE pm_IE an_IE cd_IE ct_IE), sl_IE⟩)
    (cd_of_IE : PySem.W.codeIn K cd_IE "_law_is_seat" = true)
    (k_IE : PySem.W.keepIn K (.ref f_IE) = true)
    (a_WR : PySem.W.nsIn K mainGlobals "_law_wrong" = some (some (.ref f_WR)))
    (l_WR : K.lookup f_WR = some ⟨oc_WR, od_WR, .func (PySem.W.fnOf "_law_wrong" "_law_wrong" (defArgs sWR) (defBody sWR) (defScope sWR) .none kV_WR dc_WR pm_WR an_WR cd_WR ct_WR), sl_WR⟩)
    (cd_of_WR : PySem.W.codeIn K cd_WR "_law_wrong" = true)
    (k_WR : PySem.W.keepIn K (.ref f_WR) = true)
    (a_BW : PySem.W.nsIn K mainGlobals "_law_band_wrong" = some (some (.ref f_BW)))
    (l_BW : K.lookup f_BW = some ⟨oc_BW, od_BW, .func (PySem.W.fnOf "_law_band_wrong" "_law_band_wrong" (defArgs sBW) (defBody sBW) (defScope sBW) .none kV_BW dc_BW pm_BW an_BW cd_BW ct_BW), sl_BW⟩)
    (cd_of_BW : PySem.W.codeIn K cd_BW "_law_band_wrong" = true)
    (k_BW : PySem.W.keepIn K (.ref f_BW) = true)
    (a_RI : PySem.W.nsIn K mainGlobals "_law_right" = some (some (.ref f_RI)))
    (l_RI : K.lookup f_RI = some ⟨oc_RI, od_RI, .func (PySem.W.fnOf "_law_right" "_law_right" (defArgs sRI) (defBody sRI) (defScope sRI) .none kV_RI dc_RI pm_RI an_RI (.ref cRI) ct_RI), sl_RI⟩)
    (cd_of_RI : PySem.W.codeIn K (.ref cRI) "_law_right" = true)
    (k_RI : PySem.W.keepIn K (.ref f_RI) = true)
    (a_ST : PySem.W.nsIn K mainGlobals "_law_stands_right" = some (some (.ref f_ST)))
    (l_ST : K.lookup f_ST = some ⟨oc_ST, od_ST, .func (PySem.W.fnOf "_law_stands_right" "_law_stands_right" (defArgs sST) (defBody sST) (defScope sST) .none kV_ST dc_ST pm_ST an_ST (.ref cST) ct_ST), sl_ST⟩)
    (cd_of_ST : PySem.W.codeIn K (.ref cST) "_law_stands_right" = true)
    (k_ST : PySem.W.keepIn K (.ref f_ST) = true)
    (a_HA : PySem.W.nsIn K mainGlobals "_law_hand_right" = some (some (.ref f_HA)))
    (l_HA : K.lookup f_HA = some ⟨oc_HA, od_HA, .func (PySem.W.fnOf "_law_hand_right" "_law_hand_right" (defArgs sHA) (defBody sHA) (defScope sHA) .none kV_HA dc_HA pm_HA an_HA cd_HA ct_HA), sl_HA⟩)
    (cd_of_HA : PySem.W.codeIn K cd_HA "_law_hand_right" = true)
    (k_HA : PySem.W.keepIn K (.ref f_HA) = true)
    (a_law : PySem.W.nsIn K mainGlobals "law" = some (some (.ref f_law)))
    (l_law : K.lookup f_law = some ⟨oc_law, od_law, .func (PySem.W.fnOf "law" "law" (defArgs sLaw) (defBody sLaw) (defScope sLaw) .none kV_law dc_law pm_law an_law cd_law ct_law), sl_law⟩)
    (cd_of_law : PySem.W.codeIn K cd_law "law" = true)
    (k_law : PySem.W.keepIn K (.ref f_law) = true)
    (z_int : PySem.W.nsIn K mainGlobals "int" = some none)
    (z_len : PySem.W.nsIn K mainGlobals "len" = some none)
    (z_range : PySem.W.nsIn K mainGlobals "range" = some none)
    (z_enumerate : PySem.W.nsIn K mainGlobals "enumerate" = some none)
    (z_repr : PySem.W.nsIn K mainGlobals "repr" = some none)
    (z_isinstance : PySem.W.nsIn K mainGlobals "isinstance" = some none)
    (z_list : PySem.W.nsIn K mainGlobals "list" = some none)
    (z_bool : PySem.W.nsIn K mainGlobals "bool" = some none)
    (z_str : PySem.W.nsIn K mainGlobals "str" = some none)
    (z_tuple : PySem.W.nsIn K mainGlobals "tuple" = some none)
    (z_zip : PySem.W.nsIn K mainGlobals "zip" = some none)
    (z_sum : PySem.W.nsIn K mainGlobals "sum" = some none)
    (z_all : PySem.W.nsIn K mainGlobals "all" = some none)
    (x_RI : (ts.any fun P => PySem.W.codeHdIn K cRI P && (K.lookup P).isNone && !PySem.W.codeHdIn K cST P) = true)
    (x_ST : (ts.any fun P => PySem.W.codeHdIn K cST P && (K.lookup P).isNone) = true)
    : ∃ (fd : FuncData) (cs : List (Addr × Addr)), (∀ p ∈ cs, TabIn ts K p) ∧ (∀ (s : Shared) (v : Value), BindsTo s fd ⟨[v], []⟩ [("script", v)]) ∧
        ∀ base : Heap, K.In base → base.Ns mainGlobals mg → (∀ p ∈ cs, TabB base mg p.1 p.2) → FnG l.prog w K mg base CX0 12 fa fd ["script"] (spLaw K (tabsOf cs)) := by
  have e := hfa.symm.trans (PySem.W.mg_of X G a_law)
  cases e
  have B : Blt mg := ⟨PySem.W.mg_none_of X G z_int, PySem.W.mg_none_of X G z_len, PySem.W.mg_none_of X G z_range, PySem.W.mg_none_of X G z_enumerate, PySem.W.mg_none_of X G z_repr, PySem.W.mg_none_of X G z_isinstance, PySem.W.mg_none_of X G z_list⟩
  have Z : Blt2 mg := ⟨PySem.W.mg_none_of X G z_int, PySem.W.mg_none_of X G z_bool, PySem.W.mg_none_of X G z_str, PySem.W.mg_none_of X G z_tuple, PySem.W.mg_none_of X G z_list, PySem.W.mg_none_of X G z_zip, PySem.W.mg_none_of X G z_sum, PySem.W.mg_none_of X G z_all⟩
  have tis : Dt K (fun _ => none) (.ref pT) (.tup (tiesL.map D.str)) := .tup (xs := [.str "a", .str "b", .str "kept"]) (Or.inr ⟨_, _, _, x_TIES, rfl, rfl, sz1 (show 3 ≤ 100000 by decide), .cons ⟨_, rfl⟩ (.cons ⟨_, rfl⟩ (.cons ⟨_, rfl⟩ .nil))⟩) (.cons (.str _) (.cons (.str _) (.cons (.str _) .nil)))
  have C : CstH K mg pT := ⟨PySem.W.mg_of X G a_TIES, tis, ⟨_, PySem.W.mg_of X G a_MOST_WARDS⟩, ⟨_, PySem.W.mg_of X G a_MOST_BODIES⟩, ⟨_, PySem.W.mg_of X G a_MOST_SEATS⟩, ⟨_, PySem.W.mg_of X G a_MOST_TERM⟩, ⟨_, PySem.W.mg_of X G a_MOST_ROUND⟩, ⟨_, PySem.W.mg_of X G a_MOST_GAP⟩⟩
  have glcm := PySem.W.mg_of X G a_lcm
  let a : HA := ⟨c_seat, c_great, c_house, c_stand, c_choices, c_band, c_number, c_paper⟩
  have T : HN mg a := ⟨PySem.W.mg_of X G a_seat, PySem.W.mg_of X G a_great, PySem.W.mg_of X G a_house, PySem.W.mg_of X G a_stand, PySem.W.mg_of X G a_choices, PySem.W.mg_of X G a_band, PySem.W.mg_of X G a_number, PySem.W.mg_of X G a_paper⟩
  have oH : OexC K c_house := ⟨⟨_, _, _, _, _, _, _, _, _, _, _, _, _, _, _, xLH, rfl⟩, saH, eCH, ty_house, kCH⟩
  have xH : ExcC K c_house := ⟨hgH, hkH, eCH, hdH, haH, hn, ht, hmH⟩
  have RH : HRow K a c_house "place" "house" 1 := ⟨xH, exm_two (PySem.W.exm_ref eB_seat hdB_seat ty_seat sH_seat) (PySem.W.exm_ref eB_great hdB_great ty_great sH_great), kit_ref ic_great ty_great sH_great sH_house, kit_ref ic_house ty_house sH_house sH_house, kit_ref ic_stand ty_stand sH_stand sH_house, kit_ref ic_choices ty_choices sH_choices sH_house, kit_ref ic_band ty_band sH_band sH_house, kit_ref ic_number ty_number sH_number sH_house, kit_ref ic_paper ty_paper sH_paper sH_house, noH, rfl⟩
  have FH := fun_mk (st := sIniH) lH cd_H kIH
  have bH := FH.binds (ps := ["self", "place"]) fun _ _ _ _ _ _ us hl => match us, hl with | [_, _], _ => rfl
  have kwH : KwB (PySem.W.fnOf "__init__" "BadHouse.__init__" (defArgs sIniH) (defBody sIniH) (defScope sIniH) .none kVH dcH pmH anH cdH ctH) ["self", "place"] ["place"] id id := ⟨fun s self ws hl => match ws, hl with | [_], _ => .of_eq rfl, fun r => r⟩
  have oS : OexC K c_stand := ⟨⟨_, _, _, _, _, _, _, _, _, _, _, _, _, _, _, xLS, rfl⟩, saS, eCS, ty_stand, kCS⟩
  have xS : ExcC K c_stand := ⟨hgS, hkS, eCS, hdS, haS, hn, ht, hmS⟩
  have RS : HRow K a c_stand "value" "stand" 2 := ⟨xS, exm_two (PySem.W.exm_ref eB_seat hdB_seat ty_seat sS_seat) (PySem.W.exm_ref eB_great hdB_great ty_great sS_great), kit_ref ic_great ty_great sS_great sS_stand, kit_ref ic_house ty_house sS_house sS_stand, kit_ref ic_stand ty_stand sS_stand sS_stand, kit_ref ic_choices ty_choices sS_choices sS_stand, kit_ref ic_band ty_band sS_band sS_stand, kit_ref ic_number ty_number sS_number sS_stand, kit_ref ic_paper ty_paper sS_paper sS_stand, noS, rfl⟩
  have FS := fun_mk (st := sIniS) lS cd_S kIS
  have bS := FS.binds (ps := ["self", "value"]) fun _ _ _ _ _ _ us hl => match us, hl with | [_, _], _ => rfl
  have kwS : KwB (PySem.W.fnOf "__init__" "BadStand.__init__" (defArgs sIniS) (defBody sIniS) (defScope sIniS) .none kVS dcS pmS anS cdS ctS) ["self", "value"] ["value"] id id := ⟨fun s self ws hl => match ws, hl with | [_], _ => .of_eq rfl, fun r => r⟩
  have oB : OexC K c_band := ⟨⟨_, _, _, _, _, _, _, _, _, _, _, _, _, _, _, xLB, rfl⟩, saB, eCB, ty_band, kCB⟩
  have xB : ExcC K c_band := ⟨hgB, hkB, eCB, hdB, haB, hn, ht, hmB⟩
  have RB : HRow K a c_band "part" "band" 4 := ⟨xB, exm_two (PySem.W.exm_ref eB_seat hdB_seat ty_seat sB_seat) (PySem.W.exm_ref eB_great hdB_great ty_great sB_great), kit_ref ic_great ty_great sB_great sB_band, kit_ref ic_house ty_house sB_house sB_band, kit_ref ic_stand ty_stand sB_stand sB_band, kit_ref ic_choices ty_choices sB_choices sB_band, kit_ref ic_band ty_band sB_band sB_band, kit_ref ic_number ty_number sB_number sB_band, kit_ref ic_paper ty_paper sB_paper sB_band, noB, rfl⟩
  have FB := fun_mk (st := sIniB) lB cd_B kIB
  have bB := FB.binds (ps := ["self", "part"]) fun _ _ _ _ _ _ us hl => match us, hl with | [_, _], _ => rfl
  have kwB : KwB (PySem.W.fnOf "__init__" "BadBand.__init__" (defArgs sIniB) (defBody sIniB) (defScope sIniB) .none kVB dcB pmB anB cdB ctB) ["self", "part"] ["part"] id id := ⟨fun s self ws hl => match ws, hl with | [_], _ => .of_eq rfl, fun r => r⟩
  have F_mixed := fun_mk (st := sMixed) l_mixed cd_of_mixed k_mixed
  have b_mixed := F_mixed.binds (ps := ["cell", "n"]) fun _ _ _ _ _ _ us hl => match us, hl with | [_, _], _ => rfl
  have g_mixed := PySem.W.mg_of X G a_mixed
  have F_folded := fun_mk (st := sFolded) l_folded cd_of_folded k_folded
  have b_folded := F_folded.binds (ps := ["script"]) fun _ _ _ _ _ _ us hl => match us, hl with | [_], _ => rfl
  have g_folded := PySem.W.mg_of X G a_folded
  have F_draw := fun_mk (st := sDraw) l_draw cd_of_draw k_draw
  have b_draw := F_draw.binds (ps := ["m", "limit"]) fun _ _ _ _ _ _ us hl => match us, hl with | [_, _], _ => rfl
  have g_draw := PySem.W.mg_of X G a_draw
  have F_begun := fun_mk (st := sBegun) l_begun cd_of_begun k_begun
  have b_begun := F_begun.binds (ps := ["script"]) fun _ _ _ _ _ _ us hl => match us, hl with | [_], _ => rfl
  have g_begun := PySem.W.mg_of X G a_begun
  have F_whole := fun_mk (st := sWhole) l_whole cd_of_whole k_whole
  have b_whole := F_whole.binds (ps := ["value", "least", "most"]) fun _ _ _ _ _ _ us hl => match us, hl with | [_, _, _], _ => rfl
  have g_whole := PySem.W.mg_of X G a_whole
  have F_tup := fun_mk (st := sTup) l_tup cd_of_tup k_tup
  have b_tup := F_tup.binds (ps := ["value", "least", "most"]) fun _ _ _ _ _ _ us hl => match us, hl with | [_, _, _], _ => rfl
  have g_tup := PySem.W.mg_of X G a_tup
  have F_word := fun_mk (st := sWord) l_word cd_of_word k_word
  have b_word := F_word.binds (ps := ["value", "words"]) fun _ _ _ _ _ _ us hl => match us, hl with | [_, _], _ => rfl
  have g_word := PySem.W.mg_of X G a_word
  have F_sides := fun_mk (st := sSides) l_sides cd_of_sides k_sides
  have b_sides := F_sides.binds (ps := ["value", "many"]) fun _ _ _ _ _ _ us hl => match us, hl with | [_, _], _ => rfl
  have g_sides := PySem.W.mg_of X G a_sides
  have F_way := fun_mk (st := sWay) l_way cd_of_way k_way
  have b_way := F_way.binds (ps := ["value", "many_bodies", "wards"]) fun _ _ _ _ _ _ us hl => match us, hl with | [_, _, _], _ => rfl
  have g_way := PySem.W.mg_of X G a_way
  have F_seatf := fun_mk (st := sSeat) l_seatf cd_of_seatf k_seatf
  have b_seatf := F_seatf.binds (ps := ["value", "many_bodies", "wards"]) fun _ _ _ _ _ _ us hl => match us, hl with | [_, _, _], _ => rfl
  have g_seatf := PySem.W.mg_of X G a_seatf
  have F_NB := fun_mk (st := sNB) l_NB cd_of_NB k_NB
  have b_NB := F_NB.binds (ps := ["body", "number", "many_bodies", "wards"]) fun _ _ _ _ _ _ us hl => match us, hl with | [_, _, _, _], _ => rfl
  have g_NB := PySem.W.mg_of X G a_NB
  have F_CT := fun_mk (st := sCT) l_CT cd_of_CT k_CT
  have b_CT := F_CT.binds (ps := ["bodies"]) fun _ _ _ _ _ _ us hl => match us, hl with | [_], _ => rfl
  have g_CT := PySem.W.mg_of X G a_CT
  have F_NH := fun_mk (st := sNH) l_NH cd_of_NH k_NH
  have b_NH := F_NH.binds (ps := ["house"]) fun _ _ _ _ _ _ us hl => match us, hl with | [_], _ => rfl
  have g_NH := PySem.W.mg_of X G a_NH
  have F_HR := fun_mk (st := sHR) l_HR cd_of_HR k_HR
  have b_HR := F_HR.binds (ps := ["house"]) fun _ _ _ _ _ _ us hl => match us, hl with | [_], _ => rfl
  have g_HR := PySem.W.mg_of X G a_HR
  have F_IS := fun_mk (st := sIS) l_IS cd_of_IS k_IS
  have b_IS := F_IS.binds (ps := ["house", "value"]) fun _ _ _ _ _ _ us hl => match us, hl with | [_, _], _ => rfl
  have g_IS := PySem.W.mg_of X G a_IS
  have F_NS := fun_mk (st := sNS) l_NS cd_of_NS k_NS
  have b_NS := F_NS.binds (ps := ["house", "stand"]) fun _ _ _ _ _ _ us hl => match us, hl with | [_, _], _ => rfl
  have g_NS := PySem.W.mg_of X G a_NS
  have F_BA := fun_mk (st := sBA) l_BA cd_of_BA k_BA
  have b_BA := F_BA.binds (ps := ["band"]) fun _ _ _ _ _ _ us hl => match us, hl with | [_], _ => rfl
  have g_BA := PySem.W.mg_of X G a_BA
  have F_like := fun_mk (st := sLike) l_like cd_of_like k_like
  have b_like := F_like.binds (ps := ["heard", "due"]) fun _ _ _ _ _ _ us hl => match us, hl with | [_, _], _ => rfl
  have g_like := PySem.W.mg_of X G a_like
  have F_OF := fun_mk (st := sOF) l_OF cd_of_OF k_OF
  have b_OF := F_OF.binds (ps := ["m", "some"]) fun _ _ _ _ _ _ us hl => match us, hl with | [_, _], _ => rfl
  have g_OF := PySem.W.mg_of X G a_OF
  have F_TE := fun_mk (st := sTE) l_TE cd_of_TE k_TE
  have b_TE := F_TE.binds (ps := ["m"]) fun _ _ _ _ _ _ us hl => match us, hl with | [_], _ => rfl
  have g_TE := PySem.W.mg_of X G a_TE
  have F_WY := fun_mk (st := sWY) l_WY cd_of_WY k_WY
  have b_WY := F_WY.binds (ps := ["m", "bodies", "wards"]) fun _ _ _ _ _ _ us hl => match us, hl with | [_, _, _], _ => rfl
  have g_WY := PySem.W.mg_of X G a_WY
  have F_HO := fun_mk (st := sHO) l_HO cd_of_HO k_HO
  have b_HO := F_HO.binds (ps := ["m", "bodies", "each", "most"]) fun _ _ _ _ _ _ us hl => match us, hl with | [_, _, _, _], _ => rfl
  have g_HO := PySem.W.mg_of X G a_HO
  have F_FS := fun_mk (st := sFS) l_FS cd_of_FS k_FS
  have b_FS := F_FS.binds (ps := ["m", "home"]) fun _ _ _ _ _ _ us hl => match us, hl with | [_, _], _ => rfl
  have g_FS := PySem.W.mg_of X G a_FS
  have F_LI := fun_mk (st := sLI) l_LI cd_of_LI k_LI
  have b_LI := F_LI.binds (ps := ["m"]) fun _ _ _ _ _ _ us hl => match us, hl with | [_], _ => rfl
  have g_LI := PySem.W.mg_of X G a_LI
  have F_RN := fun_mk (st := sRN) l_RN cd_of_RN k_RN
  have b_RN := F_RN.binds (ps := ["home"]) fun _ _ _ _ _ _ us hl => match us, hl with | [_], _ => rfl
  have g_RN := PySem.W.mg_of X G a_RN
  have F_OD := fun_mk (st := sOD) l_OD cd_of_OD k_OD
  have b_OD := F_OD.binds (ps := []) fun _ _ _ _ _ _ us hl => match us, hl with | [], _ => rfl
  have g_OD := PySem.W.mg_of X G a_OD
  have F_HE := fun_mk (st := sHE) l_HE cd_of_HE k_HE
  have b_HE := F_HE.binds (ps := ["call"]) fun _ _ _ _ _ _ us hl => match us, hl with | [_], _ => rfl
  have g_HE := PySem.W.mg_of X G a_HE
  have F_II := fun_mk (st := sII) l_II cd_of_II k_II
  have b_II := F_II.binds (ps := ["thing", "low", "high"]) fun _ _ _ _ _ _ us hl => match us, hl with | [_, _, _], _ => rfl
  have g_II := PySem.W.mg_of X G a_II
  have F_BE := fun_mk (st := sBE) l_BE cd_of_BE k_BE
  have b_BE := F_BE.binds (ps := ["m", "thing", "some"]) fun _ _ _ _ _ _ us hl => match us, hl with | [_, _, _], _ => rfl
  have g_BE := PySem.W.mg_of X G a_BE
  have F_IW := fun_mk (st := sIW) l_IW cd_of_IW k_IW
  have b_IW := F_IW.binds (ps := ["thing", "many", "wards"]) fun _ _ _ _ _ _ us hl => match us, hl with | [_, _, _], _ => rfl
  have g_IW := PySem.W.mg_of X G a_IW
  have F_IE := fun_mk (st := sIE) l_IE cd_of_IE k_IE
  have b_IE := F_IE.binds (ps := ["thing", "many", "wards"]) fun _ _ _ _ _ _ us hl => match us, hl with | [_, _, _], _ => rfl
  have g_IE := PySem.W.mg_of X G a_IE
  have F_WR := fun_mk (st := sWR) l_WR cd_of_WR k_WR
  have b_WR := F_WR.binds (ps := ["thing"]) fun _ _ _ _ _ _ us hl => match us, hl with | [_], _ => rfl
  have g_WR := PySem.W.mg_of X G a_WR
  have F_BW := fun_mk (st := sBW) l_BW cd_of_BW k_BW
  have b_BW := F_BW.binds (ps := ["thing"]) fun _ _ _ _ _ _ us hl => match us, hl with | [_], _ => rfl
  have g_BW := PySem.W.mg_of X G a_BW
  have F_RI := funC_mk (st := sRI) l_RI cd_of_RI k_RI
  have b_RI := F_RI.fun.binds (ps := ["home", "limits"]) fun _ _ _ _ _ _ us hl => match us, hl with | [_, _], _ => rfl
  have g_RI := PySem.W.mg_of X G a_RI
  have F_ST := funC_mk (st := sST) l_ST cd_of_ST k_ST
  have b_ST := F_ST.fun.binds (ps := ["m", "home"]) fun _ _ _ _ _ _ us hl => match us, hl with | [_, _], _ => rfl
  have g_ST := PySem.W.mg_of X G a_ST
  have F_HA := fun_mk (st := sHA) l_HA cd_of_HA k_HA
  have b_HA := F_HA.binds (ps := []) fun _ _ _ _ _ _ us hl => match us, hl with | [], _ => rfl
  have g_HA := PySem.W.mg_of X G a_HA
  have F_law := fun_mk (st := sLaw) l_law cd_of_law k_law
  have b_law := F_law.binds (ps := ["script"]) fun _ _ _ _ _ _ us hl => match us, hl with | [_], _ => rfl
  have g_law := PySem.W.mg_of X G a_law
  obtain ⟨P1, hP1, e1⟩ := List.any_eq_true.mp x_RI
  rw [Bool.and_eq_true, Bool.and_eq_true] at e1
  obtain ⟨P2, hP2⟩ := tab_in x_ST
  have t1 : TabIn ts K (cRI, P1) := ⟨hP1, e1.1.1, by simpa using e1.1.2⟩
  have ne : P1 ≠ P2 := fun z => by
    have q := e1.2
    rw [z, hP2.2.1] at q
    cases q
  refine ⟨PySem.W.fnOf "law" "law" (defArgs sLaw) (defBody sLaw) (defScope sLaw) .none kV_law dc_law pm_law an_law cd_law ct_law, [(cRI, P1), (cST, P2)], fun p hp => ?_, fun s v => .of_eq rfl, fun base _ _ hTB => ?_⟩
  · simp only [List.mem_cons, List.not_mem_nil, or_false] at hp
    rcases hp with rfl | rfl
    · exact t1
    · exact hP2
  have TB1 := hTB (cRI, P1) (by simp)
  have TB2 := hTB (cST, P2) (by simp)
  have hm1 : (P1, lamQ "_law_right" (defScope sRI)) ∈ tabsOf [(cRI, P1), (cST, P2)] := List.mem_cons_self ..
  have hm2 : (P2, lamQ "_law_stands_right" (defScope sST)) ∈ tabsOf [(cRI, P1), (cST, P2)] := List.mem_cons_of_mem _ (List.mem_cons_self ..)
  have hu1 : ∀ p ∈ tabsOf [(cRI, P1), (cST, P2)], p.1 = P1 → p.2 = lamQ "_law_right" (defScope sRI) := fun p hp e => by
    rcases List.mem_cons.mp hp with rfl | hp
    · rfl
    · rw [List.mem_singleton.mp hp] at e
      exact absurd e.symm ne
  have hu2 : ∀ p ∈ tabsOf [(cRI, P1), (cST, P2)], p.1 = P2 → p.2 = lamQ "_law_stands_right" (defScope sST) := fun p hp e => by
    rcases List.mem_cons.mp hp with rfl | hp
    · exact absurd e ne
    · rw [List.mem_singleton.mp hp]
  have XH : Xc l.prog w K mg base "BadHouse" "place" c_house i_H _ := ⟨oH, xH, iCH, tIH, ok_iniH FH oH noH, bH, kwH, PySem.W.mg_of X G a_house, noH⟩
  have XS : Xc l.prog w K mg base "BadStand" "value" c_stand i_S _ := ⟨oS, xS, iCS, tIS, ok_iniS FS oS noS, bS, kwS, PySem.W.mg_of X G a_stand, noS⟩
  have XB : Xc l.prog w K mg base "BadBand" "part" c_band i_B _ := ⟨oB, xB, iCB, tIB, ok_iniB FB oB noB, bB, kwB, PySem.W.mg_of X G a_band, noB⟩
  have D_begun : Dok l.prog w K mg base 2 "_law_begun" ["script"] (spBegun K) f_begun _ := ⟨ok_begun F_begun B F_folded g_folded b_folded, g_begun, k_begun, b_begun⟩
  have D_draw : Dok l.prog w K mg base 2 "_law_draw" ["m", "limit"] spDraw f_draw _ := ⟨ok_draw F_draw B F_mixed g_mixed b_mixed, g_draw, k_draw, b_draw⟩
  have D_whole : Dok l.prog w K mg base 1 "is_whole" ["value", "least", "most"] (spP K fWn) f_whole _ := ⟨ok_whole F_whole B Z, g_whole, k_whole, b_whole⟩
  have D_tup : Dok l.prog w K mg base 1 "is_tuple" ["value", "least", "most"] (spP K fTn) f_tup _ := ⟨ok_tup F_tup B Z, g_tup, k_tup, b_tup⟩
  have D_word : Dok l.prog w K mg base 1 "is_word" ["value", "words"] (spP K fWdn) f_word _ := ⟨ok_word F_word B Z, g_word, k_word, b_word⟩
  have D_sides : Dok l.prog w K mg base 1 "is_sides" ["value", "many"] (spP K fSdn) f_sides _ := ⟨ok_sides F_sides B Z, g_sides, k_sides, b_sides⟩
  have D_way : Dok l.prog w K mg base 2 "is_way" ["value", "many_bodies", "wards"] (spP K fWyn) f_way _ := ⟨ok_way F_way B Z C D_tup D_word D_whole, g_way, k_way, b_way⟩
  have D_seatf : Dok l.prog w K mg base 3 "is_seat" ["value", "many_bodies", "wards"] (spP K fSen) f_seatf _ := ⟨ok_seat F_seatf C D_tup D_way D_whole, g_seatf, k_seatf, b_seatf⟩
  have D_NB : DoX l.prog w K mg base 4 "_need_seats" ["body", "number", "many_bodies", "wards"] (spO K (fNBn c_house)) f_NB _ := ⟨ok_NB F_NB B C XH D_tup D_seatf, g_NB, k_NB, b_NB⟩
  have D_CT : Dok l.prog w K mg base 1 "common_term" ["bodies"] (spP K fCTn) f_CT _ := ⟨ok_CT F_CT glcm, g_CT, k_CT, b_CT⟩
  have D_NH : DoX l.prog w K mg base 5 "need_house" ["house"] (spO K (fNHn c_house)) f_NH _ := ⟨ok_NH F_NH B Z C XH D_tup D_whole D_NB D_CT, g_NH, k_NH, b_NH⟩
  have D_HR : DoX l.prog w K mg base 6 "house_round" ["house"] (spO K (fHRn c_house)) f_HR _ := ⟨ok_HR F_HR D_NH D_CT, g_HR, k_HR, b_HR⟩
  have D_IS : Dok l.prog w K mg base 2 "is_stand" ["house", "value"] (spP K fISn) f_IS _ := ⟨ok_IS F_IS B Z D_tup D_sides, g_IS, k_IS, b_IS⟩
  have D_NS : DoX l.prog w K mg base 6 "need_stand" ["house", "stand"] (spO K (fNSn c_house c_stand)) f_NS _ := ⟨ok_NS F_NS XS D_NH D_IS, g_NS, k_NS, b_NS⟩
  have D_BA : DoX l.prog w K mg base 3 "need_band" ["band"] (spO K (fBAn c_band)) f_BA _ := ⟨ok_BA F_BA C XB D_tup D_whole, g_BA, k_BA, b_BA⟩
  have D_like : DoG l.prog w K mg base 1 "_law_like" ["heard", "due"] (spLike K) f_like _ := ⟨ok_like F_like B, g_like, k_like, b_like⟩
  have D_OF : Dok l.prog w K mg base 3 "_law_of" ["m", "some"] (spOf K) f_OF _ := ⟨ok_OF F_OF B D_draw, g_OF, k_OF, b_OF⟩
  have D_OG : Dok l.prog w K mg base 3 "_law_of" ["m", "some"] (spOfG K) f_OF _ := ⟨ok_OG F_OF B D_draw, g_OF, k_OF, b_OF⟩
  have D_TE : Dok l.prog w K mg base 3 "_law_terms" ["m"] (spTerms K) f_TE _ := ⟨ok_TE F_TE D_draw, g_TE, k_TE, b_TE⟩
  have D_WY : Dok l.prog w K mg base 3 "_law_way" ["m", "bodies", "wards"] (spWay K) f_WY _ := ⟨ok_WY F_WY D_draw, g_WY, k_WY, b_WY⟩
  have D_HO : Dok l.prog w K mg base 4 "_law_home" ["m", "bodies", "each", "most"] (spHome K) f_HO _ := ⟨ok_HO F_HO B Z D_draw D_TE D_OF D_WY, g_HO, k_HO, b_HO⟩
  have D_FS : Dok l.prog w K mg base 4 "_law_first" ["m", "home"] (spFirst K) f_FS _ := ⟨ok_FS F_FS Z D_OF, g_FS, k_FS, b_FS⟩
  have D_LI : Dok l.prog w K mg base 3 "_law_limits" ["m"] (spLim K) f_LI _ := ⟨ok_LI F_LI D_draw, g_LI, k_LI, b_LI⟩
  have D_RN : Dok l.prog w K mg base 1 "_law_round" ["home"] (spP K fRNn) f_RN _ := ⟨ok_RN F_RN B Z, g_RN, k_RN, b_RN⟩
  have D_OD : Dok l.prog w K mg base 1 "_law_odds" [] (spOdds K) f_OD _ := ⟨ok_OD F_OD, g_OD, k_OD, b_OD⟩
  have D_II : Dok l.prog w K mg base 1 "_law_is_int" ["thing", "low", "high"] (spP K fWn) f_II _ := ⟨ok_II F_II B Z, g_II, k_II, b_II⟩
  have D_IW : Dok l.prog w K mg base 2 "_law_is_way" ["thing", "many", "wards"] (spP K fWyn) f_IW _ := ⟨ok_IW F_IW B Z D_II, g_IW, k_IW, b_IW⟩
  have D_IE : Dok l.prog w K mg base 3 "_law_is_seat" ["thing", "many", "wards"] (spP K fSen) f_IE _ := ⟨ok_IE F_IE B Z D_II D_IW, g_IE, k_IE, b_IE⟩
  have D_WR : Dok l.prog w K mg base 5 "_law_wrong" ["thing"] (spP K fWRn) f_WR _ := ⟨(ok_WR F_WR B Z D_II D_IE D_RN).mono (by decide), g_WR, k_WR, b_WR⟩
  have D_BW : Dok l.prog w K mg base 2 "_law_band_wrong" ["thing"] (spP K fBWn) f_BW _ := ⟨ok_BW F_BW B Z D_II, g_BW, k_BW, b_BW⟩
  have D_BE : Dok l.prog w K mg base 11 "_law_bent" ["m", "thing", "some"] (spB K) f_BE _ := ⟨TSx.FnOk.or (ok_BE F_BE B Z g_BE k_BE b_BE D_draw D_OG 6) (ok_BE F_BE B Z g_BE k_BE b_BE D_draw D_OG 8) (by decide) (by decide), g_BE, k_BE, b_BE⟩
  have D_HE : HeD l.prog w K mg base a f_HE _ 6 := ⟨F_HE, g_HE, b_HE, fun cdv => ok_HE F_HE B T cdv 7⟩
  have D_RI : DoG l.prog w K mg base 9 "_law_right" ["home", "limits"] (spRight K (tabsOf [(cRI, P1), (cST, P2)])) f_RI _ := ⟨ok_RI F_RI B TB1 hm1 hu1 D_HE D_WR D_BW D_RN D_like D_NH D_BA D_HR RH RB, g_RI, k_RI, b_RI⟩
  have D_ST : DoG l.prog w K mg base 10 "_law_stands_right" ["m", "home"] (spStands K (tabsOf [(cRI, P1), (cST, P2)])) f_ST _ := ⟨ok_ST F_ST B TB2 hm2 hu2 D_HE D_FS D_like D_NS RS, g_ST, k_ST, b_ST⟩
  have D_HA : DoG l.prog w K mg base 10 "_law_hand_right" [] (spHand K (tabsOf [(cRI, P1), (cST, P2)])) f_HA _ := ⟨ok_HA F_HA B D_RI, g_HA, k_HA, b_HA⟩
  exact ok_law F_law B D_begun D_HO D_LI D_BE D_OD D_OG D_RI D_ST D_HA
end TSx
open PySem PySem.W PyProof.Rows
set_option maxRecDepth 100000 in
set_option maxHeartbeats 0 in
theorem PySem.Challenge.cw_termseats_k01_houses_and_bands_judged_holds : PySem.Challenge.rw_termseats_k01_houses_and_bands_judged.Holds := by
  w_on; o_law; k_head; (case hw => w_witness2)
  k_fill
  refine TSx.walkT (l := PySem.Challenge.rw_termseats_k01_houses_and_bands_judged) (n := 63) (k := 12) (x := "script") (sp := fun K cs => TSx.spLaw K (TSx.tabsOf cs)) rfl (by decide) rfl ⟨rfl, by decide, by decide⟩ (fun w h Y => PySem.W.km_in_of Y) (fun w h Y => PySem.W.km_tabs_of Y) ?F (fun w H a ns cs hl hT hS => ⟨a, ns, rfl, hS, hl, TSx.tabs_new hT, fun _ => rfl⟩)
  case F =>
    intro w mg fa h KX G hmg
    refine' TSx.all_mk KX G hmg ?a_seat ?ic_seat ?ty_seat ?a_great ?ic_great ?ty_great ?a_house ?ic_house ?ty_house ?a_stand ?ic_stand ?ty_stand ?a_choices ?ic_choices ?ty_choices ?a_band ?ic_band ?ty_band ?a_number ?ic_number ?ty_number ?a_paper ?ic_paper ?ty_paper ?eB_seat ?hdB_seat ?eB_great ?hdB_great ?hn ?ht ?xLH ?saH ?eCH ?kCH ?hgH ?hkH ?hdH ?haH ?hmH ?noH ?iCH ?tIH ?lH ?cd_H ?kIH ?sH_seat ?sH_great ?sH_house ?sH_stand ?sH_choices ?sH_band ?sH_number ?sH_paper ?xLS ?saS ?eCS ?kCS ?hgS ?hkS ?hdS ?haS ?hmS ?noS ?iCS ?tIS ?lS ?cd_S ?kIS ?sS_seat ?sS_great ?sS_house ?sS_stand ?sS_choices ?sS_band ?sS_number ?sS_paper ?xLB ?saB ?eCB ?kCB ?hgB ?hkB ?hdB ?haB ?hmB ?noB ?iCB ?tIB ?lB ?cd_B ?kIB ?sB_seat ?sB_great ?sB_house ?sB_stand ?sB_choices ?sB_band ?sB_number ?sB_paper ?a_MOST_WARDS ?a_MOST_BODIES ?a_MOST_SEATS ?a_MOST_TERM ?a_MOST_ROUND ?a_MOST_GAP ?a_TIES ?x_TIES ?a_lcm ?a_mixed ?l_mixed ?cd_of_mixed ?k_mixed ?a_folded ?l_folded ?cd_of_folded ?k_folded ?a_draw ?l_draw ?cd_of_draw ?k_draw ?a_begun ?l_begun ?cd_of_begun ?k_begun ?a_whole ?l_whole ?cd_of_whole ?k_whole ?a_tup ?l_tup ?cd_of_tup ?k_tup ?a_word ?l_word ?cd_of_word ?k_word ?a_sides ?l_sides ?cd_of_sides ?k_sides ?a_way ?l_way ?cd_of_way ?k_way ?a_seatf ?l_seatf ?cd_of_seatf ?k_seatf ?a_NB ?l_NB ?cd_of_NB ?k_NB ?a_CT ?l_CT ?cd_of_CT ?k_CT ?a_NH ?l_NH ?cd_of_NH ?k_NH ?a_HR ?l_HR ?cd_of_HR ?k_HR ?a_IS ?l_IS ?cd_of_IS ?k_IS ?a_NS ?l_NS ?cd_of_NS ?k_NS ?a_BA ?l_BA ?cd_of_BA ?k_BA ?a_like ?l_like ?cd_of_like ?k_like ?a_OF ?l_OF ?cd_of_OF ?k_OF ?a_TE ?l_TE ?cd_of_TE ?k_TE ?a_WY ?l_WY ?cd_of_WY ?k_WY ?a_HO ?l_HO ?cd_of_HO ?k_HO ?a_FS ?l_FS ?cd_of_FS ?k_FS ?a_LI ?l_LI ?cd_of_LI ?k_LI ?a_RN ?l_RN ?cd_of_RN ?k_RN ?a_OD ?l_OD ?cd_of_OD ?k_OD ?a_HE ?l_HE ?cd_of_HE ?k_HE ?a_II ?l_II ?cd_of_II ?k_II ?a_BE ?l_BE ?cd_of_BE ?k_BE ?a_IW ?l_IW ?cd_of_IW ?k_IW ?a_IE ?l_IE ?cd_of_IE ?k_IE ?a_WR ?l_WR ?cd_of_WR ?k_WR ?a_BW ?l_BW ?cd_of_BW ?k_BW ?a_RI ?l_RI ?cd_of_RI ?k_RI ?a_ST ?l_ST ?cd_of_ST ?k_ST ?a_HA ?l_HA ?cd_of_HA ?k_HA ?a_law ?l_law ?cd_of_law ?k_law ?z_int ?z_len ?z_range ?z_enumerate ?z_repr ?z_isinstance ?z_list ?z_bool ?z_str ?z_tuple ?z_zip ?z_sum ?z_all ?x_RI ?x_ST
    (case a_seat => k_is)
    (case ic_seat => k_is)
    (case ty_seat => k_is)
    (case a_great => k_is)
    (case ic_great => k_is)
    (case ty_great => k_is)
    (case a_house => k_is)
    (case ic_house => k_is)
    (case ty_house => k_is)
    (case a_stand => k_is)
    (case ic_stand => k_is)
    (case ty_stand => k_is)
    (case a_choices => k_is)
    (case ic_choices => k_is)
    (case ty_choices => k_is)
    (case a_band => k_is)
    (case ic_band => k_is)
    (case ty_band => k_is)
    (case a_number => k_is)
    (case ic_number => k_is)
    (case ty_number => k_is)
    (case a_paper => k_is)
    (case ic_paper => k_is)
    (case ty_paper => k_is)
    (case eB_seat => k_is)
    (case hdB_seat => k_is)
    (case eB_great => k_is)
    (case hdB_great => k_is)
    (case hn => k_is)
    (case ht => k_is)
    (case xLH => k_is)
    (case saH => k_is)
    (case eCH => k_is)
    (case kCH => k_is)
    (case hgH => k_is)
    (case hkH => k_is)
    (case hdH => k_is)
    (case haH => k_is)
    (case hmH => k_is)
    (case noH => k_is)
    (case iCH => k_is)
    (case tIH => k_is)
    (case lH => k_is)
    (case cd_H => k_is)
    (case kIH => k_is)
    (case sH_seat => k_is)
    (case sH_great => k_is)
    (case sH_house => k_is)
    (case sH_stand => k_is)
    (case sH_choices => k_is)
    (case sH_band => k_is)
    (case sH_number => k_is)
    (case sH_paper => k_is)
    (case xLS => k_is)
    (case saS => k_is)
    (case eCS => k_is)
    (case kCS => k_is)
    (case hgS => k_is)
    (case hkS => k_is)
    (case hdS => k_is)
    (case haS => k_is)
    (case hmS => k_is)
    (case noS => k_is)
    (case iCS => k_is)
    (case tIS => k_is)
    (case lS => k_is)
    (case cd_S => k_is)
    (case kIS => k_is)
    (case sS_seat => k_is)
    (case sS_great => k_is)
    (case sS_house => k_is)
    (case sS_stand => k_is)
    (case sS_choices => k_is)
    (case sS_band => k_is)
    (case sS_number => k_is)
    (case sS_paper => k_is)
    (case xLB => k_is)
    (case saB => k_is)
    (case eCB => k_is)
    (case kCB => k_is)
    (case hgB => k_is)
    (case hkB => k_is)
    (case hdB => k_is)
    (case haB => k_is)
    (case hmB => k_is)
    (case noB => k_is)
    (case iCB => k_is)
    (case tIB => k_is)
    (case lB => k_is)
    (case cd_B => k_is)
    (case kIB => k_is)
    (case sB_seat => k_is)
    (case sB_great => k_is)
    (case sB_house => k_is)
    (case sB_stand => k_is)
    (case sB_choices => k_is)
    (case sB_band => k_is)
    (case sB_number => k_is)
    (case sB_paper => k_is)
    (case a_MOST_WARDS => k_is)
    (case a_MOST_BODIES => k_is)
    (case a_MOST_SEATS => k_is)
    (case a_MOST_TERM => k_is)
    (case a_MOST_ROUND => k_is)
    (case a_MOST_GAP => k_is)
    (case a_TIES => k_is)
    (case x_TIES => k_is)
    (case a_lcm => k_is)
    (case a_mixed => k_is)
    (case l_mixed => k_is)
    (case cd_of_mixed => k_is)
    (case k_mixed => k_is)
    (case a_folded => k_is)
    (case l_folded => k_is)
    (case cd_of_folded => k_is)
    (case k_folded => k_is)
    (case a_draw => k_is)
    (case l_draw => k_is)
    (case cd_of_draw => k_is)
    (case k_draw => k_is)
    (case a_begun => k_is)
    (case l_begun => k_is)
    (case cd_of_begun => k_is)
    (case k_begun => k_is)
    (case a_whole => k_is)
    (case l_whole => k_is)
    (case cd_of_whole => k_is)
    (case k_whole => k_is)
    (case a_tup => k_is)
    (case l_tup => k_is)
    (case cd_of_tup => k_is)
    (case k_tup => k_is)
    (case a_word => k_is)
    (case l_word => k_is)
    (case cd_of_word => k_is)
    (case k_word => k_is)
    (case a_sides => k_is)
    (case l_sides => k_is)
    (case cd_of_sides => k_is)
    (case k_sides => k_is)
    (case a_way => k_is)
    (case l_way => k_is)
    (case cd_of_way => k_is)
    (case k_way => k_is)
    (case a_seatf => k_is)
    (case l_seatf => k_is)
    (case cd_of_seatf => k_is)
    (case k_seatf => k_is)
    (case a_NB => k_is)
    (case l_NB => k_is)
    (case cd_of_NB => k_is)
    (case k_NB => k_is)
    (case a_CT => k_is)
    (case l_CT => k_is)
    (case cd_of_CT => k_is)
    (case k_CT => k_is)
    (case a_NH => k_is)
    (case l_NH => k_is)
    (case cd_of_NH => k_is)
    (case k_NH => k_is)
    (case a_HR => k_is)
    (case l_HR => k_is)
    (case cd_of_HR => k_is)
    (case k_HR => k_is)
    (case a_IS => k_is)
    (case l_IS => k_is)
    (case cd_of_IS => k_is)
    (case k_IS => k_is)
    (case a_NS => k_is)
    (case l_NS => k_is)
    (case cd_of_NS => k_is)
    (case k_NS => k_is)
    (case a_BA => k_is)
    (case l_BA => k_is)
    (case cd_of_BA => k_is)
    (case k_BA => k_is)
    (case a_like => k_is)
    (case l_like => k_is)
    (case cd_of_like => k_is)
    (case k_like => k_is)
    (case a_OF => k_is)
    (case l_OF => k_is)
    (case cd_of_OF => k_is)
    (case k_OF => k_is)
    (case a_TE => k_is)
    (case l_TE => k_is)
    (case cd_of_TE => k_is)
    (case k_TE => k_is)
    (case a_WY => k_is)
    (case l_WY => k_is)
    (case cd_of_WY => k_is)
    (case k_WY => k_is)
    (case a_HO => k_is)
    (case l_HO => k_is)
    (case cd_of_HO => k_is)
    (case k_HO => k_is)
    (case a_FS => k_is)
    (case l_FS => k_is)
    (case cd_of_FS => k_is)
    (case k_FS => k_is)
    (case a_LI => k_is)
    (case l_LI => k_is)
    (case cd_of_LI => k_is)
    (case k_LI => k_is)
    (case a_RN => k_is)
    (case l_RN => k_is)
    (case cd_of_RN => k_is)
    (case k_RN => k_is)
    (case a_OD => k_is)
    (case l_OD => k_is)
    (case cd_of_OD => k_is)
    (case k_OD => k_is)
    (case a_HE => k_is)
    (case l_HE => k_is)
    (case cd_of_HE => k_is)
    (case k_HE => k_is)
    (case a_II => k_is)
    (case l_II => k_is)
    (case cd_of_II => k_is)
    (case k_II => k_is)
    (case a_BE => k_is)
    (case l_BE => k_is)
    (case cd_of_BE => k_is)
    (case k_BE => k_is)
    (case a_IW => k_is)
    (case l_IW => k_is)
    (case cd_of_IW => k_is)
    (case k_IW => k_is)
    (case a_IE => k_is)
    (case l_IE => k_is)
    (case cd_of_IE => k_is)
    (case k_IE => k_is)
    (case a_WR => k_is)
    (case l_WR => k_is)
    (case cd_of_WR => k_is)
    (case k_WR => k_is)
    (case a_BW => k_is)
    (case l_BW => k_is)
    (case cd_of_BW => k_is)
    (case k_BW => k_is)
    (case a_RI => k_is)
    (case l_RI => k_is)
    (case cd_of_RI => k_is)
    (case k_RI => k_is)
    (case a_ST => k_is)
    (case l_ST => k_is)
    (case cd_of_ST => k_is)
    (case k_ST => k_is)
    (case a_HA => k_is)
    (case l_HA => k_is)
    (case cd_of_HA => k_is)
    (case k_HA => k_is)
    (case a_law => k_is)
    (case l_law => k_is)
    (case cd_of_law => k_is)
    (case k_law => k_is)
    (case z_int => k_is)
    (case z_len => k_is)
    (case z_range => k_is)
    (case z_enumerate => k_is)
    (case z_repr => k_is)
    (case z_isinstance => k_is)
    (case z_list => k_is)
    (case z_bool => k_is)
    (case z_str => k_is)
    (case z_tuple => k_is)
    (case z_zip => k_is)
    (case z_sum => k_is)
    (case z_all => k_is)
    (case x_RI => kernel_rfl)
    (case x_ST => kernel_rfl)
#print axioms PySem.Challenge.cw_termseats_k01_houses_and_bands_judged_holds

