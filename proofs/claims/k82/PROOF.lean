import PyProof.Rows.All
import Wide.All
import OpenK.AllK
import Wide.FinOn
import HandS.ForMost
import HandS.Exc
import HandS.ExcOwn
import HandS.ExcInit
import HandS.ExcIs
import HandS.ExcField
import HandS.IsInst
import HandS.WordsExc
import KE.KExcIs
import KE.KExcInit
import HandS.Wide
import HandS.Walk
import KE.GoesZip
import KE.GoesMore
import KE.GoesEnum
import KE.KMathG
import HandS.Zip
import HandS.Iter
import HandS.Gcd
import HandS.Text
import HandS.SetFor
import PyProof.ReprLen
import HandS.TupAny
import HandS.TupMul
import HandS.Style
import HandS.Lambda
import KE.KDflt
import HandS.EndTab
import KE.KNestM
import PyProof.ListStr
import HandS.Conv
import PySem.Challenge.RW_termseats_k82_whole_patterns
set_option Elab.async false
set_option linter.all false
set_option maxRecDepth 100000
set_option maxHeartbeats 4000000
/-! Own layer, part 1: defs that may ask repr of data. Such a def must know that no repr is under way around it (guards), which the library's FnOk does not say; so FnG says it beside. -/
namespace TSx
open PySem L2 PySem.Spec PyProof.Rows

/-- a def's promise where no repr is under way -/
structure FnG (P : Program) (w : World) (K : PySem.W.Frag) (mg : Str → Option Value) (base : Heap) (CX : CXT) (k : Nat) (f : Addr) (fd : FuncData) (ps : List Str) (sp : Sp) : Prop where
  sized : ∀ vs H Q E, sp vs H Q E → vs.length = ps.length
  go : ∀ (A : Around) (outer : List Env) (s : Shared) (H : Hp) (args : Args) (us : List Value) (vs : List V) (Q : VK) (E : XK),
    A.guards = some [] → Room k A → Env0 P w K mg base A outer s H → BindsTo s fd args (ps.zip us) → Vals vs us → sp vs H Q E →
    codeAny (model P w) A (.call (.ref f) args) (CR CX outer P w H s Q E) s

section
variable {P : Program} {w : World} {K : PySem.W.Frag} {mg : Str → Option Value} {base : Heap} {CX : CXT} {k : Nat} {f : Addr} {fd : FuncData} {ps : List Str} {sp : Sp}
theorem FnG.of (F : FnOk P w K mg base CX k f fd ps sp) : FnG P w K mg base CX k f fd ps sp :=
  ⟨F.len, fun A o s H a us vs Q E _ r e b v h => F.run A o s H a us vs Q E r e b v h⟩
theorem FnG.up {j : Nat} (F : FnG P w K mg base CX j f fd ps sp) (h : j ≤ k) : FnG P w K mg base CX k f fd ps sp :=
  ⟨F.sized, fun A o s H a us vs Q E g r e b v x => F.go A o s H a us vs Q E g (r.mono h) e b v x⟩
end

theorem guards_deeper {A : Around} (g : A.guards = some []) (env : Env) : (A.deeper env).guards = some [] := by
  unfold Around.deeper
  first
    | exact g
    | simp [Around.under, g]

/-- a def by its body, the guards known -/
theorem fnG_of {CX : CXT} {P : Program} {w : World} {K : PySem.W.Frag} {mg : Str → Option Value} {base : Heap} {k : Nat} {f : Addr} {x qual : Str} {st : Stmt} {fd : FuncData} {N ps : List Str} {sp : Sp}
    (F : L2.Fun K x qual st f fd) (S : FnScope N ps (defScope st)) (sz : ∀ vs H Q E, sp vs H Q E → vs.length = ps.length)
    (B : ∀ (cdv : Value) (A : Around) (outer : List Env) (s : Shared) (H : Hp) (vs : List V) (Q : VK) (E : XK), A.guards = some [] → Room k (A.deeper (envOfC qual (defScope st) s.heap.objs.size f cdv)) → sp vs H Q E →
      ∃ t, PSs (cxOf CX P w K mg base N qual (defScope st) f cdv A outer s H E) (defBody st) t ∧ t { nx := fun _ H' => Q .non H', rt := Q } (start N vs) H) :
    FnG P w K mg base CX (k + 1) f fd ps sp := by
  obtain ⟨oc, od, kV, doc, pm, an, cdv, ct, osl, rfl, lk, hcd⟩ := F.ex
  refine ⟨sz, fun A outer s H args us vs Q E g hr e0 hb r hsp => ?_⟩
  -- the same def, its promise cut down to this very call: then the library's rule serves
  obtain ⟨t, ht, hq⟩ := B cdv A outer s H vs Q E g (hr.deeper _) hsp
  have KX : K.In s.heap := e0.mod.kin.keeps fun b o e => (e0.bs b o e).1
  refine codeAny_call_function hr.depth (KX _ _ lk) rfl S.co S.gen rfl (PySem.W.codeRec_of KX hcd) (hb _ _ _ _ ?_)
  have kinds : ∀ y ∈ ps.zip us, (defScope st).names.lookup y.1 = some .local ∨ ((defScope st).names.lookup y.1 = some .cell ∧ ((cellsFrom (s.heap.objs.size + 1) (defScope st).names []).lookup y.1).isSome = true) := by
    intro y hy
    obtain ⟨n, v⟩ := y
    cases S.par n (List.of_mem_zip hy).1 with
    | inl q => exact Or.inl q
    | inr q => exact Or.inr ⟨q, PySem.W.cellsFrom_some _ _ _ (Or.inl q)⟩
  refine wpAny_newFunctionEnv_cells S.kind kinds fun env he s1 ic => ?_
  subst he
  have nolim : s.heap.NoLimit := e0.mod.nolimit.keeps fun b o e => (e0.bs b o e).1
  refine ⟨nolim.keeps ic.toInCall.keep, codeAny_func ?_⟩
  have J := inv_start (CX := CX) (E := E) S hr.hd e0 (sz _ _ _ _ hsp) r ic
  refine wpAny_mono (ht.run [] s1 (start N vs) H _ J hq) (fun fl s' z => ?_) fun _ _ z => z
  match fl, z with
  | .ret u, z =>
    obtain ⟨v, σ', H', I, rv, q⟩ := z
    exact ⟨v, H', I.os, I.bare, I.base, I.hok, rv, q⟩
  | .next, z =>
    obtain ⟨σ', H', I, q⟩ := z
    exact ⟨V.non, H', I.os, I.bare, I.base, I.hok, rfl, q⟩
  | .brk, z =>
    obtain ⟨_, _, _, q⟩ := z
    exact q.elim
  | .cont, z =>
    obtain ⟨_, _, _, q⟩ := z
    exact q.elim

/-- .. no exception leaves it -/
theorem fnG_of0 {P : Program} {w : World} {K : PySem.W.Frag} {mg : Str → Option Value} {base : Heap} {k : Nat} {f : Addr} {x qual : Str} {st : Stmt} {fd : FuncData} {N ps : List Str} {sp : Sp}
    (F : L2.Fun K x qual st f fd) (S : FnScope N ps (defScope st)) (sz : ∀ vs H Q E, sp vs H Q E → vs.length = ps.length)
    (B : ∀ (cdv : Value) (A : Around) (outer : List Env) (s : Shared) (H : Hp) (vs : List V) (Q : VK) (E : XK), A.guards = some [] → Room k (A.deeper (envOfC qual (defScope st) s.heap.objs.size f cdv)) → sp vs H Q E →
      ∃ t, PSs (cxOf CX0 P w K mg base N qual (defScope st) f cdv A outer s H E).nox (defBody st) t ∧ t { nx := fun _ H' => Q .non H', rt := Q } (start N vs) H) :
    FnG P w K mg base CX0 (k + 1) f fd ps sp := fnG_of F S sz fun cdv A outer s H vs Q E g hr h => by
  obtain ⟨t, h1, h2⟩ := B cdv A outer s H vs Q E g hr h
  exact ⟨t, h1.nox, h2⟩

section
variable {X : Cx} {CX : CXT} {k : Nat} {f : Addr} {fd : FuncData} {ps : List Str} {sp : Sp} {E : XK} {x : Str} {p pos : Pos} {e : Expr} {es : List Expr} {t : TA}
theorem runG {pins : List (Addr × Obj)} {σ : L2.St} {H : Hp} {s : Shared} {Q : VK} {us : List Value} {vs : List V} {EE : XK} (F : FnG X.prog X.w X.K X.mg X.base CX k f fd ps sp) (g : X.A.guards = some []) (hr : Room k X.A) (hb : Binds X.K fd ps [])
    (hx : ∀ e s', CX X.stack H s EE e s' → X.xe e s') (I : Inv X pins σ H s) (r : Vals vs us) (h : sp vs H Q EE) : wpAny (model X.prog X.w) X.A (call (.ref f) us) (EP X pins σ Q) X.xe s := by
  have hl : us.length = ps.length := by rw [← r.length]; exact F.sized _ _ _ _ h
  have bb : BindsTo s fd ⟨us, []⟩ (ps.zip us) := by
    have q := hb s us I.kIn (by rw [List.append_nil]; exact hl)
    rw [List.append_nil] at q
    exact q
  refine wpAny_call (codeAny_mono (F.go X.A X.stack s H ⟨us, []⟩ us vs Q EE g hr I.env0 bb r h) fun o s' z => ?_)
  match o, z with
  | .error y, z => exact hx y s' z
  | .ok (.ret u), z => exact I.after z
  | .ok .next, z => exact False.elim z
  | .ok .brk, z => exact False.elim z
  | .ok .cont, z => exact False.elim z
/-- f(e, ..) -/
theorem pe_callG (F : FnG X.prog X.w X.K X.mg X.base CX k f fd ps sp) (g : X.A.guards = some []) (hr : Room k X.A) (hg : Gl X x) (hm : X.mg x = some (.ref f)) (hk : PySem.W.keepIn X.K (.ref f) = true) (hb : Binds X.K fd ps []) (hx : Passes CX X E)
    (ha : PA X (e :: es) t) (hdb : (x == ("__debug__" : Str)) = false := by decide) (he : starEach (e :: es) X.env = (false, eval e X.env) :: starEach es X.env := by rfl) (hpl : (backTo pos (starEach es X.env)).any (·.1) = false := by rfl) :
    PE X (.Call (.Name x p) (e :: es) [] pos) (tCall sp [] E t) := by
  constructor
  intro pins s σ H Q I h
  refine wpAny_Call_Name_kw (ld_glob I hg hm ?_ hdb)
  refine PySem.W.callWith_K (h₀ := X.base) I.ok.mod.kin hk (thn (ha.run pos pins s σ H _ I h) fun us s1 z => ?_) he hpl
  obtain ⟨vs, H1, I1, r, q⟩ := z
  have q' : sp vs H1 Q E := by
    have := q
    rw [List.append_nil] at this
    exact this
  exact ⟨I1.kIn, runG F g hr hb (fun y s' c => hx pins σ H1 s1 y s' I1 c) I1 r q'⟩
theorem pe_callG0 (F : FnG X.prog X.w X.K X.mg X.base CX k f fd ps sp) (g : X.A.guards = some []) (hr : Room k X.A) (hg : Gl X x) (hm : X.mg x = some (.ref f)) (hk : PySem.W.keepIn X.K (.ref f) = true) (hb : Binds X.K fd ps []) (hx : Passes CX X E)
    (hdb : (x == ("__debug__" : Str)) = false := by decide) : PE X (.Call (.Name x p) [] [] pos) (tCall sp [] E tNil) := by
  constructor
  intro pins s σ H Q I h
  refine wpAny_Call_Name_kw (ld_glob I hg hm ?_ hdb)
  exact PySem.W.callWith_K0 I.kIn hk (runG (us := []) F g hr hb (fun y s' c => hx pins σ H s y s' I c) I .nil h)
end

/-! ### the law's own end: the script alone is tracked (or it stands in the written part) -/
theorem law_endG {P : Program} {w : World} {K : PySem.W.Frag} {mg mb : Str → Option Value} {CX : CXT} {k : Nat} {fa a : Addr} {fd : FuncData} {x : Str} {sp : Sp} {s₁ : Shared} {vs : List Value} {ns : List Int}
    (KX : K.In s₁.heap) (hns : s₁.heap.Ns mainGlobals mg) (hb : s₁.heap.Ns builtinsNs mb) (hbb : ∀ x : Str, x ≠ "__name__" → mb x = bootBuiltins x) (hlim : s₁.heap.NoLimit) (hg : s₁.gens = #[])
    (ha : s₁.heap.get? a = some { cls := .type "list", data := .seq vs.toArray }) (hi : IntsAre vs ns) (hl : ns.length ≤ sizeLine) (hr : Room k callerA)
    (F : ∀ base : Heap, K.In base → base.Ns mainGlobals mg → FnG P w K mg base CX k fa fd [x] sp) (hbind : ∀ (s : Shared) (u : Value), BindsTo s fd ⟨[u], []⟩ [(x, u)])
    (hsp : ∀ H : Hp, Only H → SqL K H a (ns.map V.int) → sp [.ref a] H (fun v _ => v = .bl true) fun _ _ _ => False)
    (hCX : ∀ H e s', CX [] H s₁ (fun _ _ _ => False) e s' → False) :
    codeAny (model P w) callerA (.call (.ref fa) ⟨[.ref a], []⟩) (fun r s' => r = .ok (.ret (.bool true)) ∧ OldK s₁.heap s'.heap ∧ s'.os = s₁.os ∧ AllBare s'.gens) s₁ := by
  classical
  have rv := vals_ints hi
  have size_eq : vs.length = ns.length := hi.length
  -- what is tracked
  let H : Hp := fun b => if b = a ∧ K.lookup a = none then some (.frz { cls := .type "list", data := .seq vs.toArray } (.lst (ns.map V.int))) else none
  have only_a : ∀ b, H b ≠ none → b = a ∧ K.lookup a = none := fun b hb => by
    by_cases c : b = a ∧ K.lookup a = none
    · exact c
    · exact absurd (if_neg c) hb
  have only : Only H := fun b => by
    by_cases c : b = a ∧ K.lookup a = none
    · exact Or.inr ⟨_, _, if_pos c⟩
    · exact Or.inl (if_neg c)
  have script : SqL K H a (ns.map V.int) := by
    cases hk : K.lookup a with
    | none => exact Or.inl (Or.inr ⟨_, if_pos ⟨rfl, hk⟩⟩)
    | some o =>
      have e := KX a o hk
      rw [ha] at e
      cases e
      exact Or.inr ⟨_, vs.toArray, _, hk, rfl, rfl, rfl, by rw [List.size_toArray, size_eq]; exact hl, by simpa using rv⟩
  have ok : HOk P w H s₁.heap := fun b u z => by
    have c := only_a b (by rw [z]; simp)
    have z' : H b = some _ := if_pos c
    rw [z] at z'
    cases z'
    rw [c.1]
    exact ⟨ha, by rw [List.length_map]; exact hl, vs, _, rv, ha⟩
  have shown : ∀ {b : Addr} {o : Obj}, s₁.heap.get? b = some o → H b = none → (hidT s₁.heap H).get? b = some o := fun e n => hidT_get e n
  have dicts : ∀ {b : Addr} {m : Str → Option Value}, s₁.heap.Ns b m → (hidT s₁.heap H).Ns b m := fun {b m} z => by
    obtain ⟨o, es, ep, e, d, r⟩ := z
    refine ⟨o, es, ep, shown e ?_, d, r⟩
    cases q : H b with
    | none => rfl
    | some u =>
      have c := only_a b (by rw [q]; simp)
      rw [c.1, ha] at e
      cases e
      have d' : Data.seq vs.toArray _ = Data.dict es ep := d
      cases d'
  have Kb : K.In (hidT s₁.heap H) := fun b o e => shown (KX b o e) (by
    cases q : H b with
    | none => rfl
    | some u =>
      have c := only_a b (by rw [q]; simp)
      rw [c.1, c.2] at e
      cases e)
  have M : Mod K mg (hidT s₁.heap H) := by
    refine ⟨Kb, dicts hns, ⟨mb, dicts hb, hbb⟩, ?_⟩
    obtain ⟨mc, h1, h2⟩ := hlim
    exact ⟨mc, dicts h1, h2⟩
  have E0 : Env0 P w K mg (hidT s₁.heap H) callerA [] s₁ H := {
    frames := rfl
    mod := M
    bs := fun b o e => of_hidT e
    bsz := Nat.le_of_eq (hidT_size _ _)
    funs := trivial
    frf := fun b hb => by cases hb
    hok := ok
    bare := .of_eq hg }
  refine codeAny_mono ((F _ Kb (dicts hns)).go callerA [] s₁ H ⟨[.ref a], []⟩ [.ref a] [.ref a] _ _ rfl hr E0 (hbind s₁ (.ref a)) (.cons rfl .nil) (hsp H only script)) fun r s' h => ?_
  match r, h with
  | .error e, h => exact (hCX H e s' h).elim
  | .ok .next, h => exact False.elim h
  | .ok .brk, h => exact False.elim h
  | .ok .cont, h => exact False.elim h
  | .ok (.ret u), h =>
    obtain ⟨v, H', os, bare, un, ok', rel, q⟩ := h
    have q' : v = .bl true := q
    subst q'
    obtain rfl : u = Value.bool true := rel
    refine ⟨rfl, OldK.of_keep fun b o e => ?_, os, bare⟩
    cases q : H b with
    | none => exact un.keep b o e q (fun z => by cases z) (fun z => by cases z)
    | some u =>
      have c := only_a b (by rw [q]; simp)
      have z : H b = some (.frz _ _) := if_pos c
      obtain ⟨e1, _⟩ := ok b _ z
      obtain ⟨e2, _⟩ := ok' b _ (un.frzs b _ _ z)
      rw [e] at e1
      cases e1
      exact e2
theorem walkG {l : PySem.W.OpenLaw} {n k : Nat} {q : Program} {loose : List Str} {XP : (Str → Option Value) → Heap → Prop} {YP : World → Heap → Prop} {d : DefRec} {K : Params → PySem.W.Frag} {sp : PySem.W.Frag → Sp} {x : Str}
    (hn : l.most = some n) (hn2 : n ≤ sizeLine) (hdf : d.params.defaults = []) (hr : Room k callerA)
    (hY : ∀ (w : World) (h : Heap), YP w h → (K w.params).In h)
    (F : ∀ (w : World) (mg : Str → Option Value) (fa : Addr) (h : Heap), (K w.params).In h → h.Ns mainGlobals mg → mg d.name = some (.ref fa) →
      ∃ fd : FuncData, (∀ (s : Shared) (u : Value), BindsTo s fd ⟨[u], []⟩ [(x, u)]) ∧
        ∀ base : Heap, (K w.params).In base → base.Ns mainGlobals mg → FnG l.prog w (K w.params) mg base CX0 k fa fd [x] (sp (K w.params)))
    (hsp : ∀ (w : World) (H : Hp) (a : Addr) (ns : List Int), ns.length ≤ n → Only H → SqL (K w.params) H a (ns.map V.int) → sp (K w.params) [.ref a] H (fun v _ => v = .bl true) fun _ _ _ => False) :
    PySem.W.WalkO q loose XP YP l.row.toRowW d [] (fun f vs => PySem.call f vs) := by
  refine Att.attach_call hn hdf fun w s₀ s₁ mg mb fa o pm cd doc a vs ns G Y ho hd hcd hmg hobj hints hlen hg => ?_
  obtain ⟨fd, hb, hF⟩ := F w mg fa _ (hY w _ Y) G.T.g hmg
  exact law_endG (hY w _ Y) G.T.g G.T.b G.T.builtins G.T.nolimit hg hobj hints (Nat.le_trans hlen hn2) hr hF hb (fun H hO hS => hsp w H a ns hlen hO hS) fun _ _ _ z => z
end TSx

/-! Own layer, part 2: data of any depth (exceptions among them), what evaluates to which data, repr. -/
namespace TSx
open PySem L2 PySem.Spec PyProof.Rows
abbrev Sg := L2.St

/-- data: what stands below a value, all of it -/
inductive D where
  | non | bl (b : Bool) | int (i : Int) | str (x : Str)
  | lst (xs : List D) | tup (xs : List D) | dic (kvs : List (Key × D)) | exc (C : Addr) (fs : List (Str × D))

/-- at a: an exception of the class at C, its own dict at d -/
def exq (a C d : Addr) : HO := .ext fun h => ∃ oe vs, h.get? a = some oe ∧ Zc (.ref C) (some d) oe ∧ oe.data = .fields vs

mutual
inductive Dt (K : PySem.W.Frag) (H : Hp) : V → D → Prop
  | non : Dt K H .non .non
  | bl (b : Bool) : Dt K H (.bl b) (.bl b)
  | int (i : Int) : Dt K H (.int i) (.int i)
  | str (x : Str) : Dt K H (.str x) (.str x)
  | lst {a : Addr} {xs : List V} {ds : List D} : H a = some (.lst xs) → DtA K H xs ds → Dt K H (.ref a) (.lst ds)
  | tup {a : Addr} {xs : List V} {ds : List D} : SqT K H a xs → DtA K H xs ds → Dt K H (.ref a) (.tup ds)
  | dic {a : Addr} {xs : List (Key × V)} {ds : List (Key × D)} : H a = some (.dK xs) → DtK K H xs ds → Dt K H (.ref a) (.dic ds)
  | exc {a C d : Addr} {xs : List (Str × V)} {ds : List (Str × D)} : H a = some (exq a C d) → H d = some (.xd xs) → DtF K H xs ds → Dt K H (.ref a) (.exc C ds)
inductive DtA (K : PySem.W.Frag) (H : Hp) : List V → List D → Prop
  | nil : DtA K H [] []
  | cons {v : V} {vs : List V} {d : D} {ds : List D} : Dt K H v d → DtA K H vs ds → DtA K H (v :: vs) (d :: ds)
inductive DtK (K : PySem.W.Frag) (H : Hp) : List (Key × V) → List (Key × D) → Prop
  | nil : DtK K H [] []
  | cons {k : Key} {v : V} {vs : List (Key × V)} {d : D} {ds : List (Key × D)} : Dt K H v d → DtK K H vs ds → DtK K H ((k, v) :: vs) ((k, d) :: ds)
inductive DtF (K : PySem.W.Frag) (H : Hp) : List (Str × V) → List (Str × D) → Prop
  | nil : DtF K H [] []
  | cons {k : Str} {v : V} {vs : List (Str × V)} {d : D} {ds : List (Str × D)} : Dt K H v d → DtF K H vs ds → DtF K H ((k, v) :: vs) ((k, d) :: ds)
end

/-- H' has all that H has -/
abbrev Gr (H H' : Hp) : Prop := Same H H'
theorem Gr.rfl' {H : Hp} : Gr H H := fun _ _ e => e
theorem Gr.tr {H H1 H2 : Hp} (a : Gr H H1) (b : Gr H1 H2) : Gr H H2 := fun x o e => b x o (a x o e)
theorem gr_new {H : Hp} {p : Addr} {o : HO} (n : H p = none) : Gr H (upd H p o) := fun a u e => by rw [upd_ne (ne_of_none e n)]; exact e
theorem gr_none {H H' : Hp} {p : Addr} (g : Gr H H') (n : H' p = none) : H p = none := by
  cases e : H p with
  | none => rfl
  | some o => rw [g p o e] at n; cases n
theorem gr_T {K : PySem.W.Frag} {H H' : Hp} {a : Addr} {xs : List V} (g : Gr H H') (h : SqT K H a xs) : SqT K H' a xs := by
  rcases h with (h | ⟨o, h⟩) | h
  · exact Or.inl (Or.inl (g _ _ h))
  · exact Or.inl (Or.inr ⟨o, g _ _ h⟩)
  · exact Or.inr h

section
variable {K : PySem.W.Frag} {H H' : Hp}
mutual
theorem Dt.gr (g : Gr H H') : ∀ {v : V} {d : D}, Dt K H v d → Dt K H' v d
  | _, _, .non => .non
  | _, _, .bl b => .bl b
  | _, _, .int i => .int i
  | _, _, .str x => .str x
  | _, _, .lst e a => .lst (g _ _ e) (DtA.gr g a)
  | _, _, .tup e a => .tup (gr_T g e) (DtA.gr g a)
  | _, _, .dic e a => .dic (g _ _ e) (DtK.gr g a)
  | _, _, .exc e f a => .exc (g _ _ e) (g _ _ f) (DtF.gr g a)
theorem DtA.gr (g : Gr H H') : ∀ {v : List V} {d : List D}, DtA K H v d → DtA K H' v d
  | _, _, .nil => .nil
  | _, _, .cons a b => .cons (Dt.gr g a) (DtA.gr g b)
theorem DtK.gr (g : Gr H H') : ∀ {v : List (Key × V)} {d : List (Key × D)}, DtK K H v d → DtK K H' v d
  | _, _, .nil => .nil
  | _, _, .cons a b => .cons (Dt.gr g a) (DtK.gr g b)
theorem DtF.gr (g : Gr H H') : ∀ {v : List (Str × V)} {d : List (Str × D)}, DtF K H v d → DtF K H' v d
  | _, _, .nil => .nil
  | _, _, .cons a b => .cons (Dt.gr g a) (DtF.gr g b)
end
theorem DtA.len {v : List V} {d : List D} (h : DtA K H v d) : v.length = d.length := by
  induction d generalizing v with
  | nil => cases h; rfl
  | cons x d ih => cases h with | cons a b => simp [ih b]
theorem DtA.app : ∀ {v w : List V} {d e : List D}, DtA K H v d → DtA K H w e → DtA K H (v ++ w) (d ++ e)
  | _, _, _, _, .nil, h => h
  | _, _, _, _, .cons a b, h => .cons a (DtA.app b h)
theorem DtA.at : ∀ {v : List V} {d : List D} {i : Nat} {x : V}, DtA K H v d → v[i]? = some x → ∃ y, d[i]? = some y ∧ Dt K H x y
  | _, _, i, x, .nil, e => by simp at e
  | _, _, 0, x, .cons a b, e => by simp at e; subst e; exact ⟨_, rfl, a⟩
  | _, _, i + 1, x, .cons a b, e => by
    obtain ⟨y, h1, h2⟩ := DtA.at (i := i) (x := x) b (by simpa using e)
    exact ⟨y, by simpa using h1, h2⟩
theorem DtF.look {f : Str} : ∀ {v : List (Str × V)} {d : List (Str × D)} {y : D}, DtF K H v d → d.lookup f = some y → ∃ x, v.lookup f = some x ∧ Dt K H x y
  | _, _, y, .nil, e => by simp at e
  | _, _, y, .cons (k := k) a b, e => by
    simp only [List.lookup] at e ⊢
    split at e
    · cases e; exact ⟨_, rfl, a⟩
    · exact DtF.look b e
end

/-! ### as the library's data -/
mutual
def D.py : D → PyData
  | .non => .none
  | .bl b => .bool b
  | .int i => .int i
  | .str x => .str x
  | .lst xs => .list (pyA xs)
  | .tup xs => .tuple (pyA xs)
  | .dic _ => .dict []
  | .exc _ _ => .none
def pyA : List D → List PyData
  | [] => []
  | x :: xs => x.py :: pyA xs
end
mutual
/-- no dict, no exception in it -/
def D.pl : D → Bool
  | .lst xs => plA xs
  | .tup xs => plA xs
  | .dic _ => false
  | .exc _ _ => false
  | .str x => PySem.PyData.strOk x
  | _ => true
def plA : List D → Bool
  | [] => true
  | x :: xs => x.pl && plA xs
end
section
variable {X : Cx} {pins : List (Addr × Obj)} {σ : Sg} {H : Hp} {s : Shared}
mutual
theorem Dt.dp {K : PySem.W.Frag} {H : Hp} : ∀ {v : V} {d : D}, Dt K H v d → d.pl = true → Dp K H v d.py
  | _, _, .non, _ => .non
  | _, _, .bl b, _ => .bl b
  | _, _, .int i, _ => .int i
  | _, _, .str x, _ => .str x
  | _, _, .lst e a, h => .lst (SqL.of e) (DtA.dp a h)
  | _, _, .tup e a, h => .tup e (DtA.dp a h)
  | _, _, .dic e a, h => by cases h
  | _, _, .exc e f a, h => by cases h
theorem DtA.dp {K : PySem.W.Frag} {H : Hp} : ∀ {v : List V} {d : List D}, DtA K H v d → plA d = true → DpAll K H v (pyA d)
  | _, _, .nil, _ => .nil
  | _, _, .cons a b, h => by
    simp only [plA, Bool.and_eq_true] at h
    exact .cons (Dt.dp a h.1) (DtA.dp b h.2)
end
mutual
theorem nodict : ∀ d : D, d.pl = true → d.py.hasDict = false
  | .non, _ => rfl
  | .bl _, _ => rfl
  | .int _, _ => rfl
  | .str _, _ => rfl
  | .lst xs, h => by show PyData.hasDictAll (pyA xs) = false; exact nodictA xs h
  | .tup xs, h => by show PyData.hasDictAll (pyA xs) = false; exact nodictA xs h
  | .dic _, h => by cases h
  | .exc _ _, h => by cases h
theorem nodictA : ∀ d : List D, plA d = true → PyData.hasDictAll (pyA d) = false
  | [], _ => rfl
  | x :: xs, h => by
    simp only [plA, Bool.and_eq_true] at h
    show (x.py.hasDict || PyData.hasDictAll (pyA xs)) = false
    rw [nodict x h.1, nodictA xs h.2]; rfl
end
end

/-- what repr can be asked of here: plain data that fit, or an empty dict -/
def D.rok (d : D) : Prop := (d.pl = true ∨ d = .dic []) ∧ d.py.showable = true ∧ d.py.shown.length ≤ sizeLine ∧ d.py.depth ≤ 50
/-- repr(x) -/
def rRepr (K : PySem.W.Frag) : List V → Hp → VK → Prop := fun xs H Q => ∃ v d, xs = [v] ∧ Dt K H v d ∧ d.rok ∧ Q (.str d.py.shown) H
theorem call_repr {X : Cx} (g : X.A.guards = some []) (hu : X.A.units + 64 < cLine) : CallR X (.builtin "repr") (rRepr X.K) := by
  intro pins s σ H xs us Q I r h
  obtain ⟨v, d, rfl, hd, ⟨hp, hs, hz, hdp⟩, q⟩ := h
  obtain ⟨u, rfl, ru⟩ := vals1 r
  have hu2 : X.A.units + (d.py.depth + 1) < cLine := by omega
  have fin : ∀ h' tk u', (∀ b o, s.heap.get? b = some o → h'.get? b = some o) → EP X pins σ Q (.str d.py.shown u') { s with heap := h', toks := tk } := fun h' tk u' k => ⟨.str d.py.shown, H, I.kept k, ⟨u', rfl⟩, q⟩
  have finT : EP X pins σ Q (.str d.py.shown s.toks) { s with toks := s.toks + 1 } := ⟨.str d.py.shown, H, I.tok _, ⟨_, rfl⟩, q⟩
  -- a container's repr
  have box : ∀ a : Addr, u = .ref a → (∃ as, Reads s.heap (.ref a) d.py as ∧ (d.py.hasDict = true → sysModules ∉ as)) → wpAny (model X.prog X.w) X.A (call (.builtin "repr") [u]) (EP X pins σ Q) X.xe s := fun a e z => by
    obtain ⟨as, rd, hsm⟩ := z
    subst e
    exact repr_of_reads' rd hs hsm g hu2 (fun _ _ e => e) (fun h' u tk k => fin h' tk u k) hz
  rcases hp with hp | hp
  · obtain ⟨as, rd⟩ := Dp.reads I _ _ _ (hd.dp hp) ru
    have nd := nodict d hp
    cases hd with
    | non => cases ru; exact PySem.P.repr_of_none finT
    | bl b => cases ru; exact PySem.P.repr_of_bool finT
    | int i =>
      obtain ⟨t, rfl⟩ := ru
      exact PySem.P.repr_of_int (of_decide_eq_true hs) finT
    | str x =>
      obtain ⟨t, rfl⟩ := ru
      exact PySem.P.repr_of_str finT hz
    | lst e a => exact box _ ru ⟨as, by cases ru; exact rd, fun z => by rw [nd] at z; cases z⟩
    | tup e a => exact box _ ru ⟨as, by cases ru; exact rd, fun z => by rw [nd] at z; cases z⟩
    | dic e a => cases hp
    | exc e f a => cases hp
  · subst hp
    cases hd with
    | @dic a xs ds e kk =>
      cases kk
      cases ru
      obtain ⟨_, lo, vs, rel, o, es, ep, h1, h2, h3, h4, h5, _⟩ := dk_of I.hok e
      cases rel
      have e0 : es.toList = [] := by
        generalize es.toList = l at h5
        cases h5
        rfl
      have n1 : ReadsAll s.heap (es.toList.map (·.key)) (([] : List (PyData × PyData)).map (·.1)) [] := by rw [e0]; exact .nil
      have n2 : ReadsAll s.heap (es.toList.map (·.val)) (([] : List (PyData × PyData)).map (·.2)) [] := by rw [e0]; exact .nil
      refine box a rfl ⟨a :: ([] ++ []), Reads.dict (kvs := []) h1 h2.1 h3 n1 n2, fun _ z => ?_⟩
      have z' : sysModules = a := by simpa using z
      rw [z'] at lo
      simp at lo
end TSx

/-! Own layer, part 3: exceptions with an own __init__ as values: made, read, asked for their class, caught and kept. -/
namespace TSx
open PySem L2 PySem.Spec PyProof.Rows
section
variable {X : Cx} {pins : List (Addr × Obj)} {σ : Sg} {H : Hp} {s : Shared}
theorem exq_ok {P : Program} {w : World} {h : Heap} {a C d : Addr} {oe : Obj} {fv : Array Value} (e : h.get? a = some oe) (z : Zc (.ref C) (some d) oe) (f : oe.data = .fields fv) : ObjOk P w H h a (exq a C d) :=
  ⟨⟨oe, fv, e, z, f⟩, ⟨oe, e⟩, fun _ _ y k => by
    obtain ⟨o, v, e, r⟩ := y
    exact ⟨o, v, k o e, r⟩⟩
theorem exq_at (ok : HOk X.prog X.w H s.heap) {a C d : Addr} (e : H a = some (exq a C d)) : ∃ oe fv, s.heap.get? a = some oe ∧ Zc (.ref C) (some d) oe ∧ oe.data = .fields fv := by
  have x : ObjOk X.prog X.w H s.heap a (.ext fun h => ∃ oe vs, h.get? a = some oe ∧ Zc (.ref C) (some d) oe ∧ oe.data = .fields vs) := ok a _ e
  exact x.1
/-- an object that is not of this frame, nor tracked, becomes tracked -/
theorem Inv.track {a : Addr} {o : HO} (I : L2.Inv X pins σ H s) (na : H a = none) (n0 : X.s_0.heap.get? a = none) (nL : a ≠ X.env.locals) (nC : ∀ x c, X.env.cells.lookup x = some c → c ≠ a) (nP : ∀ p ∈ X.pn ++ pins, p.1 ≠ a)
    (new : ObjOk X.prog X.w (upd H a o) s.heap a o) : L2.Inv X pins σ (upd H a o) s := by
  have old : ∀ {b : Addr} {u : HO}, H b = some u → upd H a o b = some u := fun {b u} e => by rw [upd_ne (ne_of_none e na)]; exact e
  have un : ∀ {b : Addr}, b ≠ a → H b = none → upd H a o b = none := fun {b} h e => by rw [upd_ne h]; exact e
  refine ⟨I.ok, I.os, I.bare, ⟨fun b u e n hb hx => I.base.keep b u e n hb hx, fun b u e n hb hx => I.base.slot b u e n hb hx, fun b u e n hx => un (fun z => by rw [z, n0] at e; cases e) (I.base.free b u e n hx), I.base.there,
    fun b xs e => old (I.base.tups b xs e), fun b u v e => old (I.base.frzs b u v e), fun b ps e => ?_⟩, I.loc, I.cell, un (Ne.symm nL) I.free, fun x c e => un (nC x c e) (I.freeC x c e), fun p hp => ?_, fun b u e => ?_, I.len⟩
  · obtain ⟨m, e1⟩ := I.base.tbls b ps e
    exact ⟨m, old e1⟩
  · obtain ⟨h1, h2, h3⟩ := I.pin p hp
    exact ⟨h1, un (nP p hp) h2, h3⟩
  · by_cases hb : b = a
    · subst hb
      rw [upd_same] at e
      cases e
      exact new
    · rw [upd_ne hb] at e
      exact (I.hok b u e).stay (fun _ _ _ q => q) (fun _ q => old q) fun _ _ q => old q
/-- another description of a tracked thing, of those that may change -/
theorem Inv.retell {a : Addr} {o u : HO} (I : L2.Inv X pins σ H s) (e : H a = some u) (mu : Mut (some u)) (new : ObjOk X.prog X.w (upd H a o) s.heap a o) : L2.Inv X pins σ (upd H a o) s := by
  have m : Mut (H a) := by rw [e]; exact mu
  have th : ∃ ob, s.heap.get? a = some ob := by
    have q := I.hok a u e
    exact objOk_get q
  have J := I.write (h' := s.heap) (t' := s.toks) (x := a) (e := a) (o := o) m (Or.inl rfl) (fun _ _ _ q => q) th new
  exact J
end

/-- what the written part says of the class: how it is made, read, asked -/
structure XC (K : PySem.W.Frag) (C : Addr) : Prop where
  o : OexC K C
  a : ExcC K C
section
variable {X : Cx} {CX : CXT} {x : Str} {C fI : Addr} {k : Nat} {fd : FuncData} {ps : List Str} {sp : Sp} {p pos : Pos} {e : Expr} {es : List Expr} {ta : TA}
/-- C(e, ..) as a value -/
def tMkX (C : Addr) (sp : Sp) (ta : TA) : TE := fun σ H Q => ta σ H fun vs H1 => vs.length ≤ 1000 ∧ ∀ a, H1 a = none → sp (.ref a :: vs) (upd H1 a (exo a C none))
  (fun v H2 => v = .non ∧ ∃ (d : Addr) (fs : List (Str × V)), H2 a = some (exo a C (some d)) ∧ H2 d = some (exd d fs) ∧ Q (.ref a) (upd (upd H2 a (exq a C d)) d (.xd fs))) (fun _ _ _ => False)
theorem made {pins : List (Addr × Obj)} {σ : Sg} {H1 : Hp} {s : Shared} {Q : VK} {us : List Value} {vs : List V} (T : OexC X.K C) (iC : PySem.W.findIn X.K (.ref C) "__init__" = some (some (.ref fI))) (tI : PySem.W.typeIn X.K (.ref fI) = some (.type "function"))
    (F1 : FnOk X.prog X.w X.K X.mg X.base CX k fI fd ps sp) (hr : Room (k + 1) X.A) (hb : Binds X.K fd ps []) (hx : Passes CX X (fun _ _ _ => False)) (I1 : L2.Inv X pins σ H1 s) (r1 : Vals vs us) (hz : vs.length ≤ 1000)
    (q1 : ∀ a, H1 a = none → sp (.ref a :: vs) (upd H1 a (exo a C none)) (fun v H2 => v = .non ∧ ∃ (d : Addr) (fs : List (Str × V)), H2 a = some (exo a C (some d)) ∧ H2 d = some (exd d fs) ∧ Q (.ref a) (upd (upd H2 a (exq a C d)) d (.xd fs))) (fun _ _ _ => False)) :
    wpAny (model X.prog X.w) X.A (call (.ref C) us) (EP X pins σ Q) X.xe s := by
  obtain ⟨nm, q, N, bs, bm, sn, sub, ab, col, dd, k0, k1, k2, k3, k5, hC, hbm⟩ := T.cls
  obtain ⟨hp, g, dr, tk, os⟩ := s
  have nw : H1 (hp.objs.size + 1) = none := I1.hok.fresh (Nat.le_succ _)
  have want := q1 _ nw
  have keep2 : ∀ b o, hp.get? b = some o → ((hp.push (PySem.W.kdv_tup us)).push (PySem.HandSPX.excO C hp.objs.size)).get? b = some o := by
    intro b o e
    exact Heap.get?_push_of_some _ (Heap.get?_push_of_some _ e)
  have there : ((hp.push (PySem.W.kdv_tup us)).push (PySem.HandSPX.excO C hp.objs.size)).get? (hp.objs.size + 1) = some (PySem.HandSPX.excO C hp.objs.size) := by heap_get
  have I2 : L2.Inv X pins σ (upd H1 (hp.objs.size + 1) (exo (hp.objs.size + 1) C none)) ⟨(hp.push (PySem.W.kdv_tup us)).push (PySem.HandSPX.excO C hp.objs.size), g, dr, tk, os⟩ :=
    I1.laid (t' := tk) keep2 (Nat.le_succ _) (exo_ok there)
  have r2 : Vals (V.ref (hp.objs.size + 1) :: vs) (Value.ref (hp.objs.size + 1) :: us) := .cons rfl r1
  have cnt : (Value.ref (hp.objs.size + 1) :: us).length = ps.length := by rw [← r2.length]; exact F1.len _ _ _ _ want
  have few : us.length ≤ sizeLine := by
    have := Paired.length r1
    rw [sizeLine_eq]
    omega
  have bd := hb _ (Value.ref (hp.objs.size + 1) :: us) I2.kIn (by rw [List.append_nil]; exact cnt)
  rw [List.append_nil] at bd
  refine wpAny_call (PySem.HandSPX.call_own F.excBase_ValueError (fun Y => PySem.HandSPX.refsVE_contains Y bm hbm) (I1.kIn _ _ hC) (PySem.W.looks_findIn I1.kIn iC) (fun self => PySem.W.bind_fn I1.kIn self tI) few ?_)
  refine codeAny_mono (F1.run _ X.stack _ _ ⟨Value.ref (hp.objs.size + 1) :: us, []⟩ (Value.ref (hp.objs.size + 1) :: us) _ _ (fun _ _ _ => False) (hr.make C us []) (I2.env0.make C us []) bd r2 want) fun o s' z => ?_
  match o, z with
  | .error er, z => exact hx pins σ _ _ er s' I2 z
  | .ok .next, z => exact False.elim z
  | .ok .brk, z => exact False.elim z
  | .ok .cont, z => exact False.elim z
  | .ok (.ret u), z =>
    obtain ⟨v, H2, os2, bare2, un2, ok2, rv, ev, d, fs, ea, ed, qq⟩ := z
    subst ev
    refine ⟨rv, ?_⟩
    obtain ⟨h2, g2, d2, t2, os'⟩ := s'
    have os2' : os' = os := os2
    subst os2'
    have J : L2.Inv X pins σ H2 ⟨h2, g2, d2, t2, os'⟩ := I2.call (h' := h2) (g' := g2) (d' := d2) (t' := t2) (ch := []) un2 ok2 bare2 (fun b z => absurd z (by simp))
    obtain ⟨t0, hoe⟩ := exo_at J.hok ea
    obtain ⟨mA, hns, rel⟩ := exd_at J.hok ed
    have nd : d ≠ hp.objs.size + 1 := fun z => by
      obtain ⟨o, es', ep, e1, e2, _⟩ := hns
      rw [z] at e1
      have e3 := hoe.symm.trans e1
      cases e3
      cases e2
    have J2 := Inv.retell (o := exq (hp.objs.size + 1) C d) J ea True.intro (exq_ok hoe ⟨rfl, rfl⟩ rfl)
    have J3 := Inv.retell (o := .xd fs) (u := exd d fs) J2 (by rw [upd_ne nd]; exact ed) True.intro ⟨mA, hns, rel⟩
    exact ⟨.ref _, _, J3, rfl, qq⟩
theorem pe_mkX (T : OexC X.K C) (iC : PySem.W.findIn X.K (.ref C) "__init__" = some (some (.ref fI))) (tI : PySem.W.typeIn X.K (.ref fI) = some (.type "function"))
    (F1 : FnOk X.prog X.w X.K X.mg X.base CX k fI fd ps sp) (hr : Room (k + 1) X.A) (hb : Binds X.K fd ps []) (hx : Passes CX X (fun _ _ _ => False)) (hm : X.mg x = some (.ref C)) (ha : PA X (e :: es) ta) (hg : Gl X x := by rfl)
    (hdb : (x == ("__debug__" : Str)) = false := by decide) (he : starEach (e :: es) X.env = (false, eval e X.env) :: starEach es X.env := by rfl) (hpl : (backTo pos (starEach es X.env)).any (·.1) = false := by rfl) :
    PE X (.Call (.Name x p) (e :: es) [] pos) (tMkX C sp ta) := by
  constructor
  intro pins s σ H Q I h
  refine wpAny_Call_Name_kw (ld_glob I hg hm ?_ hdb)
  refine PySem.W.callWith_K (h₀ := X.base) I.ok.mod.kin T.kC (thn (ha.run pos pins s σ H _ I h) fun us s1 z => ?_) he hpl
  obtain ⟨vs, H1, I1, r1, hz, q1⟩ := z
  exact ⟨I1.kIn, made T iC tI F1 hr hb hx I1 r1 hz q1⟩
/-- e.f, e an exception that is tracked -/
def tXa (K : PySem.W.Frag) (f : Str) (te : TE) : TE := fun σ H Q => te σ H fun v H1 => ∃ (a C d : Addr) (fs : List (Str × V)) (y : V), v = .ref a ∧ H1 a = some (exq a C d) ∧ H1 d = some (.xd fs) ∧ ExcC K C ∧ PySem.W.findIn K (.ref C) f = some none ∧ fs.lookup f = some y ∧ Q y H1
theorem pe_xa {te : TE} {f : Str} (he : PE X e te) (hb : attributeBase e f X.env (eval e X.env) = eval e X.env := by rfl) : PE X (.Attribute e f pos) (tXa X.K f te) := by
  constructor
  intro pins s σ H Q I h
  refine attr_of hb (thn (he.run pins s σ H _ I h) fun u s1 z => ?_)
  obtain ⟨v, H1, I1, rv, a, C, d, fs, y, rfl, ea, ed, T, hno, l, q⟩ := z
  obtain rfl : u = Value.ref a := rv
  obtain ⟨oe, fv, h1, hz, hf⟩ := exq_at I1.hok ea
  have hx : ObjOk X.prog X.w H1 s1.heap d (.xd fs) := I1.hok d _ ed
  obtain ⟨mA, hns, rel⟩ := hx
  obtain ⟨od, ho, hl⟩ := lookIn_ns hns
  obtain ⟨u, hu, ru⟩ := RelO.some_of (v := y) (o := mA f) (by rw [← l]; exact rel f)
  have J : PySem.W.InstAt s1.heap a oe C (some od) := { at_ := h1, cls := hz.1, no := by unfold PySem.W.notCls; rw [hf] <;> rfl, dict := by rw [hz.2]; exact ho }
  exact HandSPX.exc_get I1.kIn J T.hg T.hk T.hs (PySem.W.findObj_own T.hd hno rfl (by rw [hl, hu])) (handed_of ru) ⟨y, H1, I1.tok _, ru, q⟩
end
end TSx

/-! Own layer, part 3k: an exception class called by keywords. -/
namespace TSx
open PySem PySem.HandSPX PySem.Spec Builtin Builtin.ObjectAttr
section
variable {prog : Program} {w : World} {A : Around} {E : Value → Shared → Prop} {R : Result → Shared → Prop} {h : Heap} {g : Array GenState} {d : Drawn} {t : Nat} {os : OsState}
variable {nm q : Str} {C N : Addr} {bs bm bmB : List Value} {sn : List Str} {sub : List Value} {ab : Bool} {col : Option Bool} {dd : Option Addr} {k0 k1 k2 k3 k5 : Option Value} {B newId initId : String} {kw : List (Str × Value)}
theorem kw_check_new {M : Model} (F : ExcBaseFacts B newId initId bmB) (hT : ∀ X : String, bm.contains (.type X) = bmB.contains (.type X)) {Q : Unit → Shared → Prop}
    (hC : h.get? C = some (excClassObj nm q C N bs bm true sn sub ab col dd k0 k1 k2 k3 k5 newId)) (hq : Q () ⟨h, g, d, t, os⟩) :
    wpAny M A (checkBuiltinCall newId ⟨[.ref C], kw⟩) Q E ⟨h, g, d, t, os⟩ := by
  have c1 : (Value.ref C :: bm).contains (.type B) = true := by rw [List.contains_cons, hT, F.hasB, Bool.or_true]
  have c2 := F.noStar
  simp only [checkBuiltinCall, F.newKind, F.newSplit, F.newRow]
  repeat (first
    | refine wpAny_loadPart_at hC ?_
    | (refine wpAny_isSubtype_exc hC ?_; rw [c1])
    | refine wpAny_staticBase_exc hC ?_
    | refine wpAny_madeBy_exc hC ?_
    | simp only [bne_self_eq_false, Bool.false_eq_true, if_false]
    | wp_step)
  exact hq
theorem kw_new (F : ExcBaseFacts B newId initId bmB) (hT : ∀ X : String, bm.contains (.type X) = bmB.contains (.type X))
    (hC : h.get? C = some (excClassObj nm q C N bs bm true sn sub ab col dd k0 k1 k2 k3 k5 newId))
    (hq : R (.ok (.ret (.ref (h.objs.size + 1)))) ⟨(h.push (W.kdv_tup [])).push (excO C h.objs.size), g, d, t, os⟩) :
    codeAny (model prog w) A (.builtin newId ⟨[.ref C], kw⟩) R ⟨h, g, d, t, os⟩ := by
  have e1 := F.ends
  have c1 : (Value.ref C :: bm).contains (.type B) = true := by rw [List.contains_cons, hT, F.hasB, Bool.or_true]
  have c2 : (Value.ref C :: bm).contains (.type "AttributeError") = false := by rw [List.contains_cons, hT, F.noAttr]; rfl
  have c3 : (Value.ref C :: bm).contains (.type "NameError") = false := by rw [List.contains_cons, hT, F.noName]; rfl
  have few : ([] : List Value).length ≤ sizeLine := Nat.zero_le _
  refine codeAny_builtinAt F.entry ?_
  unfold Builtin.«BaseException.__new__»
  refine wpAt_bind ?_
  show wpAt _ _ _ (stack >>= _) _ _ _
  refine wpAt_bind (wpAt_stack fun p below => wpAt_of_wpAny ?_)
  wp_walk
  refine wpAt_of_wpAny ?_
  rw [F.owner]
  repeat (first
    | with_reducible refine wpAny_madeHere_exc F.canon hC ?_
    | with_reducible refine wpAny_loadPart_at hC ?_
    | (with_reducible refine wpAny_isSubtype_exc hC ?_; first | rw [c1] | rw [c2] | rw [c3])
    | wp_step)
  show R _ _
  rw [Heap.size_push]
  exact hq
theorem kw_type_call (F : ExcBaseFacts B newId initId bmB) (hT : ∀ X : String, bm.contains (.type X) = bmB.contains (.type X)) {fI : Addr} {Q : Fin → Shared → Prop}
    (hC : h.get? C = some (excClassObj nm q C N bs bm true sn sub ab col dd k0 k1 k2 k3 k5 newId))
    (hi : W.Looks (model prog w) h (typeLookup (.ref C) "__init__") (some (.ref fI))) (hb : ∀ self, W.Looks (model prog w) h (bindSpecial (.ref fI) self) (.ref fI, [self]))
    (hq : codeAny (model prog w) A (.call (.ref fI) ⟨[.ref (h.objs.size + 1)], kw⟩)
      (fun r s' => match r with | .ok (.ret v) => v = .none ∧ Q (.done (.ret (.ref (h.objs.size + 1)))) s' | .ok _ => False | .error e => E e s')
      ⟨(h.push (W.kdv_tup [])).push (excO C h.objs.size), g, d, t, os⟩) :
    wpAny (model prog w) A (Builtin.«type.__call__» ⟨[.ref C], kw⟩) Q E ⟨h, g, d, t, os⟩ := by
  repeat (first
    | with_reducible refine wpAny_loadPart_at hC ?_
    | with_reducible refine wpAny_madeBy_exc hC ?_
    | wp_step)
  refine codeAny_call_builtin_code (Code.quiet_builtin _ F.quiet) (kw_check_new F hT hC ?_)
  refine kw_new F hT hC ?_
  show wpAny _ _ _ _ _ _
  have k : ∀ b o, h.get? b = some o → ((h.push (W.kdv_tup [])).push (excO C h.objs.size)).get? b = some o := fun b o e => Heap.get?_push_of_some _ (Heap.get?_push_of_some _ e)
  have hC1 := k _ _ hC
  have at1 : ((h.push (W.kdv_tup [])).push (excO C h.objs.size)).get? (h.objs.size + 1) = some (excO C h.objs.size) := by heap_get
  have own : (Value.ref C :: bm).contains (.ref C) = true := by simp
  have i1 := hi.keeps k
  have b1 := (hb (.ref (h.objs.size + 1))).keeps k
  unfold isInstance
  repeat (first
    | with_reducible refine wpAny_loadPart_at at1 ?_
    | (with_reducible refine wpAny_isSubtype_exc hC1 ?_; rw [own])
    | wp_step)
  show wpAny _ _ (typeLookup (.ref C) _) _ _ _
  refine i1.at (wpAny_holding (wpAny_bind (b1.at (wpAny_bind (wpAny_call (codeAny_mono hq fun r s' z => ?_))))))
  match r, z with
  | .error _, z => exact z
  | .ok .next, z => exact z.elim
  | .ok .brk, z => exact z.elim
  | .ok .cont, z => exact z.elim
  | .ok (.ret v), z =>
    obtain ⟨rfl, z⟩ := z
    first
      | exact wpAny_pure (wpAny_pure z)
      | (wp_walk; exact z)
theorem kw_check_call {M : Model} {Q : Unit → Shared → Prop} (hC : h.get? C = some (excClassObj nm q C N bs bm true sn sub ab col dd k0 k1 k2 k3 k5 newId)) (hq : Q () ⟨h, g, d, t, os⟩) :
    wpAny M A (checkBuiltinCall "type.__call__" ⟨[.ref C], kw⟩) Q E ⟨h, g, d, t, os⟩ := by
  have f3 := tc_sub
  have ty : (⟨h, g, d, t, os⟩ : Shared).TypeIs (.ref C) "type" := ⟨_, hC, rfl⟩
  simp only [checkBuiltinCall, tc_kind, tc_split]
  repeat (any_goals (first
    | assumption
    | with_reducible refine wpAny_loadPart_at hC ?_
    | with_reducible refine wpAny_onRaise ?_
    | with_reducible refine wpAny_map ?_
    | wp_step))
theorem kw_call (F : ExcBaseFacts B newId initId bmB) (hT : ∀ X : String, bm.contains (.type X) = bmB.contains (.type X)) {fI : Addr}
    (hC : h.get? C = some (excClassObj nm q C N bs bm true sn sub ab col dd k0 k1 k2 k3 k5 newId))
    (hi : W.Looks (model prog w) h (typeLookup (.ref C) "__init__") (some (.ref fI))) (hb : ∀ self, W.Looks (model prog w) h (bindSpecial (.ref fI) self) (.ref fI, [self]))
    (hq : codeAny (model prog w) (A.under (.builtin "type.__call__" ⟨[.ref C], kw⟩)) (.call (.ref fI) ⟨[.ref (h.objs.size + 1)], kw⟩) (W.InitBack (h.objs.size + 1) R)
      ⟨(h.push (W.kdv_tup [])).push (excO C h.objs.size), g, d, t, os⟩) :
    codeAny (model prog w) A (.call (.ref C) ⟨[], kw⟩) R ⟨h, g, d, t, os⟩ := by
  have f1 := tc_lookup
  have f2 := tc_bind (.ref C)
  have ty : (⟨h, g, d, t, os⟩ : Shared).TypeIs (.ref C) "type" := ⟨_, hC, rfl⟩
  refine codeAny_of_tree ?_
  show wpAny _ _ (callAny (.ref C) _) _ _ _
  repeat (any_goals (first
    | assumption
    | with_reducible refine wpAny_loadPart_at hC ?_
    | wp_step))
  refine ⟨rfl, ?_⟩
  refine codeAny_call_builtin_at (Code.quiet_builtin _ (by decide +kernel)) entry_typeCall (kw_check_call hC (kw_type_call F hT hC hi hb ?_))
  refine codeAny_mono hq fun r s' z => ?_
  rcases r with e | (v | _ | _ | _) <;> exact z
end
end TSx

/-! Own layer, part 4: exceptions by keywords, isinstance of them, a try that keeps what it caught. -/
namespace TSx
open PySem L2 PySem.Spec PyProof.Rows
/-- how keywords alone bind behind self -/
structure KwB (fd : FuncData) (ps ks : List Str) (g : List Value → List Value) (gV : List V → List V) : Prop where
  to : ∀ (s : Shared) (self : Value) (ws : List Value), ws.length = ks.length → BindsTo s fd ⟨[self], ks.zip ws⟩ (ps.zip (self :: g ws))
  rel : ∀ {zs : List V} {ws : List Value}, Vals zs ws → Vals (gV zs) (g ws)
section
variable {X : Cx} {CX : CXT} {x : Str} {C fI : Addr} {k : Nat} {fd : FuncData} {ps ks : List Str} {sp : Sp} {p pos : Pos} {kws : List Keyword} {tk : TA} {g : List Value → List Value} {gV : List V → List V}
/-- C(f = e, ..) as a value -/
def tMkK (C : Addr) (m : Nat) (sp : Sp) (gV : List V → List V) (tk : TA) : TE := fun σ H Q => tk σ H fun zs H1 => zs.length = m ∧ ∀ a, H1 a = none → sp (.ref a :: gV zs) (upd H1 a (exo a C none))
  (fun v H2 => v = .non ∧ ∃ (d : Addr) (fs : List (Str × V)), H2 a = some (exo a C (some d)) ∧ H2 d = some (exd d fs) ∧ Q (.ref a) (upd (upd H2 a (exq a C d)) d (.xd fs))) (fun _ _ _ => False)
theorem madeK {pins : List (Addr × Obj)} {σ : Sg} {H1 : Hp} {s : Shared} {Q : VK} {ws : List Value} {zs : List V} (T : OexC X.K C) (iC : PySem.W.findIn X.K (.ref C) "__init__" = some (some (.ref fI))) (tI : PySem.W.typeIn X.K (.ref fI) = some (.type "function"))
    (F1 : FnOk X.prog X.w X.K X.mg X.base CX k fI fd ps sp) (hr : Room (k + 1) X.A) (hb : KwB fd ps ks g gV) (hx : Passes CX X (fun _ _ _ => False)) (I1 : L2.Inv X pins σ H1 s) (r1 : Vals zs ws) (hz : zs.length = ks.length)
    (q1 : ∀ a, H1 a = none → sp (.ref a :: gV zs) (upd H1 a (exo a C none)) (fun v H2 => v = .non ∧ ∃ (d : Addr) (fs : List (Str × V)), H2 a = some (exo a C (some d)) ∧ H2 d = some (exd d fs) ∧ Q (.ref a) (upd (upd H2 a (exq a C d)) d (.xd fs))) (fun _ _ _ => False)) :
    wpAny (model X.prog X.w) X.A (call (.ref C) [] (ks.zip ws)) (EP X pins σ Q) X.xe s := by
  obtain ⟨nm, q, N, bs, bm, sn, sub, ab, col, dd, k0, k1, k2, k3, k5, hC, hbm⟩ := T.cls
  obtain ⟨hp, gs, dr, tk, os⟩ := s
  have nw : H1 (hp.objs.size + 1) = none := I1.hok.fresh (Nat.le_succ _)
  have want := q1 _ nw
  have keep2 : ∀ b o, hp.get? b = some o → ((hp.push (PySem.W.kdv_tup [])).push (PySem.HandSPX.excO C hp.objs.size)).get? b = some o := by
    intro b o e
    exact Heap.get?_push_of_some _ (Heap.get?_push_of_some _ e)
  have there : ((hp.push (PySem.W.kdv_tup [])).push (PySem.HandSPX.excO C hp.objs.size)).get? (hp.objs.size + 1) = some (PySem.HandSPX.excO C hp.objs.size) := by heap_get
  have I2 : L2.Inv X pins σ (upd H1 (hp.objs.size + 1) (exo (hp.objs.size + 1) C none)) ⟨(hp.push (PySem.W.kdv_tup [])).push (PySem.HandSPX.excO C hp.objs.size), gs, dr, tk, os⟩ :=
    I1.laid (t' := tk) keep2 (Nat.le_succ _) (exo_ok there)
  have r2 : Vals (V.ref (hp.objs.size + 1) :: gV zs) (Value.ref (hp.objs.size + 1) :: g ws) := .cons rfl (hb.rel r1)
  have bd := hb.to ⟨(hp.push (PySem.W.kdv_tup [])).push (PySem.HandSPX.excO C hp.objs.size), gs, dr, tk, os⟩ (Value.ref (hp.objs.size + 1)) ws (by rw [← r1.length]; exact hz)
  refine wpAny_call (kw_call F.excBase_ValueError (fun Y => PySem.HandSPX.refsVE_contains Y bm hbm) (I1.kIn _ _ hC) (PySem.W.looks_findIn I1.kIn iC) (fun self => PySem.W.bind_fn I1.kIn self tI) ?_)
  refine codeAny_mono (F1.run _ X.stack _ _ ⟨[Value.ref (hp.objs.size + 1)], ks.zip ws⟩ (Value.ref (hp.objs.size + 1) :: g ws) _ _ (fun _ _ _ => False) (hr.make C [] (ks.zip ws)) (I2.env0.make C [] (ks.zip ws)) bd r2 want) fun o s' z => ?_
  match o, z with
  | .error er, z => exact hx pins σ _ _ er s' I2 z
  | .ok .next, z => exact False.elim z
  | .ok .brk, z => exact False.elim z
  | .ok .cont, z => exact False.elim z
  | .ok (.ret u), z =>
    obtain ⟨v, H2, os2, bare2, un2, ok2, rv, ev, d, fs, ea, ed, qq⟩ := z
    subst ev
    refine ⟨rv, ?_⟩
    obtain ⟨h2, g2, d2, t2, os'⟩ := s'
    have os2' : os' = os := os2
    subst os2'
    have J : L2.Inv X pins σ H2 ⟨h2, g2, d2, t2, os'⟩ := I2.call (h' := h2) (g' := g2) (d' := d2) (t' := t2) (ch := []) un2 ok2 bare2 (fun b z => absurd z (by simp))
    obtain ⟨t0, hoe⟩ := exo_at J.hok ea
    obtain ⟨mA, hns, rel⟩ := exd_at J.hok ed
    have nd : d ≠ hp.objs.size + 1 := fun z => by
      obtain ⟨o, es', ep, e1, e2, _⟩ := hns
      rw [z] at e1
      have e3 := hoe.symm.trans e1
      cases e3
      cases e2
    have J2 := Inv.retell (o := exq (hp.objs.size + 1) C d) J ea True.intro (exq_ok hoe ⟨rfl, rfl⟩ rfl)
    have J3 := Inv.retell (o := .xd fs) (u := exd d fs) J2 (by rw [upd_ne nd]; exact ed) True.intro ⟨mA, hns, rel⟩
    exact ⟨.ref _, _, J3, rfl, qq⟩
theorem pe_mkK (T : OexC X.K C) (iC : PySem.W.findIn X.K (.ref C) "__init__" = some (some (.ref fI))) (tI : PySem.W.typeIn X.K (.ref fI) = some (.type "function"))
    (F1 : FnOk X.prog X.w X.K X.mg X.base CX k fI fd ps sp) (hr : Room (k + 1) X.A) (hb : KwB fd ps ks g gV) (hx : Passes CX X (fun _ _ _ => False)) (hm : X.mg x = some (.ref C)) (hkw : PK X kws tk) (hg : Gl X x := by rfl)
    (hall : (backToKw pos (keywordEach kws X.env)).all (·.1.isSome) = true := by rfl) (hks : (backToKw pos (keywordEach kws X.env)).filterMap (·.1) = ks := by rfl) (hdb : (x == ("__debug__" : Str)) = false := by decide)
    (hpl : ((backTo pos (starEach [] X.env)).any (·.1) || (backToKw pos (keywordEach kws X.env)).any (·.1.isNone)) = false := by rfl) :
    PE X (.Call (.Name x p) [] kws pos) (tMkK C ks.length sp gV tk) := by
  constructor
  intro pins s σ H Q I h
  refine wpAny_Call_Name_kw (ld_glob I hg hm ?_ hdb)
  refine PySem.W.callWith_KW0 (h₀ := X.base) I.ok.mod.kin T.kC hall ?_ hpl
  refine thn (hkw.run pos pins s σ H _ I h) fun ws s2 z => ?_
  obtain ⟨zs, H2, I2, rz, l, q2⟩ := z
  refine ⟨I2.kIn, ?_⟩
  rw [hks]
  exact madeK T iC tI F1 hr hb hx I2 rz l q2
end

/-- isinstance(e, c), e a tracked exception -/
def rIsX (K : PySem.W.Frag) : List V → Hp → VK → Prop := fun xs H Q => ∃ (a C d : Addr) (fs : List (Str × V)) (c : V) (cv : Value) (b : Bool), xs = [.ref a, c] ∧ H a = some (exq a C d) ∧ H d = some (.xd fs) ∧ ExcC K C ∧ (∀ u, RelV c u → u = cv) ∧ PySem.W.kitOne K (.ref C) cv = some b ∧ Q (.bl b) H
theorem call_isX {X : Cx} : CallR X (.builtin "isinstance") (rIsX X.K) := by
  intro pins s σ H xs us Q I r h
  obtain ⟨a, C, d, fs, c, cv, b, rfl, ea, ed, T, hc, e, q⟩ := h
  obtain ⟨u1, u2, rfl, r1, r2⟩ := vals2 r
  cases (show u1 = Value.ref a from r1)
  have e2 := hc _ r2
  subst e2
  obtain ⟨oe, fv, h1, hz, hf⟩ := exq_at I.hok ea
  have hx : ObjOk X.prog X.w H s.heap d (.xd fs) := I.hok d _ ed
  obtain ⟨mA, hns, rel⟩ := hx
  obtain ⟨od, ho, hl⟩ := lookIn_ns hns
  have J : PySem.W.InstAt s.heap a oe C (some od) := { at_ := h1, cls := hz.1, no := by unfold PySem.W.notCls; rw [hf] <;> rfl, dict := by rw [hz.2]; exact ho }
  have isC : (PySem.W.clsIn X.K C).isSome = true := by
    obtain ⟨cd, hcd, _⟩ := PySem.W.any_some T.hd
    rw [hcd]
    rfl
  exact PySem.W.kia_one (PySem.W.kitx_exc isC T.hg T.hk T.hs T.ha T.hn T.ht T.hm) I.kIn J e (fun z => nomatch z) fun tk => ⟨.bl b, H, I.kept (t' := tk) fun _ _ z => z, rfl, q⟩
end TSx

/-! Own layer, part 5: try .. except C as n: the caught exception stays tracked behind the suite. -/
namespace TSx
open PySem L2 PySem.Spec PyProof.Rows
/-- what the clauses wish of an exception of the body: (class, slot of the name, suite) one after the other -/
def wT (K : PySem.W.Frag) (Wout : WX) (D : Ends) : List (Value × Nat × TS) → WX
  | [] => Wout
  | (c, i, ts) :: r => fun cls d σ H => ∃ b, PySem.W.exmOne K cls c = some b ∧
      (b = true → ∃ (C dd : Addr), cls = .ref C ∧ d = some dd ∧ ∀ a, H a = none → ts { nx := fun σ' H' => D.nx (σ'.set i none) H', rt := D.rt, bk := fun σ' H' => D.bk (σ'.set i none) H', ct := fun σ' H' => D.ct (σ'.set i none) H' } (σ.set i (some (.ref a))) (upd H a (exq a C dd))) ∧
      (b = false → wT K Wout D r cls d σ H)
inductive Hds (X : Cx) : List ExceptHandler → List (Value × Nat × TS) → Prop
  | nil : Hds X [] []
  | cons {x n : Str} {c : Value} {i : Nat} {ts : TS} {b₀ : Stmt} {suite : List Stmt} {np pos' : Pos} {hds : List ExceptHandler} {l : List (Value × Nat × TS)} (hc : Names X x c) (hi : X.N[i]? = some n) (hln : X.env.kindOf n = some .local)
      (hsu : ∀ (a : Addr) (pn : List (Addr × Obj)), PSs (X.suite a pn) (b₀ :: suite) ts) (r : Hds X hds l) :
      Hds X (.ExceptHandler (some (.Name x np)) (some n) (b₀ :: suite) pos' :: hds) ((c, i, ts) :: l)
theorem suite_in {X : Cx} {pins : List (Addr × Obj)} {σ : Sg} {H : Hp} {s : Shared} (I : L2.Inv X pins σ H s) (a : Addr) : L2.Inv (X.suite a (X.pn ++ pins)) [] σ H s :=
  ⟨I.ok.suite _ _, I.os, I.bare, I.base, I.loc, I.cell, I.free, I.freeC, fun p hp => I.pin p (by rw [List.append_nil] at hp; exact hp), I.hok, I.len⟩
theorem suite_out {X : Cx} {pins pn' : List (Addr × Obj)} {σ : Sg} {H : Hp} {s : Shared} {a : Addr} (I : L2.Inv (X.suite a (X.pn ++ pins)) pn' σ H s) (ok : X.Ok) : L2.Inv X pins σ H s :=
  ⟨ok, I.os, I.bare, I.base, I.loc, I.cell, I.free, I.freeC, fun p hp => I.pin p (List.mem_append_left _ hp), I.hok, I.len⟩
section
variable {X : Cx} {body : List Stmt} {h₀ : ExceptHandler} {hds : List ExceptHandler} {l : List (Value × Nat × TS)} {pos : Pos} {tb : WX → TS} {Wout : WX}
theorem ps_tryT (hs : X.stack = X.env :: X.outer) (hf : X.env.frame = some X.env.locals) (hN : X.N.Nodup) (hex : X.ex = []) (tk : Takes X Wout)
    (hb : ∀ (W : WX) (pn : List (Addr × Obj)) (xe : Value → Shared → Prop), Takes (X.tr pn xe) W → PassesOwn (model X.prog X.w) X.A X.env xe → PSs (X.tr pn xe) body (tb W))
    (hh : Hds X (h₀ :: hds) l) : PS X (.Try body (h₀ :: hds) [] [] pos) (fun D σ H => tb (wT X.K Wout D l) D σ H) := by
  constructor
  intro pins s σ H D I h
  have ok := I.ok
  have fr : X.A.frames = some (X.env :: X.outer) := by rw [ok.frames, hs]
  refine wpAny_Try_except ?_
  refine wpAny_mono ((hb (wT X.K Wout D l) (X.pn ++ pins) (fun e s₁ => wpAny (model X.prog X.w) X.A (noteFrame e X.env) (fun _ s₂ => wpAny (model X.prog X.w) X.A (setFlight e none) (fun _ s₃ =>
    wpAny (model X.prog X.w) X.A (handleBy e X.env (h₀ :: hds)) (SP X pins D) X.xe s₃) X.xe s₂) X.xe s₁) (fun u s' xx => ?_) PassesOwn.looking).run [] s σ H D (I.toTry _) h) (fun f s1 hsp => ?_) (fun e s1 he => he)
  · obtain ⟨a, B, sI, pins', σ', H', cls, d, rfl, J', nb, up, sky, na, os, ag, w⟩ := xx
    have J : L2.Inv X pins σ' H' sI := J'.ofTry ok
    have sky2 : Sky B (X.env :: X.outer) a (Zc cls d) X.env.locals s'.heap := by rw [← hs]; exact sky
    show wpAny (model X.prog X.w) X.A (noteFrame (.ref a) X.env) _ _ _
    refine Sky.land Zc.steady fr hf sky2 fun h3 fl3 up3 => ?_
    have J3 : L2.Inv X pins σ' H' { s' with heap := h3 } := J.landed nb fl3.1 (up.trans up3) os ag
    obtain ⟨oe3, vs3, he3, hz3, hd3⟩ := fl3.there
    have nfr : a ∉ frs (X.env :: X.outer) := fun hm => by
      obtain ⟨_, o', e', hnf⟩ := fl3.2.2.1.mem hm
      rw [he3] at e'
      cases e'
      exact hnf _ hd3
    have nL : a ≠ X.env.locals := fun z => nfr (List.mem_filterMap.mpr ⟨X.env, List.mem_cons_self, by rw [hf, z]⟩)
    have nI : sI.heap.get? a = none := by
      cases q : sI.heap.get? a with
      | none => rfl
      | some o =>
        have z := nb a o q (by rw [hs]; exact nfr)
        rw [fl3.2.1] at z
        cases z
    have n0 : X.s_0.heap.get? a = none := by
      cases q : X.s_0.heap.get? a with
      | none => rfl
      | some o =>
        obtain ⟨o', z⟩ := J.base.there a o q (by rw [hex]; simp)
        rw [nI] at z
        cases z
    have nP : ∀ p ∈ X.pn ++ pins, p.1 ≠ a := fun p hp z => by
      have q := (J.pin p hp).1
      rw [z, nI] at q
      cases q
    have S3 := suite_in J3 a
    have go : ∀ {hds' : List ExceptHandler} {l' : List (Value × Nat × TS)}, Hds X hds' l' → wT X.K Wout D l' cls d σ' H' →
        wpAny (model X.prog X.w) X.A (handleBy (.ref a) X.env hds') (SP X pins D) X.xe { s' with heap := h3 } := by
      intro hds' l' hk
      induction hk with
      | nil =>
        intro w
        refine wpAny_handleBy_nil ?_
        obtain ⟨k1, k2, k3, oe, vs, T, oT, ts', he, hz, hd, h1, hr⟩ := id fl3
        unfold PySem.passOn
        refine wpAny_bind (wpAny_field he hd h1 ?_)
        rw [if_neg (show ¬ ((Value.ref T == Value.none) = true) from by simp)]
        have last : wpAny (model X.prog X.w) X.A (setFlight (.ref a) X.env.frame) (fun _ s4 => wpAny (model X.prog X.w) X.A (throw (.ref a) : Sem Flow) (SP X pins D) X.xe s4) X.xe { s' with heap := h3 } := by
          rw [hf]
          refine HandSPX.setFlight_upZ fl3 fun h4 hh4 up4 => wpAny_throw (tk _ _ ?_)
          exact ⟨a, B, sI, pins, σ', H', cls, d, rfl, J, nb, (up.trans up3).trans up4, .inr (.inr (by rw [hs]; exact hh4)), na, os, ag, w⟩
        first
          | exact wpAny_bind (wpAny_pure (wpAny_bind last))
          | exact wpAny_bind last
      | @cons x n c i ts b₀ suite np pos' hds2 l2 hc hi hln hsu r ih =>
        intro w
        obtain ⟨b, hb1, hyes, hno⟩ := w
        refine wpAny_handleBy_cons (codeAny_handlers_test ?_) (by intro q; cases q)
        have LT : PySem.W.Looks (model X.prog X.w) h3 (typeOf (.ref a)) cls := fun A Q E s k q => wpAny_typeOf_ref (k _ _ he3) (by rw [hz3.1]; exact q)
        have LM := PySem.W.exm_one (M := model X.prog X.w) (J3.kIn) LT hb1
        have ask : ∀ {Q : Value → Shared → Prop} {E : Value → Shared → Prop}, Q c { s' with heap := h3 } → wpAny (model X.prog X.w) (X.A.mark (some (.ref a))) (eval (.Name x np) X.env) Q E { s' with heap := h3 } := fun {Q E} q => by
          obtain ⟨hg, hdbg, hm | ⟨hm, hv, hnn⟩⟩ := hc
          · exact ld_glob (X := X.suite a (X.pn ++ pins)) S3 hg hm q hdbg
          · exact ld_blt (X := X.suite a (X.pn ++ pins)) S3 hg hm hv q hnn hdbg
        refine ask (LM.here ?_)
        cases b with
        | true =>
          obtain ⟨C, dd, rfl, rfl, want⟩ := hyes rfl
          refine codeAny_handlers_suite_as ?_
          refine HandSPX.lands_againZ fl3 fun h4 fl4 up4 => ?_
          have J4 : L2.Inv X pins σ' H' { s' with heap := h4 } := J.landed nb fl4.1 ((up.trans up3).trans up4) os ag
          obtain ⟨oe4, vs4, he4, hz4, hd4⟩ := fl4.there
          have nC : ∀ y c', X.env.cells.lookup y = some c' → c' ≠ a := fun y c' e z => by
            obtain ⟨v, o, ho, hdat⟩ := J4.cell y c' e
            rw [z] at ho
            have ho' : h4.get? a = some o := ho
            rw [he4] at ho'
            cases ho'
            rw [hd4] at hdat
            cases hdat
          have J5 := Inv.track J4 na n0 nL nC nP (exq_ok (C := C) (d := dd) he4 hz4 hd4)
          have S5 := suite_in J5 a
          refine store_ok (X := X.suite a (X.pn ++ pins)) (v := .ref a) S5 hN hi (.inl hln) rfl (fun s6 S6 => ?_) (.inr hln)
          refine wpAny_mono ((hsu a (X.pn ++ pins)).run [] s6 _ _ _ S6 (want a na)) (fun f s7 hsp => ?_) (fun _ _ z => False.elim z)
          have close : ∀ {σ7 : Sg} {H7 : Hp} {Q : Shared → Prop}, L2.Inv (X.suite a (X.pn ++ pins)) [] σ7 H7 s7 → (∀ s8, L2.Inv X pins (σ7.set i none) H7 s8 → Q s8) →
              wpAny (model X.prog X.w) X.A (do bindName X.env n .none; unbindBehindTheSuite X.env n pos') (fun _ s8 => Q s8) X.xe s7 := fun {σ7 H7 Q} S7 hq => gone_ok (suite_out S7 ok) hN hi hln hq
          cases f with
          | next =>
            obtain ⟨σ7, H7, S7, q7⟩ := hsp
            exact close S7 fun s8 J8 => ⟨_, _, J8, q7⟩
          | brk =>
            obtain ⟨σ7, H7, S7, q7⟩ := hsp
            exact close S7 fun s8 J8 => ⟨_, _, J8, q7⟩
          | cont =>
            obtain ⟨σ7, H7, S7, q7⟩ := hsp
            exact close S7 fun s8 J8 => ⟨_, _, J8, q7⟩
          | ret u =>
            obtain ⟨v7, σ7, H7, S7, r7, q7⟩ := hsp
            exact close S7 fun s8 J8 => ⟨_, _, _, J8, r7, q7⟩
        | false =>
          show wpAny _ X.A (handleBy (.ref a) X.env hds2) _ _ _
          exact ih (hno rfl)
    exact go hh w
  · cases f with
    | next =>
      obtain ⟨σ', H', J', q⟩ := hsp
      exact wpAny_execs_nil ⟨σ', H', J'.ofTry ok, q⟩
    | brk =>
      obtain ⟨σ', H', J', q⟩ := hsp
      exact ⟨σ', H', J'.ofTry ok, q⟩
    | cont =>
      obtain ⟨σ', H', J', q⟩ := hsp
      exact ⟨σ', H', J'.ofTry ok, q⟩
    | ret u =>
      obtain ⟨v, σ', H', J', r, q⟩ := hsp
      exact ⟨v, σ', H', J'.ofTry ok, r, q⟩
end
end TSx

/-! Own layer, part 6: repr of data among which dicts stand (their values without parts). -/
namespace TSx
open PySem L2 PySem.Spec PyProof.Rows
/-- a thing without parts, as the library's data -/
def D.s0 : D → PyData
  | .bl b => .bool b
  | .int i => .int i
  | .str x => .str x
  | _ => .none
def pdKey : Key → PyData
  | .inl i => .int i
  | .inr x => .str x
mutual
def D.pd : D → PyData
  | .non => .none
  | .bl b => .bool b
  | .int i => .int i
  | .str x => .str x
  | .lst xs => .list (pdA xs)
  | .tup xs => .tuple (pdA xs)
  | .dic kvs => .dict (kvs.map fun p => (pdKey p.1, p.2.s0))
  | .exc _ _ => .none
def pdA : List D → List PyData
  | [] => []
  | x :: xs => x.pd :: pdA xs
end
def D.flat : D → Bool
  | .non => true
  | .bl _ => true
  | .int _ => true
  | .str _ => true
  | _ => false
mutual
/-- no exception in it, dicts hold things without parts -/
def D.sh : D → Bool
  | .lst xs => shA xs
  | .tup xs => shA xs
  | .dic kvs => kvs.all fun p => p.2.flat
  | .exc _ _ => false
  | _ => true
def shA : List D → Bool
  | [] => true
  | x :: xs => x.sh && shA xs
end
section
variable {P : Program} {w : World} {h : Heap}
/-- the value reads as p and shows as p -/
def Rp (P : Program) (w : World) (h : Heap) (u : Value) (p : PyData) : Prop := (∃ as, Reads h u p as) ∧ ∃ bs, ReadAtMost h p.depth bs ∧ ReprK P w bs h p.depth u p.shown
def RpA (P : Program) (w : World) (h : Heap) (us : List Value) (ps : List PyData) : Prop := (∃ as, ReadsAll h us ps as) ∧ ∃ bs, ReadAtMost h (PyData.depthAll ps) bs ∧ ReprAllK P w bs h (PyData.depthAll ps) us (PyData.shownAll ps)
theorem rpA_nil : RpA P w h [] [] := ⟨⟨_, .nil⟩, [], (fun _ z => nomatch z), by simp only [PyData.shownAll]; exact .nil⟩
theorem rpA_cons {u : Value} {us : List Value} {p : PyData} {ps : List PyData} (a : Rp P w h u p) (b : RpA P w h us ps) : RpA P w h (u :: us) (p :: ps) := by
  obtain ⟨⟨_, r1⟩, xs, m1, k1⟩ := a
  obtain ⟨⟨_, r2⟩, ys, m2, k2⟩ := b
  have e : PyData.depthAll (p :: ps) = max p.depth (PyData.depthAll ps) := by simp only [PyData.depthAll]
  have e2 : PyData.shownAll (p :: ps) = p.shown :: PyData.shownAll ps := by simp only [PyData.shownAll]
  unfold RpA
  rw [e, e2]
  exact ⟨⟨_, .cons r1 r2⟩, xs ++ ys, (m1.mono (Nat.le_max_left ..)).append (m2.mono (Nat.le_max_right ..)), .cons ((k1.more fun b hb => List.mem_append_left _ hb).level_le (Nat.le_max_left ..)) (k2.more_le (fun b hb => List.mem_append_right _ hb) (Nat.le_max_right ..))⟩
/-- what a list's (tuple's, dict's) node wants of its parts -/
theorem rp_node {a : Addr} {p : PyData} {n : Nat} (r : ∃ as, Reads h (.ref a) p as) (e : p.depth = n + 1) {bs : List Addr} (m : ReadAtMost h n bs) : a ∉ bs ∧ ReadAtMost h p.depth (a :: bs) := by
  obtain ⟨_, r⟩ := r
  exact ⟨not_mem_of_deeper r (by rw [e]; exact Nat.lt_succ_self _) m, ReadAtMost.cons r (by rw [e]; exact Nat.le_succ _) m⟩
theorem rp_list {a : Addr} {o : Obj} {its : List Value} {n : Nat} {ps : List PyData} (h1 : h.get? a = some o) (h2 : o.cls = .type "list") (h3 : o.data = .seq its.toArray n) (q : RpA P w h its ps) : Rp P w h (.ref a) (.list ps) := by
  obtain ⟨⟨_, ra⟩, bs, m, k⟩ := q
  have r : ∃ as, Reads h (.ref a) (.list ps) as := ⟨_, .list h1 h2 h3 (by simpa using ra)⟩
  obtain ⟨hn, hm⟩ := rp_node r (by simp only [PyData.depth]) m
  refine ⟨r, a :: bs, hm, ?_⟩
  simp only [PyData.depth, PyData.shown]
  cases its with
  | nil =>
    cases ra
    simp only [PyData.shownAll, listText_nil]
    exact ReprK.listEmpty h1 h2 h3
  | cons x l => exact ReprK.list h1 h2 h3 hn (by have := k.length_eq; simpa using this) fun i y e => k.item i y (by simpa using e)
theorem rp_tuple {a : Addr} {o : Obj} {its : List Value} {n : Nat} {ps : List PyData} (h1 : h.get? a = some o) (h2 : o.cls = .type "tuple") (h3 : o.data = .seq its.toArray n) (q : RpA P w h its ps) : Rp P w h (.ref a) (.tuple ps) := by
  obtain ⟨⟨_, ra⟩, bs, m, k⟩ := q
  have r : ∃ as, Reads h (.ref a) (.tuple ps) as := ⟨_, .tuple h1 h2 h3 (by simpa using ra)⟩
  obtain ⟨hn, hm⟩ := rp_node r (by simp only [PyData.depth]) m
  refine ⟨r, a :: bs, hm, ?_⟩
  simp only [PyData.depth, PyData.shown]
  exact ReprK.tuple h1 h2 h3 hn (by simpa using k)
/-- a dict's entries, keys and values one by one -/
structure RpD (P : Program) (w : World) (h : Heap) (es : List DictEntry) (kvs : List (PyData × PyData)) : Prop where
  r1 : ∃ as, ReadsAll h (es.map (·.key)) (kvs.map (·.1)) as
  r2 : ∃ as, ReadsAll h (es.map (·.val)) (kvs.map (·.2)) as
  k : ∃ bs, ReadAtMost h (PyData.depthKv kvs) bs ∧ ReprEntriesK P w bs h (PyData.depthKv kvs) es (PyData.shownKv kvs)
theorem rpD_nil : RpD P w h [] [] := ⟨⟨_, .nil⟩, ⟨_, .nil⟩, [], (fun _ z => nomatch z), by simp only [PyData.shownKv]; exact .nil⟩
theorem rp_dict {a : Addr} {o : Obj} {es : Array DictEntry} {n : Nat} {kvs : List (PyData × PyData)} (h1 : h.get? a = some o) (h2 : o.cls = .type "dict") (h3 : o.data = .dict es n) (hs : (a == sysModules) = false) (q : RpD P w h es.toList kvs) : Rp P w h (.ref a) (.dict kvs) := by
  obtain ⟨⟨_, r1⟩, ⟨_, r2⟩, bs, m, k⟩ := q
  have r : ∃ as, Reads h (.ref a) (.dict kvs) as := ⟨_, .dict h1 h2 h3 r1 r2⟩
  obtain ⟨hn, hm⟩ := rp_node r (by simp only [PyData.depth]) m
  refine ⟨r, a :: bs, hm, ?_⟩
  simp only [PyData.depth, PyData.shown]
  exact ReprK.dict h1 h2 h3 hs hn k
theorem rp_flat {p : PyData} {u : Value} (r : Reads h u p []) (k : ReprK P w [] h 0 u p.shown) : Rp P w h u p := ⟨⟨_, r⟩, [], (fun _ z => nomatch z), k.level_le (Nat.zero_le _)⟩
end
section
variable {X : Cx} {pins : List (Addr × Obj)} {σ : Sg} {H : Hp} {s : Shared}
theorem rp_non : Rp X.prog X.w s.heap .none .none := rp_flat .none (by simp only [PyData.shown]; exact .of_is ReprIs.none _ _ _)
theorem rp_bl (b : Bool) : Rp X.prog X.w s.heap (.bool b) (.bool b) := rp_flat (.bool b) (by simp only [PyData.shown]; exact .of_is (ReprIs.bool b) _ _ _)
theorem rp_int (i : Int) (t : Tok) (z : (PyData.int i).showable = true) : Rp X.prog X.w s.heap (.int i t) (.int i) := rp_flat (.int i t) (by simp only [PyData.shown]; exact .of_is (ReprIs.int t (by simpa [PyData.showable] using z)) _ _ _)
theorem rp_str (x : Str) (t : Tok) (z : (PyData.str x).shown.length ≤ sizeLine) : Rp X.prog X.w s.heap (.str x t) (.str x) := rp_flat (.str x t) (by simp only [PyData.shown]; exact .of_is (ReprIs.str x t (by simpa only [PyData.shown] using z)) _ _ _)
theorem rp_s0 {d : D} {v : V} {u : Value} (hd : Dt X.K H v d) (r : RelV v u) (f : d.flat = true) (z : d.s0.showable = true) (l : d.s0.shown.length ≤ sizeLine) : Rp X.prog X.w s.heap u d.s0 := by
  cases hd with
  | non => cases r; exact rp_non
  | bl b => cases r; exact rp_bl b
  | int i => obtain ⟨t, rfl⟩ := r; exact rp_int i t z
  | str x => obtain ⟨t, rfl⟩ := r; exact rp_str x t l
  | lst _ _ => cases f
  | tup _ _ => cases f
  | dic _ _ => cases f
  | exc _ _ _ => cases f
theorem rp_key {k : Key} {u : Value} (r : (mixKind X.prog X.w).is k u = true) (z : (pdKey k).showable = true) (l : (pdKey k).shown.length ≤ sizeLine) : Rp X.prog X.w s.heap u (pdKey k) := by
  rcases keyIs_shape (k := k) (v := u) r with ⟨i, t, rfl, rfl⟩ | ⟨x, t, rfl, rfl⟩
  · exact rp_int i t z
  · exact rp_str x t l
theorem rp_ents : ∀ (ds : List (Key × D)) (xs : List (Key × V)) (vs : List (Key × Value)) (es : List DictEntry), DtK X.K H xs ds → KV xs vs → Pairs (mixKind X.prog X.w) es vs → ds.all (fun p => p.2.flat) = true →
    PyData.showableKv (ds.map fun p => (pdKey p.1, p.2.s0)) = true → (∀ t ∈ PyData.shownKv (ds.map fun p => (pdKey p.1, p.2.s0)), t.length ≤ sizeLine) → RpD X.prog X.w s.heap es (ds.map fun p => (pdKey p.1, p.2.s0))
  | [], _, _, _, a, b, c, _, _, _ => by
    cases a
    cases b
    cases c
    exact rpD_nil
  | (k, d) :: ds, _, _, _, a, b, c, f, z, l => by
    cases a with
    | @cons _ v xs _ _ ad ak =>
    cases b with
    | @cons _ y _ ys bd bk =>
    obtain ⟨y1, y2⟩ := y
    obtain ⟨rfl, ry⟩ := bd
    cases c with
    | @cons e _ es _ ck cv cr =>
    simp only [List.all_cons, Bool.and_eq_true] at f
    simp only [List.map_cons, PyData.showableKv, Bool.and_eq_true] at z
    simp only [List.map_cons, PyData.shownKv, List.mem_cons, forall_eq_or_imp] at l
    have lt : ((pdKey k).shown ++ ": " ++ d.s0.shown).length = (pdKey k).shown.length + 2 + d.s0.shown.length := by rw [strLen_append, strLen_append]; rfl
    have l1 : (pdKey k).shown.length ≤ sizeLine := by have := l.1; omega
    have l2 : d.s0.shown.length ≤ sizeLine := by have := l.1; omega
    obtain ⟨⟨_, p1⟩, b1, m1, k1⟩ := rp_key (s := s) (k := k) ck z.1.1 l1
    obtain ⟨⟨_, p2⟩, b2, m2, k2⟩ := rp_s0 (s := s) (u := e.val) ad (by rw [cv]; exact ry) f.1 z.1.2 l2
    obtain ⟨⟨_, r1⟩, ⟨_, r2⟩, b3, m3, k3⟩ := rp_ents ds xs ys es ak bk cr f.2 z.2 l.2
    have dp : PyData.depthKv ((pdKey k, d.s0) :: ds.map fun p => (pdKey p.1, p.2.s0)) = max (max (pdKey k).depth d.s0.depth) (PyData.depthKv (ds.map fun p => (pdKey p.1, p.2.s0))) := by simp only [PyData.depthKv]
    refine ⟨⟨_, .cons p1 r1⟩, ⟨_, .cons p2 r2⟩, b1 ++ (b2 ++ b3), ?_, ?_⟩
    · show ReadAtMost _ (PyData.depthKv ((pdKey k, d.s0) :: ds.map fun p => (pdKey p.1, p.2.s0))) _
      rw [dp]
      exact (m1.mono (by omega)).append ((m2.mono (by omega)).append (m3.mono (by omega)))
    · show ReprEntriesK _ _ _ _ (PyData.depthKv ((pdKey k, d.s0) :: ds.map fun p => (pdKey p.1, p.2.s0))) _ (PyData.shownKv ((pdKey k, d.s0) :: ds.map fun p => (pdKey p.1, p.2.s0)))
      rw [dp]
      simp only [PyData.shownKv]
      refine .cons ((k1.more fun b hb => List.mem_append_left _ hb).level_le (by omega)) ((k2.more fun b hb => List.mem_append_right _ (List.mem_append_left _ hb)).level_le (by omega)) ?_
      have up : ∀ {es : List DictEntry} {ps : List Str}, ReprEntriesK X.prog X.w b3 s.heap (PyData.depthKv (ds.map fun p => (pdKey p.1, p.2.s0))) es ps → ReprEntriesK X.prog X.w (b1 ++ (b2 ++ b3)) s.heap (max (max (pdKey k).depth d.s0.depth) (PyData.depthKv (ds.map fun p => (pdKey p.1, p.2.s0)))) es ps := by
        intro es ps q
        induction q with
        | nil => exact .nil
        | cons x y _ ih => exact .cons ((x.more fun b hb => List.mem_append_right _ (List.mem_append_right _ hb)).level_le (by omega)) ((y.more fun b hb => List.mem_append_right _ (List.mem_append_right _ hb)).level_le (by omega)) ih
      exact up k3
mutual
theorem rpDt (I : L2.Inv X pins σ H s) : ∀ (d : D) (v : V) (u : Value), Dt X.K H v d → RelV v u → d.sh = true → d.pd.showable = true → d.pd.shown.length ≤ sizeLine → Rp X.prog X.w s.heap u d.pd
  | .non, _, _, h, r, _, _, _ => by cases h; cases r; exact rp_non
  | .bl b, _, _, h, r, _, _, _ => by cases h; cases r; exact rp_bl b
  | .int i, _, _, h, r, _, z, _ => by cases h; obtain ⟨t, rfl⟩ := r; exact rp_int i t z
  | .str x, _, _, h, r, _, _, l => by cases h; obtain ⟨t, rfl⟩ := r; exact rp_str x t l
  | .exc _ _, _, _, _, _, f, _, _ => by cases f
  | .lst ds, _, _, h, r, f, z, l => by
    cases h with
    | @lst a xs _ e aa =>
    cases r
    obtain ⟨its, rv, ⟨o, n, ho, hc, _, hd⟩, _⟩ := I.list (SqL.of e)
    have l' : (listText (PyData.shownAll (pdA ds))).length ≤ sizeLine := l
    exact rp_list ho hc hd (rpDtA I ds xs its aa rv f z fun t ht => Nat.le_trans (listText_mem_le ht) l')
  | .tup ds, _, _, h, r, f, z, l => by
    cases h with
    | @tup a xs _ e aa =>
    cases r
    obtain ⟨its, rv, ⟨o, ho, hc, n, hd⟩, _⟩ := I.tuple e
    have l' : (tupleText (PyData.shownAll (pdA ds))).length ≤ sizeLine := l
    exact rp_tuple ho hc hd (rpDtA I ds xs its aa rv f z fun t ht => Nat.le_trans (tupleText_mem_le ht) l')
  | .dic ds, _, _, h, r, f, z, l => by
    cases h with
    | @dic a xs _ e aa =>
    cases r
    obtain ⟨_, lo, vs, rel, o, es, ep, h1, h2, h3, h4, h5, _⟩ := dk_of I.hok e
    have l' : (dictText (PyData.shownKv (ds.map fun p => (pdKey p.1, p.2.s0)))).length ≤ sizeLine := l
    exact rp_dict h1 h2.1 h3 lo (rp_ents ds xs vs es.toList aa rel h5 f z fun t ht => Nat.le_trans (dictText_mem_le ht) l')
theorem rpDtA (I : L2.Inv X pins σ H s) : ∀ (ds : List D) (vs : List V) (us : List Value), DtA X.K H vs ds → Vals vs us → shA ds = true → PyData.showableAll (pdA ds) = true → (∀ t ∈ PyData.shownAll (pdA ds), t.length ≤ sizeLine) → RpA X.prog X.w s.heap us (pdA ds)
  | [], _, _, h, r, _, _, _ => by cases h; cases r; exact rpA_nil
  | d :: ds, _, _, h, r, f, z, l => by
    cases h with
    | cons h1 h2 =>
    cases r with
    | cons r1 r2 =>
    simp only [shA, Bool.and_eq_true] at f
    simp only [pdA, PyData.showableAll, Bool.and_eq_true] at z
    simp only [pdA, PyData.shownAll, List.mem_cons, forall_eq_or_imp] at l
    exact rpA_cons (rpDt I d _ _ h1 r1 f.1 z.1 l.1) (rpDtA I ds _ _ h2 r2 f.2 z.2 l.2)
end
end
/-- what repr can be asked of -/
def D.rd (d : D) : Prop := d.sh = true ∧ d.pd.showable = true ∧ d.pd.shown.length ≤ sizeLine ∧ d.pd.depth ≤ 50
def rReprD (K : PySem.W.Frag) : List V → Hp → VK → Prop := fun xs H Q => ∃ v d, xs = [v] ∧ Dt K H v d ∧ d.rd ∧ Q (.str d.pd.shown) H
theorem call_reprD {X : Cx} (g : X.A.guards = some []) (hu : X.A.units + 64 < cLine) : CallR X (.builtin "repr") (rReprD X.K) := by
  intro pins s σ H xs us Q I r h
  obtain ⟨v, d, rfl, hd, ⟨hp, hs, hz, hdp⟩, q⟩ := h
  obtain ⟨u, rfl, ru⟩ := vals1 r
  have hu2 : X.A.units + (d.pd.depth + 1) < cLine := by omega
  have fin : ∀ h' tk u', (∀ b o, s.heap.get? b = some o → h'.get? b = some o) → EP X pins σ Q (.str d.pd.shown u') { s with heap := h', toks := tk } := fun h' tk u' k => ⟨.str d.pd.shown, H, I.kept k, ⟨u', rfl⟩, q⟩
  have finT : EP X pins σ Q (.str d.pd.shown s.toks) { s with toks := s.toks + 1 } := ⟨.str d.pd.shown, H, I.tok _, ⟨_, rfl⟩, q⟩
  cases hd with
  | non => cases ru; exact PySem.P.repr_of_none finT
  | bl b => cases ru; exact PySem.P.repr_of_bool finT
  | int i =>
    obtain ⟨t, rfl⟩ := ru
    exact PySem.P.repr_of_int (of_decide_eq_true hs) finT
  | str x =>
    obtain ⟨t, rfl⟩ := ru
    exact PySem.P.repr_of_str finT hz
  | @lst a xs ds e aa =>
    cases ru
    obtain ⟨its, rv, ⟨o, n, ho, hc, _, hdt⟩, _⟩ := I.list (SqL.of e)
    have l' : (listText (PyData.shownAll (pdA ds))).length ≤ sizeLine := hz
    obtain ⟨⟨_, ra⟩, bs, m, k⟩ := rpDtA I ds xs its aa rv hp hs fun t ht => Nat.le_trans (listText_mem_le ht) l'
    have rr : ∃ as, Reads s.heap (.ref a) (.list (pdA ds)) as := ⟨_, .list ho hc hdt (by simpa using ra)⟩
    obtain ⟨hn, _⟩ := rp_node rr (by simp only [PyData.depth]) m
    have hu3 : X.A.units + (PyData.depthAll (pdA ds) + 1 + 1) < cLine := hu2
    refine call_repr_slot (by omega) ⟨o, ho, hc⟩ PySem.F.slot_list_repr.toG ?_
    cases its with
    | nil =>
      have e0 : ds = [] := by
        cases ds with
        | nil => rfl
        | cons x y => cases aa with | cons _ _ => cases rv
      subst e0
      exact call_list_repr_empty ⟨o, ho, hc⟩ ho hdt ⟨_, _, rfl, fin s.heap _ _ fun _ _ e => e⟩
    | cons x l =>
      exact call_list_reprK ho hc hdt hn (by have := k.length_eq; simpa using this) (fun i y e => k.item i y (by simpa using e)) g (fun b _ => Clear.nil b) (show X.A.units + 1 + (PyData.depthAll (pdA ds) + 1) < cLine by omega) (fun _ _ e => e) (fun h' u tk kk => ⟨_, _, rfl, fin h' tk u kk⟩) l'
  | @tup a xs ds e aa =>
    cases ru
    obtain ⟨its, rv, ⟨o, ho, hc, n, hdt⟩, _⟩ := I.tuple e
    have l' : (tupleText (PyData.shownAll (pdA ds))).length ≤ sizeLine := hz
    obtain ⟨⟨_, ra⟩, bs, m, k⟩ := rpDtA I ds xs its aa rv hp hs fun t ht => Nat.le_trans (tupleText_mem_le ht) l'
    have rr : ∃ as, Reads s.heap (.ref a) (.tuple (pdA ds)) as := ⟨_, .tuple ho hc hdt (by simpa using ra)⟩
    obtain ⟨hn, _⟩ := rp_node rr (by simp only [PyData.depth]) m
    have hu3 : X.A.units + (PyData.depthAll (pdA ds) + 1 + 1) < cLine := hu2
    refine call_repr_slot (by omega) ⟨o, ho, hc⟩ PySem.F.slot_tuple_repr ?_
    exact call_tuple_reprK ho hc hdt hn (by simpa using k) g (fun b _ => Clear.nil b) (show X.A.units + 1 + (PyData.depthAll (pdA ds) + 1) < cLine by omega) (fun _ _ e => e) (fun h' u tk kk => ⟨_, _, rfl, fin h' tk u kk⟩) l'
  | @dic a xs ds e aa =>
    cases ru
    obtain ⟨_, lo, vs, rel, o, es, ep, h1, h2, h3, h4, h5, _⟩ := dk_of I.hok e
    have l' : (dictText (PyData.shownKv (ds.map fun p => (pdKey p.1, p.2.s0)))).length ≤ sizeLine := hz
    obtain ⟨⟨_, r1⟩, ⟨_, r2⟩, bs, m, k⟩ := rp_ents (s := s) ds xs vs es.toList aa rel h5 hp hs fun t ht => Nat.le_trans (dictText_mem_le ht) l'
    have rr : ∃ as, Reads s.heap (.ref a) (.dict (ds.map fun p => (pdKey p.1, p.2.s0))) as := ⟨_, .dict h1 h2.1 h3 r1 r2⟩
    obtain ⟨hn, _⟩ := rp_node rr (by simp only [PyData.depth]) m
    have hu3 : X.A.units + (PyData.depthKv (ds.map fun p => (pdKey p.1, p.2.s0)) + 1 + 1) < cLine := hu2
    refine call_repr_slot (by omega) ⟨o, h1, h2.1⟩ PySem.F.slot_dict_repr ?_
    exact call_dict_reprK h1 h2.1 h3 lo hn k g (fun b _ => Clear.nil b) (show X.A.units + 1 + (PyData.depthKv (ds.map fun p => (pdKey p.1, p.2.s0)) + 1) < cLine by omega) (fun _ _ e => e) (fun h' u tk kk => ⟨_, _, rfl, fin h' tk u kk⟩) l'
  | exc _ _ _ => cases hp
end TSx

/-! Own layer, part 7: an own class over OverflowError, made as a value. -/
namespace TSx
open PySem L2 PySem.Spec PyProof.Rows
abbrev ofTail : List Value := [.type "OverflowError", .type "ArithmeticError", .type "Exception", .type "BaseException", .type "object"]
structure OofC (K : PySem.W.Frag) (C : Addr) : Prop where
  cls : ∃ nm q N bs bm sn sub ab col dd k0 k1 k2 k3 k5, K.lookup C = some (excClassObj nm q C N bs bm true sn sub ab col dd k0 k1 k2 k3 k5 "OverflowError.__new__") ∧ PySem.W.excTail ofTail bm = true
  sa : PySem.W.findIn K (.ref C) "__setattr__" = some (some (.builtin "object.__setattr__"))
  kC : PySem.W.keepIn K (.ref C) = true
section
open Builtin Builtin.ObjectAttr
variable {prog : Program} {w : World} {A : Around} {R : Result → Shared → Prop} {hp : Heap} {g : Array GenState} {d : Drawn} {t : Nat} {os : OsState}
theorem of_store {K : PySem.W.Frag} {f : Str} {tk : Tok} {u : Value} {x C : Addr} {fv : Array Value} (T : OofC K C) (X : K.In hp) (at1 : hp.get? x = some { cls := .ref C, data := .fields fv }) (no : PySem.W.findIn K (.ref C) f = some none)
    (k : ∀ h' tk' dx, (∀ b o, b ≠ x → hp.get? b = some o → h'.get? b = some o) → hp.objs.size ≤ dx → dx ≠ x → h'.get? x = some { cls := .ref C, dict := some dx, data := .fields fv } →
      h'.Ns1 dx (fun y => if y = f then some u else none) → R (.ok (.ret .none)) ⟨h', g, d, tk', os⟩) :
    codeAny (model prog w) A (.call (.builtin "object.__setattr__") ⟨[.ref x, .str f tk, u], []⟩) R ⟨hp, g, d, t, os⟩ := by
  obtain ⟨nm, q, N, bs, bm, sn, sub, ab, col, dd, k0, k1, k2, k3, k5, hC, hbm⟩ := T.cls
  have hcl : PySem.W.clsIn K C = some { name := nm, bases := bs, mro := .ref C :: bm, ns := N, qualname := q, hasDict := true, slotNames := sn, subclasses := sub, abstract := ab, collection := col, hasDel := false } := by unfold PySem.W.clsIn; rw [hC] <;> rfl
  have over : PySem.W.excOver K C ofTail = true := by
    unfold PySem.W.excOver
    rw [hcl]
    show (C == C && PySem.W.excTail ofTail bm) = true
    rw [hbm, beq_self_eq_true]
    rfl
  have I : PySem.W.InstAt hp x { cls := .ref C, data := .fields fv } C none := ⟨at1, rfl, rfl, trivial⟩
  have look : PySem.W.Looks (model prog w) hp (classData C) _ := PySem.W.looks_clsIn X hcl
  have ne : x ≠ hp.objs.size := Nat.ne_of_lt (Heap.lt_size at1)
  refine PySem.W.osa_openX PySem.F.store_OverflowError X I over (r := none) (by unfold PySem.W.takerIn; rw [no]; rfl) fun b => ?_
  show wpAny _ _ (storeInOwnDict (.ref x) (.ref C) (.str f tk) f u b) _ _ _
  unfold storeInOwnDict ownDictForStores
  cases b
  all_goals
    repeat (first
      | with_reducible refine PySem.HandSPX.store_in_new ?_ ?_
      | with_reducible refine wpAny_loadPart_at at1 ?_
      | with_reducible refine look.at ?_
      | wp_step)
  all_goals first
    | exact ⟨_, #[], _, (Heap.get?_update_ne _ _ _ _ ne.symm).trans (Heap.get?_push_at rfl rfl), rfl, fun e he => absurd he (by simp), fun _ => rfl⟩
    | (intro h' tk' hn' hs
       have a2 : (hp.push { cls := .type "dict", data := .dict #[] }).get? x = some { cls := .ref C, data := .fields fv } := Heap.get?_push_of_some _ at1
       refine k h' tk' hp.objs.size (fun b o hb ho => ?_) (Nat.le_refl _) ne.symm ?_ hn'
       · exact (hs.2 b (Nat.ne_of_lt (Heap.lt_size ho))).trans ((Heap.get?_update_ne _ _ _ _ hb).trans (Heap.get?_push_of_some _ ho))
       · exact (hs.2 x ne).trans (Heap.get?_update_self _ a2 rfl))
end
section
variable {X : Cx} {pins : List (Addr × Obj)} {σ : Sg} {H : Hp} {s : Shared} {a C dx : Addr} {f : Str} {y : V} {u : Value} {fs : List (Str × V)} {Q : Unit → Shared → Prop} {E : Value → Shared → Prop} {A : Around}
/-- self.f = y, the first field -/
theorem of_new (T : OofC X.K C) (I : L2.Inv X pins σ H s) (e : H a = some (exo a C none)) (no : PySem.W.findIn X.K (.ref C) f = some none) (ry : RelV y u)
    (k : ∀ dx s', H dx = none → dx ≠ a → L2.Inv X pins σ (upd (upd H dx (exd dx [(f, y)])) a (exo a C (some dx))) s' → Q () s') : wpAny (model X.prog X.w) A (setAttr (.ref a) f u) Q E s := by
  obtain ⟨t1, ho⟩ := exo_at I.hok e
  obtain ⟨hp, g, d, t, os⟩ := s
  refine PySem.W.set_plain I.kIn (ox := { cls := .ref C, dict := none, data := .fields #[.ref t1, .none, .none, .none, .bool false, .none] }) (od := none) ⟨ho, rfl, rfl, trivial⟩ T.sa ?_
  refine of_store T I.kIn ho no fun h' tk' dx keep dn dne hx hn => ?_
  have free : H dx = none := I.hok.fresh dn
  have far : ∀ {b : Addr} {o : Obj}, hp.get? b = some o → b ≠ dx := fun {b o} q => Nat.ne_of_lt (Nat.lt_of_lt_of_le (Heap.lt_size q) dn)
  have away : ∀ {b : Addr}, H b = none → b ≠ a := fun {b} n z => by rw [z, e] at n; cases n
  have U : Un X.fs [] H (upd (upd H dx (exd dx [(f, y)])) a (exo a C (some dx))) hp h' := {
    keep := fun b o q n _ _ => keep b o (away n) q
    slot := fun b o q n _ _ => ⟨o.slots, keep b o (away n) q⟩
    free := fun b o q n _ => by rw [upd_ne (away n), upd_ne (far q)]; exact n
    there := fun b o q _ => by
      by_cases hb : b = a
      · rw [hb]; exact ⟨_, hx⟩
      · exact ⟨o, keep b o hb q⟩
    tups := fun b xs q => by rw [upd_ne (at_ne e q exo_tup), upd_ne (ne_of_none q free)]; exact q
    frzs := fun b o v q => by rw [upd_ne (at_ne e q exo_frz), upd_ne (ne_of_none q free)]; exact q
    tbls := fun b ps q => ⟨#[], by rw [upd_ne (at_ne e q exo_tbl), upd_ne (ne_of_none q free), q]; simp⟩ }
  refine k dx _ free dne (I.un (t' := tk') U fun b o q => ?_)
  by_cases hb : b = a
  · subst hb
    rw [upd_same] at q
    cases q
    exact exo_ok hx
  rw [upd_ne hb] at q
  by_cases hd : b = dx
  · subst hd
    rw [upd_same] at q
    cases q
    exact exd_ok hn (relO_put (fs := []) ry fun g => True.intro)
  rw [upd_ne hd] at q
  refine (I.hok b o q).stay (fun c v hc z => keep c v ?_ z) (fun c hc => ?_) (fun c xs hc => ?_)
  · rcases hc with hc | hc
    · rw [hc]; exact hb
    · exact at_ne e hc exo_own
  · rw [upd_ne (at_ne e hc exo_own), upd_ne (ne_of_none hc free)]; exact hc
  · rw [upd_ne (at_ne e hc exo_tup), upd_ne (ne_of_none hc free)]; exact hc
end
/-- self.f = e in such a class's __init__ -/
def tOfS (K : PySem.W.Frag) (f : Str) (to te : TE) : TS := fun D σ H => te σ H fun y H1 => to σ H1 fun x H2 => ∃ a C : Addr, x = .ref a ∧ OofC K C ∧ PySem.W.findIn K (.ref C) f = some none ∧
  H2 a = some (exo a C none) ∧ ∀ dx, H2 dx = none → dx ≠ a → D.nx σ (upd (upd H2 dx (exd dx [(f, y)])) a (exo a C (some dx)))
section
variable {X : Cx} {CX : CXT} {x : Str} {C fI : Addr} {k : Nat} {fd : FuncData} {ps : List Str} {sp : Sp} {p p' pos : Pos} {o e : Expr} {es : List Expr} {ta : TA} {to te : TE} {f : Str}
theorem ps_ofS (ho : PE X o to) (he : PE X e te) (hs : swapsWith e (some (.Attribute o f p')) pos.line X.env = pure false := by rfl) : PS X (.Assign [.Attribute o f p'] e pos) (tOfS X.K f to te) := by
  constructor
  intro pins s σ H D I h
  refine plainObj_wpAny_Assign_Attribute (thn (he.run pins s σ H _ I h) fun v s1 z => ?_) hs
  obtain ⟨y, H1, I1, r1, q1⟩ := z
  refine thn (ho.run pins s1 σ H1 _ I1 q1) fun u s2 z => ?_
  obtain ⟨x, H2, I2, r2, a, C, ex, T, no, ea, q⟩ := z
  subst ex
  obtain rfl : u = Value.ref a := r2
  exact of_new T I2 ea no r1 fun dx s' n ne J => ⟨σ, _, J, q dx n ne⟩
theorem madeO {pins : List (Addr × Obj)} {σ : Sg} {H1 : Hp} {s : Shared} {Q : VK} {us : List Value} {vs : List V} (T : OofC X.K C) (iC : PySem.W.findIn X.K (.ref C) "__init__" = some (some (.ref fI))) (tI : PySem.W.typeIn X.K (.ref fI) = some (.type "function"))
    (F1 : FnOk X.prog X.w X.K X.mg X.base CX k fI fd ps sp) (hr : Room (k + 1) X.A) (hb : Binds X.K fd ps []) (hx : Passes CX X (fun _ _ _ => False)) (I1 : L2.Inv X pins σ H1 s) (r1 : Vals vs us) (hz : vs.length ≤ 1000)
    (q1 : ∀ a, H1 a = none → sp (.ref a :: vs) (upd H1 a (exo a C none)) (fun v H2 => v = .non ∧ ∃ (d : Addr) (fs : List (Str × V)), H2 a = some (exo a C (some d)) ∧ H2 d = some (exd d fs) ∧ Q (.ref a) (upd (upd H2 a (exq a C d)) d (.xd fs))) (fun _ _ _ => False)) :
    wpAny (model X.prog X.w) X.A (call (.ref C) us) (EP X pins σ Q) X.xe s := by
  obtain ⟨nm, q, N, bs, bm, sn, sub, ab, col, dd, k0, k1, k2, k3, k5, hC, hbm⟩ := T.cls
  obtain ⟨hp, g, dr, tk, os⟩ := s
  have nw : H1 (hp.objs.size + 1) = none := I1.hok.fresh (Nat.le_succ _)
  have want := q1 _ nw
  have keep2 : ∀ b o, hp.get? b = some o → ((hp.push (PySem.W.kdv_tup us)).push (PySem.HandSPX.excO C hp.objs.size)).get? b = some o := by
    intro b o e
    exact Heap.get?_push_of_some _ (Heap.get?_push_of_some _ e)
  have there : ((hp.push (PySem.W.kdv_tup us)).push (PySem.HandSPX.excO C hp.objs.size)).get? (hp.objs.size + 1) = some (PySem.HandSPX.excO C hp.objs.size) := by heap_get
  have I2 : L2.Inv X pins σ (upd H1 (hp.objs.size + 1) (exo (hp.objs.size + 1) C none)) ⟨(hp.push (PySem.W.kdv_tup us)).push (PySem.HandSPX.excO C hp.objs.size), g, dr, tk, os⟩ :=
    I1.laid (t' := tk) keep2 (Nat.le_succ _) (exo_ok there)
  have r2 : Vals (V.ref (hp.objs.size + 1) :: vs) (Value.ref (hp.objs.size + 1) :: us) := .cons rfl r1
  have cnt : (Value.ref (hp.objs.size + 1) :: us).length = ps.length := by rw [← r2.length]; exact F1.len _ _ _ _ want
  have few : us.length ≤ sizeLine := by
    have := Paired.length r1
    rw [sizeLine_eq]
    omega
  have bd := hb _ (Value.ref (hp.objs.size + 1) :: us) I2.kIn (by rw [List.append_nil]; exact cnt)
  rw [List.append_nil] at bd
  refine wpAny_call (PySem.HandSPX.call_own PySem.F.excBase_OverflowError (fun Y => PySem.W.excTail_contains Y bm hbm) (I1.kIn _ _ hC) (PySem.W.looks_findIn I1.kIn iC) (fun self => PySem.W.bind_fn I1.kIn self tI) few ?_)
  refine codeAny_mono (F1.run _ X.stack _ _ ⟨Value.ref (hp.objs.size + 1) :: us, []⟩ (Value.ref (hp.objs.size + 1) :: us) _ _ (fun _ _ _ => False) (hr.make C us []) (I2.env0.make C us []) bd r2 want) fun o s' z => ?_
  match o, z with
  | .error er, z => exact hx pins σ _ _ er s' I2 z
  | .ok .next, z => exact False.elim z
  | .ok .brk, z => exact False.elim z
  | .ok .cont, z => exact False.elim z
  | .ok (.ret u), z =>
    obtain ⟨v, H2, os2, bare2, un2, ok2, rv, ev, d, fs, ea, ed, qq⟩ := z
    subst ev
    refine ⟨rv, ?_⟩
    obtain ⟨h2, g2, d2, t2, os'⟩ := s'
    have os2' : os' = os := os2
    subst os2'
    have J : L2.Inv X pins σ H2 ⟨h2, g2, d2, t2, os'⟩ := I2.call (h' := h2) (g' := g2) (d' := d2) (t' := t2) (ch := []) un2 ok2 bare2 (fun b z => absurd z (by simp))
    obtain ⟨t0, hoe⟩ := exo_at J.hok ea
    obtain ⟨mA, hns, rel⟩ := exd_at J.hok ed
    have nd : d ≠ hp.objs.size + 1 := fun z => by
      obtain ⟨o, es', ep, e1, e2, _⟩ := hns
      rw [z] at e1
      have e3 := hoe.symm.trans e1
      cases e3
      cases e2
    have J2 := Inv.retell (o := exq (hp.objs.size + 1) C d) J ea True.intro (exq_ok hoe ⟨rfl, rfl⟩ rfl)
    have J3 := Inv.retell (o := .xd fs) (u := exd d fs) J2 (by rw [upd_ne nd]; exact ed) True.intro ⟨mA, hns, rel⟩
    exact ⟨.ref _, _, J3, rfl, qq⟩
theorem pe_mkO (T : OofC X.K C) (iC : PySem.W.findIn X.K (.ref C) "__init__" = some (some (.ref fI))) (tI : PySem.W.typeIn X.K (.ref fI) = some (.type "function"))
    (F1 : FnOk X.prog X.w X.K X.mg X.base CX k fI fd ps sp) (hr : Room (k + 1) X.A) (hb : Binds X.K fd ps []) (hx : Passes CX X (fun _ _ _ => False)) (hm : X.mg x = some (.ref C)) (ha : PA X (e :: es) ta) (hg : Gl X x := by rfl)
    (hdb : (x == ("__debug__" : Str)) = false := by decide) (he : starEach (e :: es) X.env = (false, eval e X.env) :: starEach es X.env := by rfl) (hpl : (backTo pos (starEach es X.env)).any (·.1) = false := by rfl) :
    PE X (.Call (.Name x p) (e :: es) [] pos) (tMkX C sp ta) := by
  constructor
  intro pins s σ H Q I h
  refine wpAny_Call_Name_kw (ld_glob I hg hm ?_ hdb)
  refine PySem.W.callWith_K (h₀ := X.base) I.ok.mod.kin T.kC (thn (ha.run pos pins s σ H _ I h) fun us s1 z => ?_) he hpl
  obtain ⟨vs, H1, I1, r1, hz, q1⟩ := z
  exact ⟨I1.kIn, madeO T iC tI F1 hr hb hx I1 r1 hz q1⟩
end
end TSx

/-! Own layer, part R: one step of a reading each, by name. -/
namespace TSx
open PySem L2
section
variable {σ : Sg} {H : Hp} {Q : VK} {ta tb : TE} {v : V} {i j : Int} {n : Nat}
theorem r_v (h : σ[n]? = some (some v)) (q : Q v H) : tVar n σ H Q := ⟨v, h, q⟩
theorem r_c (q : Q v H) : tC v σ H Q := q
theorem r_op {r : R2} (q : ta σ H fun x H1 => tb σ H1 fun y H2 => r x y H2 Q) : tOp r ta tb σ H Q := q
theorem r_I {C : Int → Int → Prop} {g : Int → Int → V} (hc : C i j) (q : Q (g i j) H) : rI C g (.int i) (.int j) H Q := ⟨i, j, rfl, rfl, hc, q⟩
theorem r_I0 {g : Int → Int → V} (q : Q (g i j) H) : rI0 g (.int i) (.int j) H Q := ⟨i, j, rfl, rfl, q⟩
theorem r_cb {r : List V → Hp → VK → Prop} {t : TA} (q : t σ H fun vs H1 => r vs H1 Q) : tCB r t σ H Q := q
theorem r_nil {Q : List V → Hp → Prop} (q : Q [] H) : tNil σ H Q := q
theorem r_cons {Q : List V → Hp → Prop} {tr : TA} (q : ta σ H fun x H1 => tr σ H1 fun xs H2 => Q (x :: xs) H2) : tCons ta tr σ H Q := q
theorem r_seq {t u : TS} {D : Ends} (q : t { D with nx := u D } σ H) : tSeq t u D σ H := q
theorem r_next {D : Ends} (q : D.nx σ H) : tNext D σ H := q
theorem r_asg {D : Ends} {te : TE} {g : TG} (q : te σ H fun x H1 => g x σ H1 D.nx) : tAsg te g D σ H := q
theorem r_name {Q : Sg → Hp → Prop} (q : Q (σ.set n (some v)) H) : gName n v σ H Q := q
theorem r_ret {D : Ends} {te : TE} (q : te σ H D.rt) : tRet te D σ H := q
theorem r_drop {D : Ends} {te : TE} (q : te σ H fun _ H1 => D.nx σ H1) : tDrop te D σ H := q
theorem r_if {D : Ends} {c : TT} {t u : TS} (q : c σ H fun b H1 => if b = true then t D σ H1 else u D σ H1) : tIfS c t u D σ H := q
theorem r_test {Q : Bool → Hp → Prop} {te : TE} (q : te σ H fun x H' => ∃ k, x = .bl k ∧ Q k H') : tTest te σ H Q := q
theorem r_tb {Q : Bool → Hp → Prop} {te : TE} (q : te σ H fun x H' => ∃ k, x = .bl k ∧ Q k H') : tB te σ H Q := q
theorem r_tup {t : TA} (q : t σ H fun xs H1 => xs.length ≤ sizeLine ∧ ∀ p, H1 p = none → Q (.ref p) (upd H1 p (.tup xs))) : tTup t σ H Q := q
theorem r_lst {t : TA} (q : t σ H fun xs H1 => xs.length ≤ sizeLine ∧ ∀ p, H1 p = none → Q (.ref p) (upd H1 p (.lst xs))) : tLst t σ H Q := q
theorem r_bl {b : Bool} {P : Bool → Prop} (q : P b) : ∃ k, V.bl b = .bl k ∧ P k := ⟨b, rfl, q⟩
theorem r_call {sp : Sp} {E : XK} {t : TA} (q : t σ H fun vs H1 => sp (vs ++ []) H1 Q E) : tCall sp [] E t σ H Q := q
theorem r_int_ (q : Q (.int i) H) : (∃ k, [V.int i] = [.int k] ∧ Q (.int k) H) ∨ ∃ k, [V.int i] = [.bl k] ∧ Q (.int (if k then 1 else 0)) H := Or.inl ⟨i, rfl, q⟩
end
theorem r_yes {σ : Sg} {H : Hp} {A B : Bool → Hp → Prop} (q : A true H) : tYes σ H (fun b H3 => if b = true then A b H3 else B b H3) := by
  show if true = true then A true H else B true H
  exact iteT q
theorem r_ixL {K : PySem.W.Frag} {p : Addr} {xs : List V} {i : Int} {v : V} {H : Hp} {Q : VK} (h : H p = some (.lst xs)) (a : atI xs i = some v) (q : Q v H) : rIxL K (.ref p) (.int i) H Q := ⟨p, xs, i, v, rfl, rfl, SqL.of h, a, q⟩
theorem r_setL {p : Addr} {xs : List V} {i : Int} {j : Nat} {v : V} {H : Hp} {Q : Hp → Prop} (h : H p = some (.lst xs)) (a : ixN xs.length i = some j) (q : Q (upd H p (.lst (xs.set j v)))) : rSetL (.ref p) (.int i) v H Q := ⟨p, xs, i, j, rfl, rfl, h, a, q⟩
theorem r_sub {to ti : TE} {t : TSet} {v : V} {σ : Sg} {H : Hp} {Q : Sg → Hp → Prop} (q : to σ H fun o H1 => ti σ H1 fun i H2 => t o i v H2 fun H3 => Q σ H3) : gSub to ti t v σ H Q := q
/-- int(i), i an int -/
def rInt : List V → Hp → VK → Prop := fun xs H Q => ∃ i, xs = [.int i] ∧ Q (.int i) H
theorem call_intI {X : Cx} : CallR X (.type "int") rInt := fun pins s σ H xs us Q I r h => by
  obtain ⟨i, e, q⟩ := h
  exact call_int1 pins s σ H xs us Q I r (Or.inl ⟨i, e, q⟩)
theorem r_int1 {H : Hp} {Q : VK} {i : Int} (q : Q (.int i) H) : rInt [.int i] H Q := ⟨i, rfl, q⟩
theorem r_mul {i j : Int} {g : Int → Int → V} {H : Hp} {Q : VK} (h : CMul i j) (q : Q (g i j) H) : rI CMul g (.int i) (.int j) H Q := ⟨i, j, rfl, rfl, h, q⟩
theorem r_div {i j : Int} {g : Int → Int → V} {H : Hp} {Q : VK} (h : CDiv i j) (q : Q (g i j) H) : rI CDiv g (.int i) (.int j) H Q := ⟨i, j, rfl, rfl, h, q⟩
theorem r_mod {i j : Int} {g : Int → Int → V} {H : Hp} {Q : VK} (h : 0 < j) (q : Q (g i j) H) : rI (fun _ j => 0 < j) g (.int i) (.int j) H Q := ⟨i, j, rfl, rfl, h, q⟩
theorem r_pow {i j : Int} {g : Int → Int → V} {H : Hp} {Q : VK} (h : CPow i j) (q : Q (g i j) H) : rI CPow g (.int i) (.int j) H Q := ⟨i, j, rfl, rfl, h, q⟩
theorem cmL {i j : Int} (h1 : -(2 ^ 64) < i) (h2 : i < 2 ^ 64) : CMul i j := Or.inl ⟨h1, h2⟩
theorem cmR {i j : Int} (h1 : -(2 ^ 64) < j) (h2 : j < 2 ^ 64) : CMul i j := Or.inr ⟨h1, h2⟩
theorem cdv {i j : Int} (h1 : 0 < j) (h2 : j < 1073741824) : CDiv i j := ⟨h1, h2⟩
theorem sz1 {n : Nat} (h : n ≤ 100000) : n ≤ sizeLine := Nat.le_trans h (by decide)
theorem sz2 {n : Nat} (h : n < 100000) : n < sizeLine := Nat.lt_of_lt_of_le h (by decide)
end TSx

/-! Own layer, part R2: the law's drawn state: a dict with two lists of ints and a count. -/
namespace TSx
open PySem L2
/-- 64 ints, each below the great number -/
structure Cells (cs : List Int) : Prop where
  len : cs.length = 64
  low : ∀ c ∈ cs, 0 ≤ c ∧ c < 2147483647
theorem Cells.set {cs : List Int} (h : Cells cs) (i : Nat) {x : Int} (h0 : 0 ≤ x) (h1 : x < 2147483647) : Cells (cs.set i x) := ⟨by rw [List.length_set]; exact h.len, fun c hc => by
  rcases List.mem_or_eq_of_mem_set hc with z | z
  · exact h.low c z
  · subst z; exact ⟨h0, h1⟩⟩
theorem map_set {cs : List Int} {i : Nat} {x : Int} : (cs.map V.int).set i (.int x) = (cs.set i x).map V.int := by rw [List.map_set]
theorem at_int {cs : List Int} {i : Nat} (h : i < cs.length) : ∃ c, c ∈ cs ∧ atI (cs.map V.int) (i : Int) = some (.int c) := by
  refine ⟨cs[i], List.getElem_mem h, atI_nat ?_⟩
  rw [List.getElem?_map, List.getElem?_eq_getElem h]
  rfl
theorem ixN_int {n i : Nat} (h : i < n) : ixN n (i : Int) = some i := by
  unfold ixN
  rw [if_pos (by omega), if_pos (by omega)]
  simp
theorem same_new {H : Hp} {p : Addr} {o : HO} (n : H p = none) : Same H (upd H p o) := gr_new n
theorem same_mut {H H' : Hp} {p : Addr} {o : HO} (s : Same H H') (n : H p = none) : Same H (upd H' p o) := fun b u e => by rw [upd_ne (ne_of_none e n)]; exact s b u e

def kvM (c g : Addr) (n : Int) : List (Key × V) := [(Sum.inr "cells", .ref c), (Sum.inr "great", .ref g), (Sum.inr "spot", .int n)]
theorem kvM_cells {c g : Addr} {n : Int} : valV (kvM c g n) (Sum.inr "cells") = some (.ref c) := by rfl
theorem kvM_great {c g : Addr} {n : Int} : valV (kvM c g n) (Sum.inr "great") = some (.ref g) := by rfl
theorem kvM_spot {c g : Addr} {n : Int} : valV (kvM c g n) (Sum.inr "spot") = some (.int n) := by rfl
theorem kvM_put {c g : Addr} {n k : Int} : putK (kvM c g n) (Sum.inr "spot") (.int k) = kvM c g k := by rfl
/-- at m the law's state: r draws may come yet -/
structure MAt (m c g : Addr) (H : Hp) (r : Nat) : Prop where
  ex : ∃ (n : Nat) (cs gs : List Int), H m = some (.dK (kvM c g n)) ∧ H c = some (.lst (cs.map V.int)) ∧ H g = some (.lst (gs.map V.int)) ∧ Cells cs ∧ gs.length ≤ 63 ∧ n + r ≤ 536870912
  ne : c ≠ g
/-- all but m and g stays -/
def Kp (m g : Addr) (H H' : Hp) : Prop := ∀ b o, b ≠ m → b ≠ g → H b = some o → H' b = some o
theorem Kp.rf {m g : Addr} {H : Hp} : Kp m g H H := fun _ _ _ _ e => e
theorem Kp.tr {m g : Addr} {H H1 H2 : Hp} (a : Kp m g H H1) (b : Kp m g H1 H2) : Kp m g H H2 := fun x o h1 h2 e => b x o h1 h2 (a x o h1 h2 e)
theorem Kp.of {m g : Addr} {H H' : Hp} (a : Same H H') : Kp m g H H' := fun b o _ _ e => a b o e
theorem MAt.same {m c g : Addr} {H H' : Hp} {r : Nat} (h : MAt m c g H r) (s : Same H H') : MAt m c g H' r := by
  obtain ⟨⟨n, cs, gs, h1, h2, h3, h4⟩, ne⟩ := h
  exact ⟨⟨n, cs, gs, s _ _ h1, s _ _ h2, s _ _ h3, h4⟩, ne⟩
theorem MAt.less {m c g : Addr} {H : Hp} {r q : Nat} (h : MAt m c g H r) (l : q ≤ r) : MAt m c g H q := by
  obtain ⟨⟨n, cs, gs, h1, h2, h3, h4, h5, h6⟩, ne⟩ := h
  exact ⟨⟨n, cs, gs, h1, h2, h3, h4, h5, by omega⟩, ne⟩
theorem r_dget {td ty : TE} {σ : Sg} {H : Hp} {Q : VK} (q : td σ H fun x H1 => ty σ H1 fun y H2 => ∃ a v, x = .ref a ∧ DGet H2 a y (some v) ∧ Q v H2) : tDGet td ty σ H Q := q
theorem r_dg {a : Addr} {y v : V} {H : Hp} {Q : VK} (h : DGet H a y (some v)) (q : Q v H) : ∃ b u, V.ref a = .ref b ∧ DGet H b y (some u) ∧ Q u H := ⟨a, v, rfl, h, q⟩
theorem r_len {K : PySem.W.Frag} {p : Addr} {xs : List V} {H : Hp} {Q : VK} (h : H p = some (.lst xs)) (q : Q (.int xs.length) H) : ∃ b ys, [V.ref p] = [.ref b] ∧ (SqL K H b ys ∨ SqT K H b ys) ∧ Q (.int ys.length) H := ⟨p, xs, rfl, Or.inl (SqL.of h), q⟩
theorem r_dput {td ty tv : TE} {D : Ends} {σ : Sg} {H : Hp} (q : tv σ H fun v H1 => td σ H1 fun x H2 => ty σ H2 fun y H3 => ∃ a H4, x = .ref a ∧ DPut H3 a y v H4 ∧ D.nx σ H4) : sDPut td ty tv D σ H := q
theorem r_ifT {A B : Prop} {b : Bool} (h : b = true) (q : A) : if b = true then A else B := by rw [if_pos h]; exact q
theorem r_ifF {A B : Prop} {b : Bool} (h : b = false) (q : B) : if b = true then A else B := by rw [h]; exact iteF q
theorem dg_cells {m c g : Addr} {n : Int} {H : Hp} (h : H m = some (.dK (kvM c g n))) : DGet H m (.str "cells") (some (.ref c)) := by rw [← kvM_cells (c := c) (g := g) (n := n)]; exact DGet.k (k := Sum.inr "cells") h
theorem dg_great {m c g : Addr} {n : Int} {H : Hp} (h : H m = some (.dK (kvM c g n))) : DGet H m (.str "great") (some (.ref g)) := by rw [← kvM_great (c := c) (g := g) (n := n)]; exact DGet.k (k := Sum.inr "great") h
theorem dg_spot {m c g : Addr} {n : Int} {H : Hp} (h : H m = some (.dK (kvM c g n))) : DGet H m (.str "spot") (some (.int n)) := by rw [← kvM_spot (c := c) (g := g) (n := n)]; exact DGet.k (k := Sum.inr "spot") h
theorem dp_spot {m c g : Addr} {n k : Int} {H : Hp} (h : H m = some (.dK (kvM c g n))) : DPut H m (.str "spot") (.int k) (upd H m (.dK (kvM c g k))) := by
  rw [← kvM_put (c := c) (g := g) (n := n) (k := k)]
  exact DPut.k (k := Sum.inr "spot") h (show 3 < sizeLine by decide)
/-- a draw below a limit -/
def spDraw : Sp := fun vs H Q _ => ∃ (m c g : Addr) (r : Nat) (limit : Int), vs = [.ref m, .int limit] ∧ 0 < limit ∧ limit < 1073741824 ∧ MAt m c g H (r + 1) ∧
  ∀ (v : Int) (H' : Hp), 0 ≤ v → v < limit → MAt m c g H' r → Kp m g H H' → Q (.int v) H'
def spMixed : Sp := fun vs H Q _ => ∃ c n : Int, vs = [.int c, .int n] ∧ 0 ≤ c ∧ c < 2 ^ 40 ∧ 0 ≤ n ∧ n < 2 ^ 30 ∧ ∀ v : Int, 0 ≤ v → v < 2 ^ 31 → Q (.int v) H
def spFolded (K : PySem.W.Frag) : Sp := fun vs H Q _ => ∃ (a : Addr) (ns : List Int), vs = [.ref a] ∧ SqL K H a (ns.map V.int) ∧ ns.length ≤ 63 ∧
  ∀ (H' : Hp) (p : Addr) (cs : List Int), H p = none → Same H H' → Cells cs → H' p = some (.lst (cs.map V.int)) → Q (.ref p) H'
def spBegun (K : PySem.W.Frag) : Sp := fun vs H Q _ => ∃ (a : Addr) (ns : List Int), vs = [.ref a] ∧ SqL K H a (ns.map V.int) ∧ ns.length ≤ 63 ∧
  ∀ (H' : Hp) (m c g : Addr), Same H H' → H m = none → H c = none → H g = none → MAt m c g H' 536870912 → Q (.ref m) H'
/-- names of the built-ins that the prelude calls, none of them stored over -/
structure Blt (mg : Str → Option Value) : Prop where
  int : mg "int" = none
  len : mg "len" = none
  range : mg "range" = none
  enumerate : mg "enumerate" = none
  repr : mg "repr" = none
  isinstance : mg "isinstance" = none
  list : mg "list" = none
/-- what == finds of a list of ints and the empty one -/
theorem eqv_nil (gs : List Int) : PyData.eqv (.list (pyA (gs.map D.int))) (.list []) = gs.isEmpty := by
  cases gs with
  | nil => rfl
  | cons a l => rfl
theorem dts {K : PySem.W.Frag} {H : Hp} : ∀ gs : List Int, DtA K H (gs.map V.int) (gs.map D.int)
  | [] => .nil
  | n :: l => .cons (.int n) (dts l)
theorem pl_ints : ∀ gs : List Int, plA (gs.map D.int) = true
  | [] => rfl
  | n :: l => pl_ints l
mutual
theorem lay_pl : ∀ d : D, d.pl = true → d.py.canLay0 = true
  | .non, _ => rfl
  | .bl _, _ => rfl
  | .int _, _ => rfl
  | .str _, h => h
  | .lst xs, h => layA_pl xs h
  | .tup xs, h => layA_pl xs h
  | .dic _, h => by cases h
  | .exc _ _, h => by cases h
theorem layA_pl : ∀ d : List D, plA d = true → PyData.canLayAll0 (pyA d) = true
  | [], _ => rfl
  | x :: xs, h => by
    simp only [plA, Bool.and_eq_true] at h
    show (x.py.canLay0 && PyData.canLayAll0 (pyA xs)) = true
    rw [lay_pl x h.1, layA_pl xs h.2]; rfl
end
theorem shaped_pl (d : D) (h : d.pl = true) (z : d.py.depth ≤ 64) : SeqAt.shaped d.py = true := by
  unfold SeqAt.shaped
  rw [lay_pl d h, decide_eq_true z]
  rfl
theorem depth_ints : ∀ gs : List Int, (D.lst (gs.map D.int)).py.depth ≤ 64 := fun gs => by
  have h : ∀ gs : List Int, PyData.depthAll (pyA (gs.map D.int)) = 0 := fun gs => by
    induction gs with
    | nil => rfl
    | cons a l ih => show max 0 (PyData.depthAll (pyA (l.map D.int))) = 0; rw [ih]; rfl
  show PyData.depthAll (pyA (gs.map D.int)) + 1 ≤ 64
  rw [h gs]
  decide
theorem r_neD {K : PySem.W.Frag} {H : Hp} {x y : V} {d e : D} {Q : VK} (hx : Dt K H x d) (hy : Dt K H y e) (px : d.pl = true) (py : e.pl = true) (zx : d.py.depth ≤ 64) (zy : e.py.depth ≤ 64) (q : Q (.bl (!PyData.eqv d.py e.py)) H) : rNeD K x y H Q :=
  ⟨_, _, hx.dp px, hy.dp py, shaped_pl d px zx, shaped_pl e py zy, q⟩
theorem r_eqD {K : PySem.W.Frag} {H : Hp} {x y : V} {d e : D} {Q : VK} (hx : Dt K H x d) (hy : Dt K H y e) (px : d.pl = true) (py : e.pl = true) (zx : d.py.depth ≤ 64) (zy : e.py.depth ≤ 64) (q : Q (.bl (PyData.eqv d.py e.py)) H) : rEqD K x y H Q :=
  ⟨_, _, hx.dp px, hy.dp py, shaped_pl d px zx, shaped_pl e py zy, q⟩
end TSx

/-! Own layer, part R3: what makes which data, the heap only growing. -/
namespace TSx
open PySem L2
def Mk (K : PySem.W.Frag) (te : TE) (σ : Sg) (H : Hp) (d : D) : Prop := ∀ H1, Same H H1 → ∀ Q : VK, (∀ v H2, Same H1 H2 → Dt K H2 v d → Q v H2) → te σ H1 Q
def MkA (K : PySem.W.Frag) (ta : TA) (σ : Sg) (H : Hp) (ds : List D) : Prop := ∀ H1, Same H H1 → ∀ Q : List V → Hp → Prop, (∀ vs H2, Same H1 H2 → DtA K H2 vs ds → Q vs H2) → ta σ H1 Q
section
variable {K : PySem.W.Frag} {σ : Sg} {H : Hp} {te ta tb : TE} {t : TA} {d : D} {ds es : List D}
theorem Mk.mono {H' : Hp} (h : Mk K te σ H d) (s : Same H H') : Mk K te σ H' d := fun H1 s1 => h H1 (s.trans s1)
theorem mk_non : Mk K (tC .non) σ H .non := fun H1 _ Q q => q _ H1 Gr.rfl' .non
theorem mk_int {i : Int} : Mk K (tC (.int i)) σ H (.int i) := fun H1 _ Q q => q _ H1 Gr.rfl' (.int i)
theorem mk_str {x : Str} : Mk K (tC (.str x)) σ H (.str x) := fun H1 _ Q q => q _ H1 Gr.rfl' (.str x)
theorem mk_bl {b : Bool} : Mk K (tC (.bl b)) σ H (.bl b) := fun H1 _ Q q => q _ H1 Gr.rfl' (.bl b)
theorem mk_var {n : Nat} {v : V} (h : σ[n]? = some (some v)) (a : Dt K H v d) : Mk K (tVar n) σ H d := fun H1 s Q q => ⟨v, h, q v H1 Gr.rfl' (a.gr s)⟩
theorem mk_neg {i : Int} (h : Mk K ta σ H (.int i)) : Mk K (tUn (rU fun i => .int (-i)) ta) σ H (.int (-i)) := fun H1 s Q q => h H1 s _ fun v H2 s2 a => by
  cases a
  exact ⟨i, rfl, q _ H2 s2 (.int _)⟩
theorem mk_I0 {i j : Int} {g : Int → Int → Int} (h : Mk K ta σ H (.int i)) (h2 : Mk K tb σ H (.int j)) : Mk K (tOp (rI0 fun i j => .int (g i j)) ta tb) σ H (.int (g i j)) := fun H1 s Q q => h H1 s _ fun v H2 s2 a => h2 H2 (s.trans s2) _ fun u H3 s3 b => by
  cases a
  cases b
  exact ⟨i, j, rfl, rfl, q _ H3 (s2.trans s3) (.int _)⟩
theorem mk_I0b {i j : Int} {g : Int → Int → Bool} (h : Mk K ta σ H (.int i)) (h2 : Mk K tb σ H (.int j)) : Mk K (tOp (rI0 fun i j => .bl (g i j)) ta tb) σ H (.bl (g i j)) := fun H1 s Q q => h H1 s _ fun v H2 s2 a => h2 H2 (s.trans s2) _ fun u H3 s3 b => by
  cases a
  cases b
  exact ⟨i, j, rfl, rfl, q _ H3 (s2.trans s3) (.bl _)⟩
theorem mk_I {i j : Int} {C : Int → Int → Prop} {g : Int → Int → Int} (h : Mk K ta σ H (.int i)) (h2 : Mk K tb σ H (.int j)) (c : C i j) : Mk K (tOp (rI C fun i j => .int (g i j)) ta tb) σ H (.int (g i j)) := fun H1 s Q q => h H1 s _ fun v H2 s2 a => h2 H2 (s.trans s2) _ fun u H3 s3 b => by
  cases a
  cases b
  exact ⟨i, j, rfl, rfl, c, q _ H3 (s2.trans s3) (.int _)⟩
theorem mka_nil : MkA K tNil σ H [] := fun H1 _ Q q => q _ H1 Gr.rfl' .nil
theorem mka_cons (h : Mk K ta σ H d) (r : MkA K t σ H ds) : MkA K (tCons ta t) σ H (d :: ds) := fun H1 s Q q => h H1 s _ fun v H2 s2 a => r H2 (s.trans s2) _ fun vs H3 s3 b => q _ H3 (s2.trans s3) (.cons (a.gr s3) b)
theorem mk_tup (h : MkA K t σ H ds) (z : ds.length ≤ 100000) : Mk K (tTup t) σ H (.tup ds) := fun H1 s Q q => h H1 s _ fun vs H2 s2 a => by
  refine ⟨by rw [a.len]; exact sz1 z, fun p np => ?_⟩
  exact q _ _ (s2.trans (same_new np)) (.tup (SqT.of upd_same) (a.gr (same_new np)))
theorem mk_lst (h : MkA K t σ H ds) (z : ds.length ≤ 100000) : Mk K (tLst t) σ H (.lst ds) := fun H1 s Q q => h H1 s _ fun vs H2 s2 a => by
  refine ⟨by rw [a.len]; exact sz1 z, fun p np => ?_⟩
  exact q _ _ (s2.trans (same_new np)) (.lst upd_same (a.gr (same_new np)))
theorem mk_dic : Mk K tDNewK σ H (.dic []) := fun H1 s Q q p np => q _ _ (same_new np) (.dic upd_same .nil)
theorem mk_cat (h : Mk K ta σ H (.lst ds)) (h2 : Mk K tb σ H (.lst es)) (z : ds.length + es.length ≤ 100000) : Mk K (tOp rCat ta tb) σ H (.lst (ds ++ es)) := fun H1 s Q q => h H1 s _ fun v H2 s2 a => h2 H2 (s.trans s2) _ fun u H3 s3 b => by
  cases a with
  | @lst p xs ds ea aa =>
    cases b with
    | @lst r ys es eb bb =>
      refine ⟨p, r, xs, ys, rfl, rfl, s3 _ _ ea, eb, by rw [aa.len, bb.len]; exact sz1 z, fun w nw => ?_⟩
      exact q _ _ ((s2.trans s3).trans (same_new nw)) (.lst upd_same (((aa.gr s3).app bb).gr (same_new nw)))
/-- list(xs), xs a tuple or a list -/
theorem mk_listT (h : Mk K ta σ H (.tup ds)) : Mk K (tCB (fun xs H Q => ∃ p ys, xs = [.ref p] ∧ (SqL K H p ys ∨ SqT K H p ys) ∧ ∀ l, H l = none → Q (.ref l) (upd H l (.lst ys))) (tCons ta tNil)) σ H (.lst ds) := fun H1 s Q q => h H1 s _ fun v H2 s2 a => by
  cases a with
  | @tup p xs ds e aa => exact ⟨p, xs, rfl, Or.inr e, fun l nl => q _ _ (s2.trans (same_new nl)) (.lst upd_same (aa.gr (same_new nl)))⟩
theorem mk_neD (h : Mk K ta σ H d) {e : D} (h2 : Mk K tb σ H e) (pd : d.pl = true) (pe : e.pl = true) (zd : d.py.depth ≤ 64) (ze : e.py.depth ≤ 64) : Mk K (tOp (rNeD K) ta tb) σ H (.bl (!PyData.eqv d.py e.py)) := fun H1 s Q q => h H1 s _ fun v H2 s2 a => h2 H2 (s.trans s2) _ fun u H3 s3 b =>
  r_neD (a.gr s3) b pd pe zd ze (q _ H3 (s2.trans s3) (.bl _))
theorem mk_eqD (h : Mk K ta σ H d) {e : D} (h2 : Mk K tb σ H e) (pd : d.pl = true) (pe : e.pl = true) (zd : d.py.depth ≤ 64) (ze : e.py.depth ≤ 64) : Mk K (tOp (rEqD K) ta tb) σ H (.bl (PyData.eqv d.py e.py)) := fun H1 s Q q => h H1 s _ fun v H2 s2 a => h2 H2 (s.trans s2) _ fun u H3 s3 b =>
  r_eqD (a.gr s3) b pd pe zd ze (q _ H3 (s2.trans s3) (.bl _))
/-- len of a list -/
theorem mk_len (h : Mk K ta σ H (.lst ds)) : Mk K (tCB (fun xs H Q => ∃ p ys, xs = [.ref p] ∧ (SqL K H p ys ∨ SqT K H p ys) ∧ Q (.int ys.length) H) (tCons ta tNil)) σ H (.int ds.length) := fun H1 s Q q => h H1 s _ fun v H2 s2 a => by
  cases a with
  | @lst p xs ds e aa =>
    refine ⟨p, xs, rfl, Or.inl (SqL.of e), ?_⟩
    have l := aa.len
    rw [l]
    exact q _ H2 s2 (.int _)
theorem mk_neI {i j : Int} (h : Mk K ta σ H (.int i)) (h2 : Mk K tb σ H (.int j)) : Mk K (tOp rNe ta tb) σ H (.bl (!decide (i = j))) := fun H1 s Q q => h H1 s _ fun v H2 s2 b => h2 H2 (s.trans s2) _ fun u H3 s3 c => by
  cases b
  cases c
  refine ⟨rfl, ?_⟩
  have e : decide (V.int i = V.int j) = decide (i = j) := by
    by_cases z : i = j
    · subst z; rw [decide_eq_true rfl, decide_eq_true rfl]
    · rw [decide_eq_false z, decide_eq_false fun y => z (V.int.inj y)]
  rw [e]
  exact q _ H3 (s2.trans s3) (.bl _)
theorem mk_eqI {i j : Int} (h : Mk K ta σ H (.int i)) (h2 : Mk K tb σ H (.int j)) : Mk K (tOp rEq ta tb) σ H (.bl (decide (i = j))) := fun H1 s Q q => h H1 s _ fun v H2 s2 b => h2 H2 (s.trans s2) _ fun u H3 s3 c => by
  cases b
  cases c
  refine ⟨rfl, ?_⟩
  have e : decide (V.int i = V.int j) = decide (i = j) := by
    by_cases z : i = j
    · subst z; rw [decide_eq_true rfl, decide_eq_true rfl]
    · rw [decide_eq_false z, decide_eq_false fun y => z (V.int.inj y)]
  rw [e]
  exact q _ H3 (s2.trans s3) (.bl _)
/-- a test that is known -/
def MkT (tt : TT) (σ : Sg) (H : Hp) (b : Bool) : Prop := ∀ H1, Same H H1 → ∀ Q : Bool → Hp → Prop, (∀ H2, Same H1 H2 → Q b H2) → tt σ H1 Q
theorem mt_test {b : Bool} (h : Mk K te σ H (.bl b)) : MkT (tTest te) σ H b := fun H1 s Q q => h H1 s _ fun v H2 s2 a => by
  cases a
  exact ⟨b, rfl, q H2 s2⟩
theorem mt_not {b : Bool} {tt : TT} (h : MkT tt σ H b) : MkT (tNot tt) σ H (!b) := fun H1 s Q q => h H1 s _ fun H2 s2 => q H2 s2
theorem mt_B {b : Bool} (h : Mk K te σ H (.bl b)) : MkT (tB te) σ H b := fun H1 s Q q => h H1 s _ fun v H2 s2 a => by
  cases a
  exact ⟨b, rfl, q H2 s2⟩
end
end TSx

/-! Own layer, part R4: exceptions among the data; what is known of a def and of a class. -/
namespace TSx
open PySem L2
/-- an own __init__ with one field -/
def spIni (C : Addr) (f : Str) : Sp := fun vs H Q _ => ∃ (a : Addr) (x : V), vs = [.ref a, x] ∧ H a = some (exo a C none) ∧ ∀ d, H d = none → d ≠ a → Q .non (upd (upd H d (exd d [(f, x)])) a (exo a C (some d)))
/-- an own exception class of the text, its one field -/
structure Xc (P : Program) (w : World) (K : PySem.W.Frag) (mg : Str → Option Value) (base : Heap) (nm fld : Str) (C fI : Addr) (fd : FuncData) : Prop where
  o : OexC K C
  a : ExcC K C
  iC : PySem.W.findIn K (.ref C) "__init__" = some (some (.ref fI))
  tI : PySem.W.typeIn K (.ref fI) = some (.type "function")
  F : FnOk P w K mg base CX0 1 fI fd ["self", fld] (spIni C fld)
  b : Binds K fd ["self", fld] []
  kw : KwB fd ["self", fld] [fld] id id
  g : mg nm = some (.ref C)
  no : PySem.W.findIn K (.ref C) fld = some none
/-- a def that is ready to be called -/
structure Dok (P : Program) (w : World) (K : PySem.W.Frag) (mg : Str → Option Value) (base : Heap) (k : Nat) (nm : Str) (ps : List Str) (sp : Sp) (f : Addr) (fd : FuncData) : Prop where
  G : FnOk P w K mg base CX0 k f fd ps sp
  g : mg nm = some (.ref f)
  k : PySem.W.keepIn K (.ref f) = true
  b : Binds K fd ps []
structure DoX (P : Program) (w : World) (K : PySem.W.Frag) (mg : Str → Option Value) (base : Heap) (k : Nat) (nm : Str) (ps : List Str) (sp : Sp) (f : Addr) (fd : FuncData) : Prop where
  G : FnOk P w K mg base (L2.CX P w) k f fd ps sp
  g : mg nm = some (.ref f)
  k : PySem.W.keepIn K (.ref f) = true
  b : Binds K fd ps []
structure DoG (P : Program) (w : World) (K : PySem.W.Frag) (mg : Str → Option Value) (base : Heap) (k : Nat) (nm : Str) (ps : List Str) (sp : Sp) (f : Addr) (fd : FuncData) : Prop where
  G : FnG P w K mg base CX0 k f fd ps sp
  g : mg nm = some (.ref f)
  k : PySem.W.keepIn K (.ref f) = true
  b : Binds K fd ps []
section
variable {K : PySem.W.Frag} {σ : Sg} {H : Hp} {te ta tb : TE} {t : TA} {d : D} {ds es : List D} {C : Addr} {f : Str}
/-- the heap behind a made exception -/
theorem made_gr {H1 : Hp} {a dd : Addr} {x : V} (na : H1 a = none) (nd : (upd H1 a (exo a C none)) dd = none) (ne : dd ≠ a) :
    Same H1 (upd (upd (upd (upd (upd H1 a (exo a C none)) dd (exd dd [(f, x)])) a (exo a C (some dd))) a (exq a C dd)) dd (.xd [(f, x)])) := fun b o e => by
  have hb : b ≠ a := ne_of_none e na
  have hd : b ≠ dd := fun z => by rw [z] at e; rw [upd_ne ne, e] at nd; cases nd
  rw [upd_ne hd, upd_ne hb, upd_ne hb, upd_ne hd, upd_ne hb]
  exact e
theorem mk_mkX (h : Mk K ta σ H d) : Mk K (tMkX C (spIni C f) (tCons ta tNil)) σ H (.exc C [(f, d)]) := fun H1 s Q q => h H1 s _ fun v H2 s2 a => by
  refine ⟨(show 1 ≤ 1000 by decide), fun p np => ⟨p, v, rfl, upd_same, fun dd nd ne => ⟨rfl, dd, [(f, v)], upd_same, ?_, ?_⟩⟩⟩
  · rw [upd_ne ne, upd_same]
  · have g := made_gr (C := C) (f := f) (x := v) np nd ne
    refine q _ _ (s2.trans g) (.exc (d := dd) (xs := [(f, v)]) ?_ upd_same (.cons (a.gr g) .nil))
    rw [upd_ne (Ne.symm ne), upd_same]
theorem mk_mkK (h : Mk K ta σ H d) : Mk K (tMkK C 1 (spIni C f) id (tCons ta tNil)) σ H (.exc C [(f, d)]) := fun H1 s Q q => h H1 s _ fun v H2 s2 a => by
  refine ⟨rfl, fun p np => ⟨p, v, rfl, upd_same, fun dd nd ne => ⟨rfl, dd, [(f, v)], upd_same, ?_, ?_⟩⟩⟩
  · rw [upd_ne ne, upd_same]
  · have g := made_gr (C := C) (f := f) (x := v) np nd ne
    refine q _ _ (s2.trans g) (.exc (d := dd) (xs := [(f, v)]) ?_ upd_same (.cons (a.gr g) .nil))
    rw [upd_ne (Ne.symm ne), upd_same]
theorem mk_xa {fs : List (Str × D)} (h : Mk K ta σ H (.exc C fs)) (T : ExcC K C) (no : PySem.W.findIn K (.ref C) f = some none) (l : fs.lookup f = some d) : Mk K (tXa K f ta) σ H d := fun H1 s Q q => h H1 s _ fun v H2 s2 a => by
  cases a with
  | @exc p C dd xs ds e1 e2 e3 =>
    obtain ⟨y, hy, ay⟩ := e3.look l
    exact ⟨p, C, dd, xs, y, rfl, e1, e2, T, no, hy, q y H2 s2 ay⟩
theorem mk_isX {fs : List (Str × D)} {c : V} {cv : Value} {b : Bool} (h : Mk K ta σ H (.exc C fs)) (T : ExcC K C) (hk : PySem.W.kitOne K (.ref C) cv = some b) (hc : ∀ u, RelV c u → u = cv) : Mk K (tCB (rIsX K) (tCons ta (tCons (tC c) tNil))) σ H (.bl b) := fun H1 s Q q => h H1 s _ fun v H2 s2 a => by
  cases a with
  | @exc p C dd xs ds e1 e2 e3 => exact ⟨p, C, dd, xs, c, cv, b, rfl, e1, e2, T, hc, hk, q _ H2 s2 (.bl b)⟩
end
/-- a class (or a def) of the text, by its name -/
theorem pe_cls {X : Cx} {x : Str} {C : Addr} {pos : Pos} (hg : Gl X x) (hm : X.mg x = some (.ref C)) (hd : (x == ("__debug__" : Str)) = false := by decide) : PE X (.Name x pos) (tC (.ref C)) := pe_glob hg hm rfl hd
/-- a thing without parts -/
def D.sc : D → Bool
  | .non => true
  | .bl _ => true
  | .int _ => true
  | .str _ => true
  | _ => false
theorem Dt.any {K : PySem.W.Frag} {H H' : Hp} {v : V} {d : D} (h : Dt K H v d) (s : d.sc = true) : Dt K H' v d := by
  cases h with
  | non => exact .non
  | bl b => exact .bl b
  | int i => exact .int i
  | str x => exact .str x
  | lst _ _ => cases s
  | tup _ _ => cases s
  | dic _ _ => cases s
  | exc _ _ _ => cases s
theorem DtA.any {K : PySem.W.Frag} {H H' : Hp} : ∀ {v : List V} {d : List D}, DtA K H v d → (∀ x ∈ d, x.sc = true) → DtA K H' v d
  | _, _, .nil, _ => .nil
  | _, _, .cons a b, h => .cons (a.any (h _ (List.mem_cons_self ..))) (b.any fun x hx => h x (List.mem_cons_of_mem _ hx))
/-- [e for k in range(n)], n written, e without parts -/
theorem mk_lcR {K : PySem.W.Frag} {σ : Sg} {H : Hp} {te : TE} {i n : Nat} {f : Nat → D} (hn : n ≤ 100000) (hs : ∀ k, (f k).sc = true) (h : ∀ k, k < n → ∀ H1, Same H H1 → Mk K te ((σ.set i none).set i (some (.int (k : Int)))) H1 (f k)) :
    Mk K (tLc (iRng1 (tCons (tC (.int (n : Int))) tNil)) (gName i) tYes te [i]) σ H (.lst ((List.range n).map f)) := fun H1 s Q q => by
  have flat : ∀ j, ∀ x ∈ (List.range j).map f, x.sc = true := fun j x hx => by
    obtain ⟨k, _, rfl⟩ := List.mem_map.mp hx
    exact hs k
  refine ⟨(n : Int), rfl, by omega, by omega, fun p np => lc_range (lo := 0) (n := n) (fun j H' => ∃ xs : List V, H' p = some (.lst xs) ∧ xs.length = j ∧ Same H1 H' ∧ DtA K H' xs ((List.range j).map f)) ⟨[], upd_same, rfl, same_new np, .nil⟩ ?_ ?_⟩
  · rintro j H' hj ⟨xs, e, l, s', a⟩
    have hk := h j hj H' (s.trans s') H' Gr.rfl'
    have w : (wipe σ [i]).set i (some (V.int (0 + (j : Int)))) = (σ.set i none).set i (some (.int (j : Int))) := by rw [Int.zero_add]; rfl
    refine ⟨?_, ?_⟩
    · rw [w]
      show ((σ.set i none).set i (some (.int (j : Int)))).set i none = σ.set i none
      rw [List.set_set, List.set_set]
    · rw [w]
      refine r_yes ?_
      refine hk _ fun v H2 s2 b => ⟨xs, s2 _ _ e, by rw [l]; exact sz2 (by omega), xs ++ [v], upd_same, by rw [List.length_append, l]; rfl, same_mut (s'.trans s2) np, ?_⟩
      rw [List.range_succ, List.map_append]
      exact (a.any (flat j)).app (.cons (b.any (hs j)) .nil)
  · rintro H' ⟨xs, e, l, s', a⟩
    exact q _ _ s' (.lst e a)
theorem ini_reading {K : PySem.W.Frag} {C : Addr} {f : Str} {H : Hp} {Q : VK} {vs : List V} {E : XK} (T : OexC K C) (no : PySem.W.findIn K (.ref C) f = some none) (h : spIni C f vs H Q E) :
    tOst K f (tVar 0) (tVar 1) { nx := fun _ H' => Q .non H', rt := Q } (L2.start ["self", f] vs) H := by
  obtain ⟨a, x, rfl, e, k⟩ := h
  exact ⟨x, rfl, .ref a, rfl, a, C, rfl, T, no, Or.inl ⟨e, fun d n ne => k d n ne⟩⟩
end TSx

/-! Own layer, part R5: data that stand apart from some addresses. -/
namespace TSx
open PySem L2
/-- the heap without the addresses of B -/
def wo (B : Addr → Bool) (H : Hp) : Hp := fun b => if B b = true then none else H b
def dom (H : Hp) : Addr → Bool := fun b => (H b).isSome
theorem wo_le {B : Addr → Bool} {H : Hp} : Same (wo B H) H := fun b o e => by
  unfold wo at e
  by_cases h : B b = true
  · rw [if_pos h] at e; cases e
  · rw [if_neg h] at e; exact e
theorem wo_at {B : Addr → Bool} {H : Hp} {b : Addr} (h : B b = false) : wo B H b = H b := by
  unfold wo
  rw [h]
  rfl
theorem wo_same {B : Addr → Bool} {H H' : Hp} (s : Same H H') : Same (wo B H) (wo B H') := fun b o e => by
  unfold wo at e ⊢
  by_cases h : B b = true
  · rw [if_pos h] at e; cases e
  · rw [if_neg h] at e ⊢; exact s b o e
theorem wo_kp {B : Addr → Bool} {H H' : Hp} {m g : Addr} (s : Kp m g H H') (hm : B m = true) (hg : B g = true) : Same (wo B H) (wo B H') := fun b o e => by
  unfold wo at e ⊢
  by_cases h : B b = true
  · rw [if_pos h] at e; cases e
  · rw [if_neg h] at e ⊢
    exact s b o (fun z => h (by rw [z]; exact hm)) (fun z => h (by rw [z]; exact hg)) e
theorem dom_of {H : Hp} {b : Addr} {o : HO} (h : H b = some o) : dom H b = true := by unfold dom; rw [h]; rfl
theorem dom_no {H : Hp} {b : Addr} (h : H b = none) : dom H b = false := by unfold dom; rw [h]; rfl
/-- te makes the data d, apart from B -/
def MkB (K : PySem.W.Frag) (B : Addr → Bool) (te : TE) (σ : Sg) (H : Hp) (d : D) : Prop := ∀ H1, Same H H1 → ∀ Q : VK, (∀ v H2, Same H1 H2 → Dt K (wo B H2) v d → Q v H2) → te σ H1 Q
def MkBA (K : PySem.W.Frag) (B : Addr → Bool) (ta : TA) (σ : Sg) (H : Hp) (ds : List D) : Prop := ∀ H1, Same H H1 → ∀ Q : List V → Hp → Prop, (∀ vs H2, Same H1 H2 → DtA K (wo B H2) vs ds → Q vs H2) → ta σ H1 Q
section
variable {K : PySem.W.Frag} {B : Addr → Bool} {σ : Sg} {H : Hp} {te ta tb : TE} {t : TA} {d : D} {ds es : List D}
theorem kb_non : MkB K B (tC .non) σ H .non := fun H1 _ Q q => q _ H1 Gr.rfl' .non
theorem kb_int {i : Int} : MkB K B (tC (.int i)) σ H (.int i) := fun H1 _ Q q => q _ H1 Gr.rfl' (.int i)
theorem kb_str {x : Str} : MkB K B (tC (.str x)) σ H (.str x) := fun H1 _ Q q => q _ H1 Gr.rfl' (.str x)
theorem kb_bl {b : Bool} : MkB K B (tC (.bl b)) σ H (.bl b) := fun H1 _ Q q => q _ H1 Gr.rfl' (.bl b)
theorem kb_var {n : Nat} {v : V} (h : σ[n]? = some (some v)) (a : Dt K (wo B H) v d) : MkB K B (tVar n) σ H d := fun H1 s Q q => ⟨v, h, q v H1 Gr.rfl' (a.gr (wo_same s))⟩
theorem kb_neg {i : Int} (h : MkB K B ta σ H (.int i)) : MkB K B (tUn (rU fun i => .int (-i)) ta) σ H (.int (-i)) := fun H1 s Q q => h H1 s _ fun v H2 s2 a => by
  cases a
  exact ⟨i, rfl, q _ H2 s2 (.int _)⟩
theorem kb_I {i j : Int} {C : Int → Int → Prop} {g : Int → Int → Int} (h : MkB K B ta σ H (.int i)) (h2 : MkB K B tb σ H (.int j)) (c : C i j) : MkB K B (tOp (rI C fun i j => .int (g i j)) ta tb) σ H (.int (g i j)) := fun H1 s Q q => h H1 s _ fun v H2 s2 a => h2 H2 (s.trans s2) _ fun u H3 s3 b => by
  cases a
  cases b
  exact ⟨i, j, rfl, rfl, c, q _ H3 (s2.trans s3) (.int _)⟩
theorem kba_nil : MkBA K B tNil σ H [] := fun H1 _ Q q => q _ H1 Gr.rfl' .nil
theorem kba_cons (h : MkB K B ta σ H d) (r : MkBA K B t σ H ds) : MkBA K B (tCons ta t) σ H (d :: ds) := fun H1 s Q q => h H1 s _ fun v H2 s2 a => r H2 (s.trans s2) _ fun vs H3 s3 b => q _ H3 (s2.trans s3) (.cons (a.gr (wo_same s3)) b)
/-- a free place is none of B's, where B's are all taken -/
theorem apart {H1 : Hp} {p : Addr} (hB : ∀ b, B b = true → H b ≠ none) (s : Same H H1) (n : H1 p = none) : B p = false := by
  cases e : B p with
  | false => rfl
  | true => exact absurd (gr_none s n) (hB p e)
theorem kb_tup (hB : ∀ b, B b = true → H b ≠ none) (h : MkBA K B t σ H ds) (z : ds.length ≤ 100000) : MkB K B (tTup t) σ H (.tup ds) := fun H1 s Q q => h H1 s _ fun vs H2 s2 a => by
  refine ⟨by rw [a.len]; exact sz1 z, fun p np => ?_⟩
  refine q _ _ (s2.trans (same_new np)) (.tup (SqT.of ?_) (a.gr (wo_same (same_new np))))
  rw [wo_at (apart hB (s.trans s2) np), upd_same]
theorem kb_lst (hB : ∀ b, B b = true → H b ≠ none) (h : MkBA K B t σ H ds) (z : ds.length ≤ 100000) : MkB K B (tLst t) σ H (.lst ds) := fun H1 s Q q => h H1 s _ fun vs H2 s2 a => by
  refine ⟨by rw [a.len]; exact sz1 z, fun p np => ?_⟩
  refine q _ _ (s2.trans (same_new np)) (.lst ?_ (a.gr (wo_same (same_new np))))
  rw [wo_at (apart hB (s.trans s2) np), upd_same]
theorem kb_dic (hB : ∀ b, B b = true → H b ≠ none) : MkB K B tDNewK σ H (.dic []) := fun H1 s Q q p np => q _ _ (same_new np) (.dic (by rw [wo_at (apart hB s np), upd_same]) .nil)
theorem kb_cat (hB : ∀ b, B b = true → H b ≠ none) (h : MkB K B ta σ H (.lst ds)) (h2 : MkB K B tb σ H (.lst es)) (z : ds.length + es.length ≤ 100000) : MkB K B (tOp rCat ta tb) σ H (.lst (ds ++ es)) := fun H1 s Q q => h H1 s _ fun v H2 s2 a => h2 H2 (s.trans s2) _ fun u H3 s3 b => by
  cases a with
  | @lst p xs ds ea aa =>
    cases b with
    | @lst r ys es eb bb =>
      refine ⟨p, r, xs, ys, rfl, rfl, s3 _ _ (wo_le _ _ ea), wo_le _ _ eb, by rw [aa.len, bb.len]; exact sz1 z, fun w nw => ?_⟩
      refine q _ _ ((s2.trans s3).trans (same_new nw)) (.lst ?_ (((aa.gr (wo_same s3)).app bb).gr (wo_same (same_new nw))))
      rw [wo_at (apart hB ((s.trans s2).trans s3) nw), upd_same]
end
end TSx

/-! Own layer, part R6: classes over OverflowError, two fields, lists times a number, a list's place, a comprehension over pairs. -/
namespace TSx
open PySem L2
/-- an own __init__ with two fields -/
def spIni2 (C : Addr) (f g : Str) : Sp := fun vs H Q _ => ∃ (a : Addr) (x y : V), vs = [.ref a, x, y] ∧ H a = some (exo a C none) ∧ ∀ d, H d = none → d ≠ a → Q .non (upd (upd (upd H d (exd d [(f, x)])) a (exo a C (some d))) d (exd d [(g, y), (f, x)]))
structure Xo (P : Program) (w : World) (K : PySem.W.Frag) (mg : Str → Option Value) (base : Heap) (nm fld : Str) (C fI : Addr) (fd : FuncData) : Prop where
  o : OofC K C
  a : ExcC K C
  iC : PySem.W.findIn K (.ref C) "__init__" = some (some (.ref fI))
  tI : PySem.W.typeIn K (.ref fI) = some (.type "function")
  F : FnOk P w K mg base CX0 1 fI fd ["self", fld] (spIni C fld)
  b : Binds K fd ["self", fld] []
  g : mg nm = some (.ref C)
  no : PySem.W.findIn K (.ref C) fld = some none
def swp {α : Type} : List α → List α
  | [x, y] => [y, x]
  | l => l
theorem swp_rel {zs : List V} {ws : List Value} (r : Vals zs ws) : Vals (swp zs) (swp ws) := by
  cases r with
  | nil => exact .nil
  | cons a r =>
    cases r with
    | nil => exact .cons a .nil
    | cons b r =>
      cases r with
      | nil => exact .cons b (.cons a .nil)
      | cons c r => exact .cons a (.cons b (.cons c r))
structure Xt (P : Program) (w : World) (K : PySem.W.Frag) (mg : Str → Option Value) (base : Heap) (nm f1 f2 : Str) (C fI : Addr) (fd : FuncData) : Prop where
  o : OexC K C
  a : ExcC K C
  iC : PySem.W.findIn K (.ref C) "__init__" = some (some (.ref fI))
  tI : PySem.W.typeIn K (.ref fI) = some (.type "function")
  F : FnOk P w K mg base CX0 1 fI fd ["self", f1, f2] (spIni2 C f1 f2)
  b : Binds K fd ["self", f1, f2] []
  kw : KwB fd ["self", f1, f2] [f2, f1] swp swp
  g : mg nm = some (.ref C)
  no1 : PySem.W.findIn K (.ref C) f1 = some none
  no2 : PySem.W.findIn K (.ref C) f2 = some none
section
variable {K : PySem.W.Frag} {σ : Sg} {H : Hp} {te ta tb : TE} {t : TA} {d d1 d2 : D} {ds es : List D} {C : Addr} {f g : Str}
theorem ofi_reading {Q : VK} {vs : List V} {E : XK} (T : OofC K C) (no : PySem.W.findIn K (.ref C) f = some none) (h : spIni C f vs H Q E) :
    tOfS K f (tVar 0) (tVar 1) { nx := fun _ H' => Q .non H', rt := Q } (L2.start ["self", f] vs) H := by
  obtain ⟨a, x, rfl, e, k⟩ := h
  exact ⟨x, rfl, .ref a, rfl, a, C, rfl, T, no, e, fun d n ne => k d n ne⟩
theorem ini2_reading {Q : VK} {vs : List V} {E : XK} (T : OexC K C) (no1 : PySem.W.findIn K (.ref C) f = some none) (no2 : PySem.W.findIn K (.ref C) g = some none) (h : spIni2 C f g vs H Q E) :
    tSeq (tOst K f (tVar 0) (tVar 1)) (tOst K g (tVar 0) (tVar 2)) { nx := fun _ H' => Q .non H', rt := Q } (L2.start ["self", f, g] vs) H := by
  obtain ⟨a, x, y, rfl, e, k⟩ := h
  refine ⟨x, rfl, .ref a, rfl, a, C, rfl, T, no1, Or.inl ⟨e, fun d n ne => ?_⟩⟩
  refine ⟨y, rfl, .ref a, rfl, a, C, rfl, T, no2, Or.inr ⟨d, [(f, x)], upd_same, ?_, (show 1 ≤ 900 by decide), k d n ne⟩⟩
  rw [upd_ne ne, upd_same]
theorem made_gr2 {H1 : Hp} {a dd : Addr} {x y : V} (na : H1 a = none) (nd : (upd H1 a (exo a C none)) dd = none) (ne : dd ≠ a) :
    Same H1 (upd (upd (upd (upd (upd (upd H1 a (exo a C none)) dd (exd dd [(f, x)])) a (exo a C (some dd))) dd (exd dd [(g, y), (f, x)])) a (exq a C dd)) dd (.xd [(g, y), (f, x)])) := fun b o e => by
  have hb : b ≠ a := ne_of_none e na
  have hd : b ≠ dd := fun z => by rw [z] at e; rw [upd_ne ne, e] at nd; cases nd
  rw [upd_ne hd, upd_ne hb, upd_ne hd, upd_ne hb, upd_ne hd, upd_ne hb]
  exact e
theorem mk_mkX2 (h : Mk K ta σ H d1) (h2 : Mk K tb σ H d2) : Mk K (tMkX C (spIni2 C f g) (tCons ta (tCons tb tNil))) σ H (.exc C [(g, d2), (f, d1)]) := fun H1 s Q q => h H1 s _ fun v H2 s2 a => h2 H2 (s.trans s2) _ fun u H3 s3 b => by
  refine ⟨(show 2 ≤ 1000 by decide), fun p np => ⟨p, v, u, rfl, upd_same, fun dd nd ne => ⟨rfl, dd, [(g, u), (f, v)], ?_, upd_same, ?_⟩⟩⟩
  · rw [upd_ne (Ne.symm ne), upd_same]
  · have gg := made_gr2 (C := C) (f := f) (g := g) (x := v) (y := u) np nd ne
    refine q _ _ ((s2.trans s3).trans gg) (.exc (d := dd) (xs := [(g, u), (f, v)]) ?_ upd_same (.cons (b.gr gg) (.cons ((a.gr s3).gr gg) .nil)))
    rw [upd_ne (Ne.symm ne), upd_same]
theorem mk_mkK2 (h : Mk K ta σ H d2) (h2 : Mk K tb σ H d1) : Mk K (tMkK C 2 (spIni2 C f g) swp (tCons ta (tCons tb tNil))) σ H (.exc C [(g, d2), (f, d1)]) := fun H1 s Q q => h H1 s _ fun u H2 s2 b => h2 H2 (s.trans s2) _ fun v H3 s3 a => by
  refine ⟨rfl, fun p np => ⟨p, v, u, rfl, upd_same, fun dd nd ne => ⟨rfl, dd, [(g, u), (f, v)], ?_, upd_same, ?_⟩⟩⟩
  · rw [upd_ne (Ne.symm ne), upd_same]
  · have gg := made_gr2 (C := C) (f := f) (g := g) (x := v) (y := u) np nd ne
    refine q _ _ ((s2.trans s3).trans gg) (.exc (d := dd) (xs := [(g, u), (f, v)]) ?_ upd_same (.cons ((b.gr s3).gr gg) (.cons (a.gr gg) .nil)))
    rw [upd_ne (Ne.symm ne), upd_same]
theorem DtA.rep {vs : List V} (h : DtA K H vs ds) : ∀ n : Nat, DtA K H (List.replicate n vs).flatten (List.replicate n ds).flatten
  | 0 => .nil
  | n + 1 => by
    rw [List.replicate_succ, List.replicate_succ, List.flatten_cons, List.flatten_cons]
    exact h.app (DtA.rep h n)
theorem mk_rep {k : Int} (h : Mk K ta σ H (.lst ds)) (h2 : Mk K tb σ H (.int k)) (k0 : 0 ≤ k) (k1 : k < 1000) (z : ds.length ≤ 100) : Mk K (tOp rRep ta tb) σ H (.lst (List.replicate k.toNat ds).flatten) := fun H1 s Q q => h H1 s _ fun v H2 s2 a => h2 H2 (s.trans s2) _ fun u H3 s3 b => by
  cases b
  cases a with
  | @lst p xs _ e aa =>
    refine ⟨p, k, xs, rfl, rfl, s3 _ _ e, by omega, by omega, ?_, fun w nw => q _ _ ((s2.trans s3).trans (same_new nw)) (.lst upd_same (((aa.gr s3).rep _).gr (same_new nw)))⟩
    refine sz1 (Nat.le_trans (Nat.mul_le_mul (show xs.length ≤ 100 by rw [aa.len]; exact z) (show k.toNat ≤ 1000 by omega)) (by decide))
theorem DtA.nth {vs : List V} {i : Nat} {y : D} (h : DtA K H vs ds) (e : ds[i]? = some y) : ∃ x, vs[i]? = some x ∧ Dt K H x y := by
  induction ds generalizing vs i with
  | nil => simp at e
  | cons z l ih =>
    cases h with
    | @cons v ws _ _ a b =>
    cases i with
    | zero => simp at e; subst e; exact ⟨v, rfl, a⟩
    | succ i =>
      obtain ⟨x, h1, h2⟩ := ih b (by simpa using e)
      exact ⟨x, by simpa using h1, h2⟩
theorem mk_ixL {i : Nat} (h : Mk K ta σ H (.lst ds)) (h2 : Mk K tb σ H (.int (i : Int))) (e : ds[i]? = some d) : Mk K (tOp (rIxL K) ta tb) σ H d := fun H1 s Q q => h H1 s _ fun v H2 s2 a => h2 H2 (s.trans s2) _ fun u H3 s3 b => by
  cases b
  cases a with
  | @lst p xs _ el aa =>
    obtain ⟨x, hx, ax⟩ := aa.nth e
    exact ⟨p, xs, (i : Int), x, rfl, rfl, SqL.of (s3 _ _ el), atI_nat hx, q x _ (s2.trans s3) (ax.gr s3)⟩
end
def rowD (p : Str × Bool) : D := .tup [.str p.1, .bl p.2]
theorem mk_lcT {K : PySem.W.Frag} {H : Hp} {ti : TE} {a b c d : Option V} (rows : List (Str × Bool)) (h : Mk K ti [a, b, c, d] H (.lst (rows.map rowD))) (z : rows.length < 1000) :
    Mk K (tLc (iList K ti) (gTup K 2 (gCons (gName 2) (gCons (gName 3) gNil))) (tB (tVar 3)) (tVar 2) [2, 3]) [a, b, c, d] H (.lst ((rows.filter (·.2)).map fun p => .str p.1)) := fun H1 s Q q => h H1 s _ fun v H2 s2 av => by
  cases av with
  | @lst p xs _ e aa =>
  have lx : xs.length = rows.length := by rw [aa.len, List.length_map]
  refine ⟨p, rfl, ⟨xs, SqL.of e⟩, fun D hD => lc_list (K := K) (a := p) (xs := xs) (fun k H' => Same H2 H' ∧ ∃ ys : List V, H' D = some (.lst ys) ∧ ys.length ≤ k ∧ DtA K H' ys (((rows.take k).filter (·.2)).map fun p => .str p.1))
    ⟨same_new hD, [], upd_same, Nat.le_refl _, .nil⟩ (fun k H' _ w => SqL.of (w.1 _ _ e)) ?_ ?_⟩
  · rintro k x H' hx ⟨s', ys, ey, ly, ay⟩
    obtain ⟨dx, edx, adx⟩ := aa.at hx
    obtain ⟨r, hr, rfl⟩ : ∃ r, rows[k]? = some r ∧ rowD r = dx := by
      rw [List.getElem?_map] at edx
      cases q : rows[k]? with
      | none => rw [q] at edx; cases edx
      | some r => rw [q] at edx; cases edx; exact ⟨r, rfl, rfl⟩
    have kl : k < rows.length := (List.getElem?_eq_some_iff.mp hr).1
    have tk : rows.take (k + 1) = rows.take k ++ [r] := by rw [List.take_add_one, hr]; rfl
    obtain ⟨l, bb⟩ := r
    cases adx with
    | @tup t ws _ hT at2 =>
    cases at2 with
    | cons q1 at2 =>
    cases at2 with
    | cons q2 at2 =>
    cases at2
    cases q1
    cases q2
    refine ⟨t, _, rfl, gr_T s' hT, rfl, _, _, rfl, r_name ⟨_, _, rfl, r_name ⟨rfl, rfl, ?_⟩⟩⟩
    refine ⟨_, rfl, bb, rfl, ?_⟩
    cases bb with
    | false =>
      refine iteF ?_
      refine ⟨s', ys, ey, by omega, ?_⟩
      rw [tk, List.filter_append]
      simpa using ay
    | true =>
      refine iteT ?_
      refine ⟨_, rfl, ys, ey, sz2 (by omega), same_mut s' hD, _, upd_same, by rw [List.length_append]; simpa using ly, ?_⟩
      rw [tk, List.filter_append, List.map_append]
      have flat : ∀ {l : List (Str × Bool)}, ∀ x ∈ l.map (fun p : Str × Bool => TSx.D.str p.1), x.sc = true := by
        intro l x hx
        obtain ⟨y, _, rfl⟩ := List.mem_map.mp hx
        rfl
      exact (ay.any flat).app (.cons (.str l) .nil)
  · rintro H' ⟨s', ys, ey, ly, ay⟩
    refine q _ _ (s2.trans s') (.lst ey ?_)
    rw [lx, List.take_length] at ay
    exact ay
end TSx

/-! Own layer, part Z1: zip of a tuple and a text, enumerate of a tuple, lcm. -/
namespace TSx
open PySem L2 PySem.Spec PyProof.Rows
/-- the tuple at a and the text x, side by side -/
def ItzS (K : PySem.W.Frag) (a : Addr) (x : Str) : It :=
  ⟨fun i H => ∃ (xs : List V) (v : V) (c : Nat), SqT K H a xs ∧ xs[i]? = some v ∧ x.cps[i]? = some c,
    fun i H v H' => ∃ (T : Addr) (u : V) (c : Nat), v = .ref T ∧ H T = none ∧ H' = upd H T (.tup [u, .str ⟨#[c]⟩]) ∧ (∀ xs, SqT K H a xs → xs[i]? = some u) ∧ x.cps[i]? = some c,
    fun i H => ∃ xs : List V, SqT K H a xs ∧ i ≤ xs.length ∧ i ≤ x.cps.size ∧ (i = xs.length ∨ i = x.cps.size)⟩
theorem turn_zipS {P : Program} {w : World} {K : PySem.W.Frag} {elts : List Expr} {kk : Nat} {tpos : Pos} {a z TI TO i1 i2 : Addr} {x : Str} {t : Tok} (S : ZipSep2 z TI TO i1 i2 [i1, a] [i2]) :
    Turn P w K (.Tuple elts kk tpos) (ItzS K a x) [z, TI, TO, i1, i2] z (fun i h => IsZip h z TI TO .none ∧ IsTupOf2 h TI (.ref i1) (.ref i2) ∧ (∃ p q, IsTupOf2 h TO p q) ∧ h.IsTupleIter i1 a i ∧ h.IsStrIter i2 (strIterType x) x t i) where
  mem := by simp
  obj := fun i h st c hc => by
    obtain ⟨hz, hTI, ⟨p, q, hTO⟩, ⟨o1, e1, _, d1⟩, ⟨o2, e2, _, d2⟩⟩ := st
    have e' : c = z ∨ c = TI ∨ c = TO ∨ c = i1 ∨ c = i2 := by simpa using hc
    rcases e' with q | q | q | q | q
    · rw [q]; exact ⟨_, hz, fun v q => nomatch q⟩
    · rw [q]; exact ⟨_, hTI, fun v q => nomatch q⟩
    · rw [q]; exact ⟨_, hTO, fun v q => nomatch q⟩
    · rw [q]; exact ⟨o1, e1, fun v q => by rw [d1] at q; cases q⟩
    · rw [q]; exact ⟨o2, e2, fun v q => by rw [d2] at q; cases q⟩
  keep := fun i h h' st k => by
    obtain ⟨hz, hTI, ⟨p, q, hTO⟩, ⟨o1, e1, r1⟩, ⟨o2, e2, r2⟩⟩ := st
    exact ⟨k z (by simp) _ hz, k TI (by simp) _ hTI, ⟨p, q, k TO (by simp) _ hTO⟩, ⟨o1, k i1 (by simp) _ e1, r1⟩, ⟨o2, k i2 (by simp) _ e2, r2⟩⟩
  item := by
    intro X hP hw hK hc i pins s σ H E I hf st hg
    subst hP hw hK
    obtain ⟨hz, hTI, ⟨p0, q0, hTO⟩, h1, h2⟩ := st
    obtain ⟨xs, v, c, hq, hx, hc'⟩ := hg
    obtain ⟨its, rv, pt, _⟩ := I.tuple hq
    obtain ⟨u, hu, ru⟩ := rv.get hx
    have ne1 : a ≠ i1 := fun e => by
      obtain ⟨o, ho, hcl, _⟩ := pt
      obtain ⟨o1, e1, c1, _⟩ := h1
      rw [e] at ho
      rw [e1] at ho
      cases ho
      rw [hcl] at c1
      exact absurd (Value.type.inj c1) (by decide)
    have hzl : z < s.heap.objs.size := Heap.lt_size hz
    have li1 : i1 < s.heap.objs.size := by obtain ⟨_, e1, _⟩ := h1; exact Heap.lt_size e1
    have li2 : i2 < s.heap.objs.size := by obtain ⟨_, e2, _⟩ := h2; exact Heap.lt_size e2
    have lTI : TI < s.heap.objs.size := Heap.lt_size hTI
    have lTO : TO < s.heap.objs.size := Heap.lt_size hTO
    have D1 := Draws.tuple (prog := X.prog) (w := X.w) (A := X.A.in1) (I.ok.hd hc) i1 a ne1 its.toArray
    have D2 := Draws.text (prog := X.prog) (w := X.w) (A := X.A.in1) (I.ok.hd hc) i2 x t
    have l1 : i < its.toArray.size := by
      have : i < its.length := (List.getElem?_eq_some_iff.mp (by simpa using hu)).1
      simpa using this
    have l2 : i < x.cps.size := (Array.getElem?_eq_some_iff.mp hc').1
    refine wpAny_pyNext_zipD2_item S D1 D2 hz hTI hTO ⟨h1, pt⟩ h2 l1 l2 fun x1 x2 h' tk y1 y2 b1 b2 d1 d2 b5 b6 hk => ?_
    have e1 : x1 = u := by
      have hu' : its.toArray[i]? = some u := by simpa using hu
      rw [hu'] at y1
      exact (Option.some.inj y1).symm
    subst e1
    obtain ⟨c', u2, hc2, rfl⟩ := y2
    rw [hc'] at hc2
    cases hc2
    refine ⟨_, rfl, wpAny_letOwnedTupleGo_zip (s := { s with heap := h', toks := tk }) b1 fun h'' z'' sb => ?_⟩
    have T2 : h''.get? s.heap.objs.size = some { cls := .type "tuple", data := .seq #[x1, .str ⟨#[c]⟩ u2] } := (sb.2 _ (Nat.ne_of_gt hzl)).trans b5
    have new : ObjOk X.prog X.w (upd H s.heap.objs.size (.tup [v, .str ⟨#[c]⟩])) h'' s.heap.objs.size (.tup [v, .str ⟨#[c]⟩]) :=
      ⟨by show 2 ≤ sizeLine; decide, [x1, .str ⟨#[c]⟩ u2], .cons ru (.cons ⟨_, rfl⟩ .nil), ⟨_, T2, rfl, _, rfl⟩⟩
    have I1 : Inv X pins σ (upd H s.heap.objs.size (.tup [v, .str ⟨#[c]⟩])) { s with heap := h'', toks := tk } :=
      I.turnedNew (ch := [z, TI, TO, i1, i2]) (fun b o hb q => (sb.2 b (fun q' => hb (by simp [q']))).trans (hk b o (fun q' => hb (by simp [q'])) (fun q' => hb (by simp [q'])) (fun q' => hb (by simp [q'])) (fun q' => hb (by simp [q'])) q)) hf (Nat.le_refl _) new
    refine ⟨.ref s.heap.objs.size, _, I1, rfl, ⟨_, v, c, rfl, I.hok.fresh (Nat.le_refl _), rfl, fun l hl => by rw [I.tuple_inj hl hq]; exact hx, hc'⟩, ⟨z'', ?_, ⟨x1, .str ⟨#[c]⟩ u2, ?_⟩, ?_, ?_⟩, fun b hb => ?_⟩
    · exact (sb.2 _ S.TIz).trans (hk _ _ S.TIz S.TITO S.TIi1 S.TIi2 hTI)
    · exact (sb.2 _ S.TOz).trans b2
    · obtain ⟨⟨o1, e1, r1⟩, _⟩ := d1
      exact ⟨o1, (sb.2 _ (Ne.symm S.zi1)).trans e1, r1⟩
    · obtain ⟨o2, e2, r2⟩ := d2
      exact ⟨o2, (sb.2 _ (Ne.symm S.zi2)).trans e2, r2⟩
    · have lt : b < s.heap.objs.size := by
        have e' : b = z ∨ b = TI ∨ b = TO ∨ b = i1 ∨ b = i2 := by simpa using hb
        rcases e' with q | q | q | q | q <;> rw [q] <;> assumption
      rw [upd_ne (Nat.ne_of_lt lt)]
      exact (hf b hb).1
  done := by
    intro X hP hw hK hc i pins s σ H E I hf st hg
    subst hP hw hK
    obtain ⟨hz, hTI, ⟨p0, q0, hTO⟩, h1, h2⟩ := st
    obtain ⟨xs, hq, n1, n2, hend⟩ := hg
    obtain ⟨its, rv, pt, _⟩ := I.tuple hq
    have l1 := rv.length
    have ne1 : a ≠ i1 := fun e => by
      obtain ⟨o, ho, hcl, _⟩ := pt
      obtain ⟨o1, e1, c1, _⟩ := h1
      rw [e] at ho
      rw [e1] at ho
      cases ho
      rw [hcl] at c1
      exact absurd (Value.type.inj c1) (by decide)
    have D1 := Draws.tuple (prog := X.prog) (w := X.w) (A := X.A.in1) (I.ok.hd hc) i1 a ne1 its.toArray
    have D2 := Draws.text (prog := X.prog) (w := X.w) (A := X.A.in1) (I.ok.hd hc) i2 x t
    have sz : its.toArray.size = xs.length := by rw [List.size_toArray]; exact l1.symm
    refine wpAny_pyNext_zipD2_end S D1 D2 hz hTI hTO ⟨h1, pt⟩ h2 (by omega) n2 (by omega) fun h' tk hk => ⟨rfl, I.turnedL (t' := tk) (ch := [z, TI, TO, i1, i2]) (fun b o hb q =>
      hk b o (fun q' => hb (by simp [q'])) (fun q' => hb (by simp [q'])) (fun q' => hb (by simp [q'])) (fun q' => hb (by simp [q'])) q) hf⟩
  self := fun A i s Q E st h => wpAny_pyIter_zip st.1 h
def iZipS (K : PySem.W.Frag) (ta : TA) : TI := fun σ H R => ta σ H fun vs H1 => ∃ (a : Addr) (x : Str) (xs : List V), vs = [.ref a, .str x] ∧ SqT K H1 a xs ∧ R (ItzS K a x) H1
theorem pi_zipS {X : Cx} {e e2 : Expr} {ta : TA} {p pos tpos : Pos} {elts : List Expr} {kk : Nat} (hg : Gl X "zip") (hm : X.mg "zip" = none) (ha : PA X [e, e2] ta)
    (hs : starEach [e, e2] X.env = (false, eval e X.env) :: starEach [e2] X.env := by rfl) (hpl : (backTo pos (starEach [e2] X.env)).any (·.1) = false := by rfl) :
    PI X (.Tuple elts kk tpos) (.Call (.Name "zip" p) [e, e2] [] pos) (iZipS X.K ta) := by
  constructor
  intro pins s σ H R I h
  refine Call_ (ld_blt I hg hm PyProof.Rows.boot_zip (PyProof.Rows.callWith_type1 (thn (ha.run pos pins s σ H _ I h) fun us s1 z => ?_) hs hpl))
  obtain ⟨vs, H1, I1, r1, a, x, xs, ex, hq, q⟩ := z
  subst ex
  obtain ⟨u1, u2, rfl, ra, rx⟩ := vals2 r1
  cases (show u1 = Value.ref a from ra)
  obtain ⟨t, rfl⟩ := (show ∃ t, u2 = Value.str x t from rx)
  obtain ⟨its, rv, pt, _⟩ := I1.tuple hq
  have la : a < s1.heap.objs.size := by obtain ⟨o, ho, _⟩ := id pt; exact Heap.lt_size ho
  refine zip_begins2 (begins_tuple a its.toArray) (begins_text x t) pt trivial fun h' hz hTI hTO g1 g2 hsz hk => wpAny_pyIter_zip hz ?_
  have I2 : Inv X pins σ H1 { s1 with heap := h' } := I1.kept (t' := s1.toks) hk
  refine ⟨s1.heap.objs.size + 4, [s1.heap.objs.size + 4, s1.heap.objs.size + 2, s1.heap.objs.size + 3, s1.heap.objs.size, s1.heap.objs.size + 1], _, _, H1, rfl, I2,
    turn_zipS (t := t) (zip_sep2 (N := s1.heap.objs.size) (fp1 := [a]) (fp2 := []) (fun b hb => by rw [List.mem_singleton.mp hb]; exact la) (fun b hb => nomatch hb)), ⟨hz, hTI, ⟨_, _, hTO⟩, ⟨_, g1, rfl, rfl⟩, ⟨_, g2, rfl, rfl⟩⟩, fun c hc => ?_, q⟩
  have e' : c = s1.heap.objs.size + 4 ∨ c = s1.heap.objs.size + 2 ∨ c = s1.heap.objs.size + 3 ∨ c = s1.heap.objs.size ∨ c = s1.heap.objs.size + 1 := by simpa using hc
  have hle : s1.heap.objs.size ≤ c := by
    rcases e' with z | z | z | z | z <;> rw [z] <;> first | exact Nat.le_add_right _ _ | exact Nat.le_refl _
  exact I1.fpOk hle (I1.hok.fresh hle)
/-! ### enumerate(tuple) -/
def IteT (K : PySem.W.Frag) (a : Addr) : It :=
  ⟨fun i H => ∃ (xs : List V) (x : V), SqT K H a xs ∧ xs[i]? = some x, fun i H v H' => ∃ (T : Addr) (x : V), v = .ref T ∧ H T = none ∧ H' = upd H T (.tup [.int (i : Nat), x]) ∧ ∀ xs, SqT K H a xs → xs[i]? = some x, fun i H => ∃ xs : List V, SqT K H a xs ∧ i = xs.length⟩
theorem turn_enumT {P : Program} {w : World} {K : PySem.W.Frag} {elts : List Expr} {kk : Nat} {tpos : Pos} (a e it : Addr) :
    Turn P w K (.Tuple elts kk tpos) (IteT K a) [e, it] e (fun i h => (∃ old, IsEnum h e it ((i : Nat) : Int) old) ∧ h.IsTupleIter it a i ∧ e ≠ it) where
  mem := by simp
  obj := fun i h st b hb => by
    obtain ⟨⟨old, he⟩, ⟨o, ho, hc, hd⟩, _⟩ := st
    have e' : b = e ∨ b = it := by simpa using hb
    rcases e' with z | z
    · rw [z]; exact ⟨_, he, fun v q => nomatch q⟩
    · rw [z]; exact ⟨o, ho, fun v q => by rw [hd] at q; cases q⟩
  keep := fun i h h' st k => by
    obtain ⟨⟨old, he⟩, ⟨o, ho, r⟩, hne⟩ := st
    exact ⟨⟨old, k e (by simp) _ he⟩, ⟨o, k it (by simp) _ ho, r⟩, hne⟩
  item := by
    intro X hP hw hK hc i pins s σ H E I hf st hg
    subst hP hw hK
    obtain ⟨⟨old, he⟩, hit, hne⟩ := st
    obtain ⟨xs, x, hq, hx⟩ := hg
    obtain ⟨its, rv, pt, _⟩ := I.tuple hq
    obtain ⟨u, hu, ru⟩ := rv.get hx
    have ne1 : a ≠ it := fun e => by
      obtain ⟨o, ho, hcl, _⟩ := pt
      obtain ⟨o1, e1, c1, _⟩ := hit
      rw [e] at ho
      rw [e1] at ho
      cases ho
      rw [hcl] at c1
      exact absurd (Value.type.inj c1) (by decide)
    have nea : e ≠ a := fun z => by
      obtain ⟨o, ho, hcl, _⟩ := pt
      rw [← z] at ho
      have he' : s.heap.get? e = some _ := he
      rw [he'] at ho
      cases ho
      exact absurd (Value.type.inj hcl) (by decide)
    have hel : e < s.heap.objs.size := Heap.lt_size he
    have hil : it < s.heap.objs.size := by obtain ⟨_, q, _⟩ := hit; exact Heap.lt_size q
    have D1 := Draws.tuple (prog := X.prog) (w := X.w) (A := X.A.in1) (I.ok.hd hc) it a ne1 its.toArray
    have l1 : i < its.toArray.size := by
      have : i < its.length := (List.getElem?_eq_some_iff.mp (by simpa using hu)).1
      simpa using this
    refine wpAny_pyNext_enum_itemD D1 he ⟨hit, pt⟩ l1 hne (by simp [hne, nea]) fun x1 h' tk y1 ho hit' hT hsz hk => ?_
    have e1 : x1 = u := by
      have hu' : its.toArray[i]? = some u := by simpa using hu
      rw [hu'] at y1
      exact (Option.some.inj y1).symm
    subst e1
    refine ⟨_, rfl, wpAny_letOwnedTupleGo_enum (s := { s with heap := h', toks := tk + 1 }) ho fun h'' he' sb => ?_⟩
    have T2 : h''.get? s.heap.objs.size = some { cls := .type "tuple", data := .seq #[.int i tk, x1] } := (sb.2 _ (Nat.ne_of_gt hel)).trans hT
    have new : ObjOk X.prog X.w (upd H s.heap.objs.size (.tup [.int (i : Nat), x])) h'' s.heap.objs.size (.tup [.int (i : Nat), x]) :=
      ⟨by show 2 ≤ sizeLine; decide, [.int i tk, x1], .cons ⟨_, rfl⟩ (.cons ru .nil), ⟨_, T2, rfl, _, rfl⟩⟩
    have I1 : Inv X pins σ (upd H s.heap.objs.size (.tup [.int (i : Nat), x])) { s with heap := h'', toks := tk + 1 } :=
      I.turnedNew (ch := [e, it]) (fun b ob hb q => (sb.2 b (fun z => hb (by simp [z]))).trans (hk b ob (fun z => hb (by simp [z])) (fun z => hb (by simp [z])) q)) hf (Nat.le_refl _) new
    refine ⟨.ref s.heap.objs.size, _, I1, rfl, ⟨_, x, rfl, I.hok.fresh (Nat.le_refl _), rfl, fun ys hy => by rw [I.tuple_inj hy hq]; exact hx⟩, ⟨⟨x1, ?_⟩, ?_, hne⟩, fun b hb => ?_⟩
    · have e1 : ((i + 1 : Nat) : Int) = (i : Int) + 1 := by omega
      rw [e1]; exact he'
    · obtain ⟨⟨o, q, r⟩, _⟩ := hit'
      exact ⟨o, (sb.2 it (Ne.symm hne)).trans q, r⟩
    · have lt : b < s.heap.objs.size := by
        have e' : b = e ∨ b = it := by simpa using hb
        rcases e' with z | z <;> rw [z] <;> assumption
      rw [upd_ne (Nat.ne_of_lt lt)]
      exact (hf b hb).1
  done := by
    intro X hP hw hK hc i pins s σ H E I hf st hg
    subst hP hw hK
    obtain ⟨⟨old, he⟩, hit, hne⟩ := st
    obtain ⟨xs, hq, hx⟩ := hg
    obtain ⟨its, rv, pt, _⟩ := I.tuple hq
    obtain ⟨f0, f1, f2, f3, f4, f5⟩ := hf it (by simp)
    have ne1 : a ≠ it := fun e => by
      obtain ⟨o, ho, hcl, _⟩ := pt
      obtain ⟨o1, e1, c1, _⟩ := hit
      rw [e] at ho
      rw [e1] at ho
      cases ho
      rw [hcl] at c1
      exact absurd (Value.type.inj c1) (by decide)
    have D1 := Draws.tuple (prog := X.prog) (w := X.w) (A := X.A.in1) (I.ok.hd hc) it a ne1 its.toArray
    have sz : i = its.toArray.size := by rw [List.size_toArray, hx]; exact rv.length
    subst sz
    exact wpAny_pyNext_enum_endD D1 he ⟨hit, pt⟩ fun h' eb => ⟨rfl, I.turned (t' := s.toks) (fun b o hb q => eb b o hb q) f0 f1 f3 f4 f5⟩
  self := fun A i s Q E st h => let ⟨⟨_, he⟩, _⟩ := st; wpAny_pyIter_enum he h
set_option maxHeartbeats 4000000 in
theorem meets_enumB {v : Value} {o : Obj} {H : Heap → Prop} (B : Begins v o H) :
    Meets (Builtin.«enumerate.__new__» ⟨[.type "enumerate", v], []⟩) (fun _ R s => H s.heap ∧
      R (.ok (.ret (.ref (s.heap.push o).objs.size))) { s with heap := (s.heap.push o).push { cls := .type "enumerate", data := .fields #[.none, .bool false, .ref s.heap.objs.size, rawInt 0, .none, .none] } }) :=
  .of_wp fun prog w A R s h => by
    obtain ⟨hp, g, d, tk, os⟩ := s
    obtain ⟨h1, h⟩ := h
    have hsub := sub_enumerate
    have go : ∀ {A' : Around} {E : Value → Shared → Prop} {Q : Value → Shared → Prop}, Q (.ref hp.objs.size) ⟨hp.push o, g, d, tk, os⟩ → wpAny (model prog w) A' (pyIter v) Q E ⟨hp, g, d, tk, os⟩ :=
      fun q => B.iter prog w _ _ ⟨hp, g, d, tk, os⟩ _ h1 q
    wp_walk using go
    refine wpAny_stack_any fun st => wpAny_pure ?_
    split
    case h_1 =>
      rename_i c _ _ _ _ _
      cases (c == Value.type "enumerate")
      all_goals
        wp_walk using go
        exact ⟨_, rfl, h⟩
    all_goals
      wp_walk using go
      exact ⟨_, rfl, h⟩
theorem enumB {prog : Program} {w : World} {A : Around} {E : Value → Shared → Prop} {s : Shared} {v : Value} {o : Obj} {H : Heap → Prop} {Q : Value → Shared → Prop} (B : Begins v o H) (h1 : H s.heap)
    (h : ∀ h', IsEnum h' (s.heap.objs.size + 1) s.heap.objs.size 0 .none → h'.get? s.heap.objs.size = some o → h'.objs.size = s.heap.objs.size + 2 →
      (∀ b o, s.heap.get? b = some o → h'.get? b = some o) → Q (.ref (s.heap.objs.size + 1)) { s with heap := h' }) :
    wpAny (model prog w) A (call (.type "enumerate") [v]) Q E s := by
  refine callType_new PySem.F.called_enumerate (by decide) (PySem.F.typeCall_enumerate_1 _) (PySem.F.newCall_enumerate_1 _) (fun obj => PySem.F.args_object_init_2 obj _) PySem.F.entry_enumerate_new (meets_enumB B) ⟨h1, ?_⟩
  have hz : (s.heap.push o).objs.size = s.heap.objs.size + 1 := Heap.size_push ..
  have he := Heap.get?_push_size (s.heap.push o) (o := { cls := .type "enumerate", data := .fields #[.none, .bool false, .ref s.heap.objs.size, rawInt 0, .none, .none] }) rfl
  show _ ∧ _
  rw [hz] at he ⊢
  exact ⟨⟨_, he, rfl⟩, h _ he (Heap.get?_push_of_some _ (Heap.get?_push_size _ B.free)) (by rw [Heap.size_push, hz]) fun b o x => Heap.get?_push_of_some _ (Heap.get?_push_of_some _ x)⟩
def iEnumT (K : PySem.W.Frag) (ta : TA) : TI := fun σ H R => ta σ H fun vs H1 => ∃ (a : Addr) (xs : List V), vs = [.ref a] ∧ SqT K H1 a xs ∧ R (IteT K a) H1
theorem pi_enumT {X : Cx} {e : Expr} {ta : TA} {p pos tpos : Pos} {elts : List Expr} {kk : Nat} (hg : Gl X "enumerate") (hm : X.mg "enumerate" = none) (ha : PA X [e] ta) (hs : starEach [e] X.env = [(false, eval e X.env)] := by rfl) :
    PI X (.Tuple elts kk tpos) (.Call (.Name "enumerate" p) [e] [] pos) (iEnumT X.K ta) := by
  constructor
  intro pins s σ H R I h
  refine Call_ (ld_blt I hg hm boot_enumerate (PyProof.Rows.callWith_type1 (thn (ha.run pos pins s σ H _ I h) fun us s1 z => ?_) hs rfl))
  obtain ⟨vs, H1, I1, r1, a, xs, ex, hq, q⟩ := z
  subst ex
  obtain ⟨u1, rfl, ra⟩ := vals1 r1
  cases (show u1 = Value.ref a from ra)
  obtain ⟨its, rv, pt, _⟩ := I1.tuple hq
  refine enumB (begins_tuple a its.toArray) pt fun h' he g1 hsz hk => wpAny_pyIter_enum he ?_
  have I2 : Inv X pins σ H1 { s1 with heap := h' } := I1.kept (t' := s1.toks) hk
  refine ⟨s1.heap.objs.size + 1, [s1.heap.objs.size + 1, s1.heap.objs.size], _, _, H1, rfl, I2, turn_enumT a (s1.heap.objs.size + 1) s1.heap.objs.size, ⟨⟨.none, he⟩, ⟨_, g1, rfl, rfl⟩, Nat.succ_ne_self _⟩, fun b hb => ?_, q⟩
  have e' : b = s1.heap.objs.size + 1 ∨ b = s1.heap.objs.size := by simpa using hb
  have hle : s1.heap.objs.size ≤ b := by
    rcases e' with z | z <;> rw [z] <;> first | exact Nat.le_add_right _ _ | exact Nat.le_refl _
  exact I1.fpOk hle (I1.hok.fresh hle)
/-! ### lcm -/
def rLcm : List V → Hp → VK → Prop := fun vs H Q => ∃ a b : Int, vs = [.int a, .int b] ∧ a.natAbs < 2 ^ 64 ∧ b.natAbs < 2 ^ 64 ∧ (((Nat.lcm 1 a.natAbs).lcm b.natAbs : Nat) : Int).natAbs.log2 < bitsLine ∧ Q (.int (((Nat.lcm 1 a.natAbs).lcm b.natAbs : Nat) : Int)) H
theorem cr_lcm {X : Cx} : CallR X (.builtin "math.lcm") rLcm := by
  intro pins s σ H vs us Q I r h
  obtain ⟨a, b, rfl, h1, h2, h3, q⟩ := h
  obtain ⟨t, u, rfl⟩ := Vals.int2 r
  exact PySem.W.mg_lcm h1 h2 h3 ⟨.int _, H, I.tok _, ⟨_, rfl⟩, q⟩
end TSx

/-! Own layer, part R7: defs that only tell a value; isinstance of data, chains, texts of sides. -/
namespace TSx
open PySem L2
/-- a def that tells of some data a thing, and changes nothing -/
def spP (K : PySem.W.Frag) (f : List D → D → Prop) : Sp := fun vs H Q _ => ∃ ds r, DtA K H vs ds ∧ f ds r ∧ ∀ v H', Same H H' → Dt K H' v r → Q v H'
structure Blt2 (mg : Str → Option Value) : Prop where
  int : mg "int" = none
  bool : mg "bool" = none
  str : mg "str" = none
  tuple : mg "tuple" = none
  list : mg "list" = none
  zip : mg "zip" = none
  sum : mg "sum" = none
  all : mg "all" = none
def D.ty : D → String
  | .non => "NoneType"
  | .bl _ => "bool"
  | .int _ => "int"
  | .str _ => "str"
  | .lst _ => "list"
  | .tup _ => "tuple"
  | .dic _ => "dict"
  | .exc _ _ => ""
def D.isE : D → Bool
  | .exc _ _ => true
  | _ => false
section
variable {K : PySem.W.Frag} {σ : Sg} {H : Hp} {te ta tb tc : TE} {t : TA} {d r : D} {ds es : List D} {f : List D → D → Prop}
theorem mk_call (h : MkA K t σ H ds) (hf : f ds r) : Mk K (tCall (spP K f) [] E0 t) σ H r := fun H1 s Q q => h H1 s _ fun vs H2 s2 a => by
  show spP K f (vs ++ []) H2 Q E0
  rw [List.append_nil]
  exact ⟨ds, r, a, hf, fun v H' s' x => q v H' (s2.trans s') x⟩
theorem ty_of {v : V} (h : Dt K H v d) (e : d.isE = false) : TyX K H v (.type d.ty) := by
  cases h with
  | non => exact .base .non
  | bl b => exact .base (.bl b)
  | int i => exact .base (.int i)
  | str x => exact .base (.str x)
  | lst h _ => exact .base (.lst h)
  | tup h _ =>
    rcases h with (h | ⟨o, h⟩) | h
    · exact .base (.tup h)
    · exact .fTuple h
    · obtain ⟨o, _, _, h1, h2, _⟩ := h
      exact .kTuple h1 h2
  | dic h _ => exact .base (.dK h)
  | exc _ _ _ => cases e
theorem mk_isi {T : String} {b : Bool} (h : Mk K ta σ H d) (e : d.isE = false) (k : kitB d.ty T = some b) : Mk K (tCB (rIsi K) (tCons ta (tCons (tC (.ty T)) tNil))) σ H (.bl b) := fun H1 s Q q => h H1 s _ fun v H2 s2 a =>
  ⟨v, .ty T, _, _, b, rfl, .ty T, ty_of a e, kit_ty k, q _ H2 s2 (.bl b)⟩
theorem mk_andV {a b : Bool} (h : Mk K ta σ H (.bl a)) (h2 : a = true → Mk K tb σ H (.bl b)) : Mk K (tAndV ta tb) σ H (.bl (a && b)) := fun H1 s Q q => h H1 s _ fun v H2 s2 x => by
  cases x
  refine ⟨a, rfl, ?_⟩
  cases a with
  | true =>
    rw [if_pos rfl]
    exact h2 rfl H2 (s.trans s2) _ fun u H3 s3 y => q u H3 (s2.trans s3) (by simpa using y)
  | false =>
    rw [if_neg (by decide)]
    exact q _ H2 s2 (by simpa using Dt.bl false)
theorem mk_notV {a : Bool} (h : Mk K ta σ H (.bl a)) : Mk K (tNotV ta) σ H (.bl (!a)) := fun H1 s Q q => h H1 s _ fun v H2 s2 x => by
  cases x
  exact ⟨a, rfl, q _ H2 s2 (.bl _)⟩
theorem mk_chainI {i j k : Int} {g g' : Int → Int → Bool} (h : Mk K ta σ H (.int i)) (h2 : Mk K tb σ H (.int j)) (h3 : Mk K tc σ H (.int k)) :
    Mk K (tChain (rI0 fun i j => .bl (g i j)) (rI0 fun i j => .bl (g' i j)) ta tb tc) σ H (.bl (g i j && g' j k)) := fun H1 s Q q => h H1 s _ fun v H2 s2 x => h2 H2 (s.trans s2) _ fun u H3 s3 y => by
  cases x
  cases y
  refine ⟨i, j, rfl, rfl, _, rfl, ?_⟩
  cases e : g i j with
  | true =>
    rw [if_pos rfl]
    exact h3 H3 ((s.trans s2).trans s3) _ fun z H4 s4 x => by
      cases x
      exact ⟨j, k, rfl, rfl, q _ H4 ((s2.trans s3).trans s4) (by rw [e]; exact .bl _)⟩
  | false =>
    rw [if_neg (by decide)]
    exact q _ H3 (s2.trans s3) (by rw [e]; exact .bl _)
theorem mk_lenT (h : Mk K ta σ H (.tup ds)) : Mk K (tCB (fun xs H Q => ∃ p ys, xs = [.ref p] ∧ (SqL K H p ys ∨ SqT K H p ys) ∧ Q (.int ys.length) H) (tCons ta tNil)) σ H (.int ds.length) := fun H1 s Q q => h H1 s _ fun v H2 s2 a => by
  cases a with
  | @tup p xs ds e aa =>
    refine ⟨p, xs, rfl, Or.inr e, ?_⟩
    rw [aa.len]
    exact q _ H2 s2 (.int _)
theorem mk_ixT {i : Nat} (h : Mk K ta σ H (.tup ds)) (h2 : Mk K tb σ H (.int (i : Int))) (e : ds[i]? = some d) : Mk K (tOp (rIxT K) ta tb) σ H d := fun H1 s Q q => h H1 s _ fun v H2 s2 a => h2 H2 (s.trans s2) _ fun u H3 s3 b => by
  cases b
  cases a with
  | @tup p xs _ el aa =>
    obtain ⟨x, hx, ax⟩ := aa.nth e
    exact ⟨p, xs, (i : Int), x, rfl, rfl, gr_T s3 el, atI_nat hx, q x _ (s2.trans s3) (ax.gr s3)⟩
/-- a text among written ones -/
theorem inV_str (x : Str) : ∀ {vs : List V} {ws : List Str}, DtA K H vs (ws.map D.str) → inV (.str x) vs = ws.any (fun y => y == x) ∧ vs.all flatV = true := by
  intro vs ws h
  induction ws generalizing vs with
  | nil => cases h; exact ⟨rfl, rfl⟩
  | cons w ws ih =>
    cases h with
    | @cons v vs _ _ a b =>
    cases a
    obtain ⟨h1, h2⟩ := ih b
    refine ⟨?_, ?_⟩
    · show (eqV (.str w) (.str x) || inV (.str x) vs) = _
      rw [h1]
      rfl
    · show (true && vs.all flatV) = true
      rw [h2]; rfl
theorem mk_inT {x : Str} {ws : List Str} (h : Mk K ta σ H (.str x)) (h2 : Mk K tb σ H (.tup (ws.map D.str))) : Mk K (tOp (rIn K false) ta tb) σ H (.bl (ws.any fun y => y == x)) := fun H1 s Q q => h H1 s _ fun v H2 s2 a => h2 H2 (s.trans s2) _ fun u H3 s3 b => by
  cases a
  cases b with
  | @tup p xs _ e aa =>
    obtain ⟨h3, h4⟩ := inV_str x aa
    refine ⟨p, xs, rfl, Or.inr e, rfl, h4, ?_⟩
    rw [if_neg (by decide), h3]
    exact q _ H3 (s2.trans s3) (.bl _)
end
/-- a constant of the module -/
theorem pe_cst {X : Cx} {x : Str} {n : Int} {t : Tok} {pos : Pos} (hg : Gl X x) (hm : X.mg x = some (.int n t)) (hd : (x == ("__debug__" : Str)) = false := by decide) : PE X (.Name x pos) (tC (.int n)) := pe_glob hg hm ⟨t, rfl⟩ hd
theorem pe_cstR {X : Cx} {x : Str} {p : Addr} {pos : Pos} (hg : Gl X x) (hm : X.mg x = some (.ref p)) (hd : (x == ("__debug__" : Str)) = false := by decide) : PE X (.Name x pos) (tC (.ref p)) := pe_glob hg hm rfl hd
/-- a text of sides -/
def sideC (b : Bool) : Nat := if b = true then 97 else 98
def sideS (l : List Bool) : Str := ⟨(l.map sideC).toArray⟩
theorem sideS_at {l : List Bool} {i c : Nat} (h : (sideS l).cps[i]? = some c) : ∃ b, l[i]? = some b ∧ c = sideC b := by
  have h' : (l.map sideC)[i]? = some c := by simpa [sideS] using h
  rw [List.getElem?_map] at h'
  cases e : l[i]? with
  | none => rw [e] at h'; cases h'
  | some b => rw [e] at h'; cases h'; exact ⟨b, rfl, rfl⟩
theorem sideS_size (l : List Bool) : (sideS l).cps.size = l.length := by simp [sideS]
theorem sideS_len (l : List Bool) : (sideS l).length = l.length := by
  show (sideS l).cps.size = l.length
  exact sideS_size l
theorem side_in (b : Bool) : decide (sideC b ∈ (Str.ofString "ab").cps.toList) = true := by cases b <;> decide +kernel
end TSx

/-! Own layer, part RC: counts of sides. -/
namespace TSx
open PySem L2
def allB : Nat → List (List Bool)
  | 0 => [[]]
  | n + 1 => (allB n).flatMap fun l => [true :: l, false :: l]
theorem mem_allB : ∀ l : List Bool, l ∈ allB l.length
  | [] => List.mem_singleton.mpr rfl
  | b :: l => by
    refine List.mem_flatMap.mpr ⟨l, mem_allB l, ?_⟩
    cases b <;> simp
theorem cnt_all : ∀ n : Nat, n < 10 → ∀ l ∈ allB n, (Txt.count (sideS l) (Str.ofString "a") = (l.count true : Nat) ∧ Txt.count (sideS l) (Str.ofString "b") = (l.count false : Nat)) := by decide +kernel
theorem cnt_side (l : List Bool) (h : l.length < 10) : Txt.count (sideS l) (Str.ofString "a") = (l.count true : Nat) ∧ Txt.count (sideS l) (Str.ofString "b") = (l.count false : Nat) := cnt_all _ h l (mem_allB l)
end TSx

/-! Own layer, part R8: the houses. -/
namespace TSx
open PySem L2
inductive Way where
  | ward (w : Nat) | body (b : Nat) (t : Str) | rest (b : Nat) (t : Str) | kept
structure Seat where
  term : Nat
  phase : Nat
  way : Way
def Way.d : Way → D
  | .ward w => .tup [.str "ward", .int w]
  | .body b t => .tup [.str "body", .int b, .str t]
  | .rest b t => .tup [.str "rest", .int b, .str t]
  | .kept => .tup [.str "kept"]
def tiesL : List Str := ["a", "b", "kept"]
def Way.ok (n wards : Nat) : Way → Prop
  | .ward w => w < wards
  | .body b t => b < n ∧ t ∈ tiesL
  | .rest b t => b < n ∧ t ∈ tiesL
  | .kept => True
def Seat.d (s : Seat) : D := .tup [.int s.term, .int s.phase, s.way.d]
structure Seat.ok (n wards : Nat) (s : Seat) : Prop where
  t1 : 1 ≤ s.term
  t6 : s.term ≤ 6
  p : s.phase < s.term
  w : s.way.ok n wards
def bodyD (b : List Seat) : D := .tup (b.map Seat.d)
structure House where
  bodies : List (List Seat)
  wards : Nat
def House.d (h : House) : D := .tup [.tup (h.bodies.map bodyD), .int h.wards]
def lcmB (c : Nat) (b : List Seat) : Nat := b.foldl (fun c s => (Nat.lcm 1 c).lcm s.term) c
def lcmH (h : House) : Nat := h.bodies.foldl lcmB 1
structure House.ok (h : House) : Prop where
  w : h.wards ≤ 4
  n1 : 1 ≤ h.bodies.length
  n3 : h.bodies.length ≤ 3
  b : ∀ b ∈ h.bodies, 1 ≤ b.length ∧ b.length ≤ 9
  sum : (h.bodies.map (fun b => (b.length : Int))).sum ≤ 9
  s : ∀ b ∈ h.bodies, ∀ s ∈ b, s.ok h.bodies.length h.wards
  lc : lcmH h ≤ 12
/-! what the small looks are asked, and tell: all true here -/
def fWhole (ds : List D) (r : D) : Prop := ∃ i a b : Int, ds = [.int i, .int a, .int b] ∧ a ≤ i ∧ i ≤ b ∧ r = .bl true
def fTuple (ds : List D) (r : D) : Prop := ∃ (xs : List D) (a b : Int), ds = [.tup xs, .int a, .int b] ∧ a ≤ xs.length ∧ (xs.length : Int) ≤ b ∧ r = .bl true
def fWord (ds : List D) (r : D) : Prop := ∃ (x : Str) (ws : List Str), ds = [.str x, .tup (ws.map D.str)] ∧ x ∈ ws ∧ r = .bl true
def fSides (ds : List D) (r : D) : Prop := ∃ l : List Bool, ds = [.str (sideS l), .int (l.length : Int)] ∧ l.length ≤ 1000 ∧ r = .bl true
def fWay (ds : List D) (r : D) : Prop := ∃ (w : Way) (n wards : Nat), ds = [w.d, .int n, .int wards] ∧ w.ok n wards ∧ r = .bl true
def fSeat (ds : List D) (r : D) : Prop := ∃ (s : Seat) (n wards : Nat), ds = [s.d, .int n, .int wards] ∧ s.ok n wards ∧ r = .bl true
section
variable {K : PySem.W.Frag} {σ : Sg} {H : Hp} {te ta tb tc ti : TE} {t : TA} {d r d1 d2 d3 d4 d5 : D} {ds es : List D} {f : List D → D → Prop}
theorem DtA.one {vs : List V} (h : DtA K H vs [d1]) : ∃ v1, vs = [v1] ∧ Dt K H v1 d1 := by
  cases h with | cons a h => cases h; exact ⟨_, rfl, a⟩
theorem DtA.two {vs : List V} (h : DtA K H vs [d1, d2]) : ∃ v1 v2, vs = [v1, v2] ∧ Dt K H v1 d1 ∧ Dt K H v2 d2 := by
  cases h with | cons a h => obtain ⟨v2, rfl, b⟩ := DtA.one h; exact ⟨_, _, rfl, a, b⟩
theorem DtA.three {vs : List V} (h : DtA K H vs [d1, d2, d3]) : ∃ v1 v2 v3, vs = [v1, v2, v3] ∧ Dt K H v1 d1 ∧ Dt K H v2 d2 ∧ Dt K H v3 d3 := by
  cases h with | cons a h => obtain ⟨v2, v3, rfl, b, c⟩ := DtA.two h; exact ⟨_, _, _, rfl, a, b, c⟩
theorem DtA.four {vs : List V} (h : DtA K H vs [d1, d2, d3, d4]) : ∃ v1 v2 v3 v4, vs = [v1, v2, v3, v4] ∧ Dt K H v1 d1 ∧ Dt K H v2 d2 ∧ Dt K H v3 d3 ∧ Dt K H v4 d4 := by
  cases h with | cons a h => obtain ⟨v2, v3, v4, rfl, b, c, e⟩ := DtA.three h; exact ⟨_, _, _, _, rfl, a, b, c, e⟩
theorem DtA.five {vs : List V} (h : DtA K H vs [d1, d2, d3, d4, d5]) : ∃ v1 v2 v3 v4 v5, vs = [v1, v2, v3, v4, v5] ∧ Dt K H v1 d1 ∧ Dt K H v2 d2 ∧ Dt K H v3 d3 ∧ Dt K H v4 d4 ∧ Dt K H v5 d5 := by
  cases h with | cons a h => obtain ⟨v2, v3, v4, v5, rfl, b, c, e, g⟩ := DtA.four h; exact ⟨_, _, _, _, _, rfl, a, b, c, e, g⟩
theorem mt_or {tt uu : TT} {b : Bool} (h : MkT tt σ H false) (h2 : MkT uu σ H b) : MkT (tOr tt uu) σ H b := fun H1 s Q q => h H1 s _ fun H2 s2 => h2 H2 (s.trans s2) Q fun H3 s3 => q H3 (s2.trans s3)
theorem mt_orT {tt uu : TT} (h : MkT tt σ H true) : MkT (tOr tt uu) σ H true := fun H1 s Q q => h H1 s _ fun H2 s2 => q H2 s2
theorem kInt : kitB "int" "int" = some true := by decide +kernel
theorem kIntB : kitB "int" "bool" = some false := by decide +kernel
theorem kTup : kitB "tuple" "tuple" = some true := by decide +kernel
theorem kStr : kitB "str" "str" = some true := by decide +kernel
/-- a, b, c = t -/
theorem r_unp3 {v : V} {i j k : Nat} {Q : Sg → Hp → Prop} (h : Dt K H v (.tup [d1, d2, d3])) (q : ∀ v1 v2 v3, Dt K H v1 d1 → Dt K H v2 d2 → Dt K H v3 d3 → Q (((σ.set i (some v1)).set j (some v2)).set k (some v3)) H) :
    gTup K 3 (gCons (gName i) (gCons (gName j) (gCons (gName k) gNil))) v σ H Q := by
  cases h with
  | @tup p xs _ e aa =>
    obtain ⟨v1, v2, v3, rfl, a, b, c⟩ := aa.three
    exact ⟨p, _, rfl, e, rfl, _, _, rfl, r_name ⟨_, _, rfl, r_name ⟨_, _, rfl, r_name ⟨rfl, q v1 v2 v3 a b c⟩⟩⟩⟩
theorem r_unp2 {v : V} {i j : Nat} {Q : Sg → Hp → Prop} (h : Dt K H v (.tup [d1, d2])) (q : ∀ v1 v2, Dt K H v1 d1 → Dt K H v2 d2 → Q ((σ.set i (some v1)).set j (some v2)) H) :
    gTup K 2 (gCons (gName i) (gCons (gName j) gNil)) v σ H Q := by
  cases h with
  | @tup p xs _ e aa =>
    obtain ⟨v1, v2, rfl, a, b⟩ := aa.two
    exact ⟨p, _, rfl, e, rfl, _, _, rfl, r_name ⟨_, _, rfl, r_name ⟨rfl, q v1 v2 a b⟩⟩⟩
theorem mk_lenS {z : Str} (h : Mk K ta σ H (.str z)) (l : z.length ≤ 100000) : Mk K (tCB (fun xs H Q => ∃ z, xs = [.str z] ∧ z.length ≤ sizeLine ∧ Q (.int z.length) H) (tCons ta tNil)) σ H (.int z.length) := fun H1 s Q q => h H1 s _ fun v H2 s2 a => by
  cases a
  exact ⟨z, rfl, sz1 l, q _ H2 s2 (.int _)⟩
theorem DtA.bls : ∀ {vs : List V} {bs : List Bool}, DtA K H vs (bs.map D.bl) → vs = bs.map V.bl
  | _, [], h => by cases h; rfl
  | _, b :: bs, h => by
    cases h with
    | cons a h => cases a; rw [DtA.bls h]; rfl
theorem DtA.ints : ∀ {vs : List V} {bs : List Int}, DtA K H vs (bs.map D.int) → vs = bs.map V.int
  | _, [], h => by cases h; rfl
  | _, b :: bs, h => by
    cases h with
    | cons a h => cases a; rw [DtA.ints h]; rfl
theorem DtA.strs : ∀ {vs : List V} {bs : List Str}, DtA K H vs (bs.map D.str) → vs = bs.map V.str
  | _, [], h => by cases h; rfl
  | _, b :: bs, h => by
    cases h with
    | cons a h => cases a; rw [DtA.strs h]; rfl
theorem mk_all {bs : List Bool} (h : Mk K ta σ H (.lst (bs.map D.bl))) : Mk K (tCB (rAll K) (tCons ta tNil)) σ H (.bl (bs.all id)) := fun H1 s Q q => h H1 s _ fun v H2 s2 a => by
  cases a with
  | @lst p xs _ e aa =>
    have := aa.bls
    subst this
    exact ⟨p, bs, rfl, SqL.of e, q _ H2 s2 (.bl _)⟩
theorem mk_sum {ns : List Int} (h : Mk K ta σ H (.lst (ns.map D.int))) : Mk K (tCB (rSum K) (tCons ta tNil)) σ H (.int ns.sum) := fun H1 s Q q => h H1 s _ fun v H2 s2 a => by
  cases a with
  | @lst p xs _ e aa =>
    have := aa.ints
    subst this
    exact ⟨p, ns, rfl, SqL.of e, q _ H2 s2 (.int _)⟩
/-- [e for c in letters] -/
theorem mk_lcS {l : List Bool} {i : Nat} {g : Bool → D} (hs : ∀ b, (g b).sc = true) (h : Mk K ti σ H (.str (sideS l))) (hl : l.length ≤ 1000) (step : ∀ b H1, Same H H1 → Mk K te ((σ.set i none).set i (some (.str ⟨#[sideC b]⟩))) H1 (g b)) :
    Mk K (tLc (iStr ti) (gName i) tYes te [i]) σ H (.lst (l.map g)) := fun H1 s Q q => h H1 s _ fun v H2 s2 a => by
  cases a
  refine ⟨_, rfl, fun D nD => lc_it (walk_str (z := sideS l)) (fun j H' => ∃ xs : List V, H' D = some (.lst xs) ∧ xs.length = j ∧ Same H2 H' ∧ DtA K H' xs ((l.take j).map g)) ⟨[], upd_same, rfl, same_new nD, .nil⟩ (fun _ _ _ _ => trivial) ?_ ?_⟩
  · rintro j x H' H'' hj ⟨xs, e, lx, s', aa⟩ ⟨rfl, c, hc, rfl⟩
    obtain ⟨b, hb, rfl⟩ := sideS_at hc
    refine r_name ⟨?_, ?_⟩
    · show ((σ.set i none).set i (some (V.str ⟨#[sideC b]⟩))).set i none = σ.set i none
      rw [List.set_set, List.set_set]
    · refine r_yes ?_
      have st := step b H'' ((s.trans s2).trans s')
      refine st H'' Gr.rfl' _ fun y H4 s4 ay => ?_
      have hj' : j < l.length := (List.getElem?_eq_some_iff.mp hb).1
      refine ⟨xs, s4 _ _ e, by rw [lx]; exact sz2 (by omega), xs ++ [y], upd_same, by rw [List.length_append, lx]; rfl, same_mut (s'.trans s4) nD, ?_⟩
      have tk : l.take (j + 1) = l.take j ++ [b] := by rw [List.take_add_one, hb]; rfl
      have fl : ∀ x ∈ (l.take j).map g, x.sc = true := by
        intro x hx
        obtain ⟨y, _, rfl⟩ := List.mem_map.mp hx
        exact hs y
      rw [tk, List.map_append]
      exact (aa.any fl).app (.cons (ay.any (hs b)) .nil)
  · rintro H' ⟨xs, e, lx, s', aa⟩
    rw [sideS_size, List.take_length] at aa
    exact q _ _ (s2.trans s') (.lst e aa)
end
end TSx

/-! Own layer, part R9: loops over data. -/
namespace TSx
open PySem L2
/-- te finds data that stand already -/
def Ev0 (K : PySem.W.Frag) (te : TE) (σ : Sg) (H H0 : Hp) (d : D) : Prop := ∃ v, Dt K H0 v d ∧ ∀ Q : VK, Q v H → te σ H Q
abbrev Ev (K : PySem.W.Frag) (te : TE) (σ : Sg) (H : Hp) (d : D) : Prop := Ev0 K te σ H H d
section
variable {K : PySem.W.Frag} {σ : Sg} {H H0 : Hp} {te ta tb tc ti : TE} {t : TA} {d r : D} {ds es : List D} {g : TG} {b : TS} {E : Ends}
theorem ev0_var {n : Nat} {v : V} (h : σ[n]? = some (some v)) (a : Dt K H0 v d) : Ev0 K (tVar n) σ H H0 d := ⟨v, a, fun Q q => r_v h q⟩
theorem ev_var {n : Nat} {v : V} (h : σ[n]? = some (some v)) (a : Dt K H v d) : Ev K (tVar n) σ H d := ⟨v, a, fun Q q => r_v h q⟩
theorem ev_int {i : Int} : Ev K (tC (.int i)) σ H (.int i) := ⟨_, .int i, fun Q q => q⟩
theorem ev_ixT {i : Nat} (h : Ev K ta σ H (.tup ds)) (h2 : Ev K tb σ H (.int (i : Int))) (e : ds[i]? = some d) : Ev K (tOp (rIxT K) ta tb) σ H d := by
  obtain ⟨v, a, k1⟩ := h
  obtain ⟨u, c, k2⟩ := h2
  cases c
  cases a with
  | @tup p xs _ el aa =>
    obtain ⟨x, hx, ax⟩ := aa.nth e
    exact ⟨x, ax, fun Q q => k1 _ (k2 _ ⟨p, xs, (i : Int), x, rfl, rfl, el, atI_nat hx, q⟩)⟩
theorem ev_ixL {i : Nat} (h : Ev K ta σ H (.lst ds)) (h2 : Ev K tb σ H (.int (i : Int))) (e : ds[i]? = some d) : Ev K (tOp (rIxL K) ta tb) σ H d := by
  obtain ⟨v, a, k1⟩ := h
  obtain ⟨u, c, k2⟩ := h2
  cases c
  cases a with
  | @lst p xs _ el aa =>
    obtain ⟨x, hx, ax⟩ := aa.nth e
    exact ⟨x, ax, fun Q q => k1 _ (k2 _ ⟨p, xs, (i : Int), x, rfl, rfl, SqL.of el, atI_nat hx, q⟩)⟩
theorem Ev.mk (h : ∀ H1, Same H H1 → Ev K te σ H1 d) : Mk K te σ H d := fun H1 s Q q => by
  obtain ⟨v, a, k⟩ := h H1 s
  exact k _ (q v H1 Gr.rfl' a)
theorem DtA.get {vs : List V} (h : DtA K H vs ds) {i : Nat} {x : V} (e : vs[i]? = some x) : ∃ y, ds[i]? = some y ∧ Dt K H x y := h.at e
theorem walk_enumT {a : Addr} {xs : List V} : Walk (IteT K a) xs.length (fun H => SqT K H a xs) (YPair (fun i => some (.int (i : Nat))) (fun i => xs[i]?)) :=
  ⟨fun i H hi h => ⟨xs, xs[i], h, List.getElem?_eq_getElem hi⟩, fun H h => ⟨xs, h, rfl⟩, fun i H x H' hi h y => by
    obtain ⟨T, u, rfl, hT, rfl, f⟩ := y
    exact ⟨T, _, u, rfl, hT, rfl, rfl, f xs h⟩⟩
theorem walk_zipT {a c : Addr} {xs ys : List V} (hl : xs.length = ys.length) : Walk (RZ.ItzT K a c) xs.length (fun H => SqT K H a xs ∧ SqT K H c ys) (YPair (fun i => xs[i]?) (fun i => ys[i]?)) :=
  ⟨fun i H hi h => ⟨xs, ys, xs[i], ys[i]'(by omega), h.1, h.2, List.getElem?_eq_getElem hi, List.getElem?_eq_getElem _⟩, fun H h => ⟨xs, ys, h.1, h.2, Or.inl (Nat.le_refl _)⟩, fun i H x H' hi h y => by
    obtain ⟨T, u, w, rfl, hT, rfl, f1, f2⟩ := y
    exact ⟨T, u, w, rfl, hT, rfl, f1 xs h.1, f2 ys h.2⟩⟩
theorem walk_zipS {a : Addr} {xs : List V} {x : Str} (hl : xs.length = x.cps.size) : Walk (ItzS K a x) xs.length (fun H => SqT K H a xs) (YPair (fun i => xs[i]?) (fun i => x.cps[i]?.map fun c => .str ⟨#[c]⟩)) :=
  ⟨fun i H hi h => ⟨xs, xs[i], x.cps[i]'(by omega), h, List.getElem?_eq_getElem hi, Array.getElem?_eq_getElem _⟩, fun H h => ⟨xs, h, Nat.le_refl _, by omega, Or.inl rfl⟩, fun i H v H' hi h y => by
    obtain ⟨T, u, c, rfl, hT, rfl, f1, f2⟩ := y
    exact ⟨T, u, _, rfl, hT, rfl, f1 xs h, by show (x.cps[i]?).map _ = _; rw [f2]; rfl⟩⟩
/-- for .. in enumerate(tuple) -/
theorem r_forE (h : Ev0 K te σ H H0 (.tup ds)) (Pv : Nat → Sg → Hp → Prop) (h0 : Pv 0 σ H) (hG : ∀ k σ' H', Pv k σ' H' → Same H0 H')
    (step : ∀ k d T σ' H' H'', ds[k]? = some d → Pv k σ' H' → Same H' H'' → Dt K H'' (.ref T) (.tup [.int (k : Nat), d]) → g (.ref T) σ' H'' fun σ2 H2 => b { E with nx := Pv (k + 1), ct := Pv (k + 1), bk := E.nx } σ2 H2)
    (hd : ∀ σ' H', Pv ds.length σ' H' → E.nx σ' H') : tFor (iEnumT K (tCons te tNil)) g b E σ H := by
  obtain ⟨v, a, k⟩ := h
  refine k _ ?_
  cases a with
  | @tup p xs _ e aa =>
    have lx := aa.len
    refine ⟨p, xs, rfl, gr_T (hG _ _ _ h0) e, for_it walk_enumT Pv h0 (fun i σ' H' _ z => gr_T (hG _ _ _ z) e) ?_ (fun σ' H' z => hd σ' H' (by rw [← lx]; exact z))⟩
    rintro i x σ' H' H'' hi z ⟨T, y1, y2, rfl, nT, rfl, e1, e2⟩
    cases e1
    obtain ⟨y, hy, ay⟩ := aa.at e2
    have s1 : Same H' (upd H' T (.tup [.int (i : Nat), y2])) := same_new nT
    exact step i y T σ' H' _ hy z s1 (.tup (SqT.of upd_same) (.cons (.int _) (.cons (ay.gr ((hG _ _ _ z).trans s1)) .nil)))
/-- for .. in zip(tuple, tuple) -/
theorem r_forZ (h : Ev0 K ta σ H H0 (.tup ds)) (h2 : Ev0 K tc σ H H0 (.tup es)) (hl : ds.length = es.length) (Pv : Nat → Sg → Hp → Prop) (h0 : Pv 0 σ H) (hG : ∀ k σ' H', Pv k σ' H' → Same H0 H')
    (step : ∀ k d e T σ' H' H'', ds[k]? = some d → es[k]? = some e → Pv k σ' H' → Same H' H'' → Dt K H'' (.ref T) (.tup [d, e]) → g (.ref T) σ' H'' fun σ2 H2 => b { E with nx := Pv (k + 1), ct := Pv (k + 1), bk := E.nx } σ2 H2)
    (hd : ∀ σ' H', Pv ds.length σ' H' → E.nx σ' H') : tFor (RZ.iZipA K (tCons ta (tCons tc tNil))) g b E σ H := by
  obtain ⟨v, a, k⟩ := h
  obtain ⟨u, c, k2⟩ := h2
  refine k _ (k2 _ ?_)
  cases a with
  | @tup p xs _ e aa =>
  cases c with
  | @tup p2 ys _ e2 cc =>
    have lx := aa.len
    have ly := cc.len
    refine ⟨p, p2, xs, ys, rfl, Or.inr ⟨gr_T (hG _ _ _ h0) e, gr_T (hG _ _ _ h0) e2, for_it (walk_zipT (by omega)) Pv h0 (fun i σ' H' _ z => ⟨gr_T (hG _ _ _ z) e, gr_T (hG _ _ _ z) e2⟩) ?_ (fun σ' H' z => hd σ' H' (by rw [← lx]; exact z))⟩⟩
    rintro i x σ' H' H'' hi z ⟨T, y1, y2, rfl, nT, rfl, q1, q2⟩
    obtain ⟨z1, hz1, az1⟩ := aa.at q1
    obtain ⟨z2, hz2, az2⟩ := cc.at q2
    have s1 : Same H' (upd H' T (.tup [y1, y2])) := same_new nT
    exact step i z1 z2 T σ' H' _ hz1 hz2 z s1 (.tup (SqT.of upd_same) (.cons (az1.gr ((hG _ _ _ z).trans s1)) (.cons (az2.gr ((hG _ _ _ z).trans s1)) .nil)))
/-- for .. in zip(tuple, letters) -/
theorem r_forS {l : List Bool} (h : Ev0 K ta σ H H0 (.tup ds)) (h2 : Ev0 K tc σ H H0 (.str (sideS l))) (hl : ds.length = l.length) (Pv : Nat → Sg → Hp → Prop) (h0 : Pv 0 σ H) (hG : ∀ k σ' H', Pv k σ' H' → Same H0 H')
    (step : ∀ k d s T σ' H' H'', ds[k]? = some d → l[k]? = some s → Pv k σ' H' → Same H' H'' → Dt K H'' (.ref T) (.tup [d, .str (sideS [s])]) → g (.ref T) σ' H'' fun σ2 H2 => b { E with nx := Pv (k + 1), ct := Pv (k + 1), bk := E.nx } σ2 H2)
    (hd : ∀ σ' H', Pv ds.length σ' H' → E.nx σ' H') : tFor (iZipS K (tCons ta (tCons tc tNil))) g b E σ H := by
  obtain ⟨v, a, k⟩ := h
  obtain ⟨u, c, k2⟩ := h2
  refine k _ (k2 _ ?_)
  cases c
  cases a with
  | @tup p xs _ e aa =>
    have lx := aa.len
    refine ⟨p, _, xs, rfl, gr_T (hG _ _ _ h0) e, for_it (walk_zipS (by rw [sideS_size]; omega)) Pv h0 (fun i σ' H' _ z => gr_T (hG _ _ _ z) e) ?_ (fun σ' H' z => hd σ' H' (by rw [← lx]; exact z))⟩
    rintro i x σ' H' H'' hi z ⟨T, y1, y2, rfl, nT, rfl, q1, q2⟩
    obtain ⟨z1, hz1, az1⟩ := aa.at q1
    replace q2 : ((sideS l).cps[i]?).map (fun c => V.str ⟨#[c]⟩) = some y2 := q2
    cases hc : (sideS l).cps[i]? with
    | none => rw [hc] at q2; cases q2
    | some cc =>
      rw [hc] at q2
      cases q2
      obtain ⟨s, hs, rfl⟩ := sideS_at hc
      have s1 : Same H' (upd H' T (.tup [y1, .str ⟨#[sideC s]⟩])) := same_new nT
      exact step i z1 s T σ' H' _ hz1 hs z s1 (.tup (SqT.of upd_same) (.cons (az1.gr ((hG _ _ _ z).trans s1)) (.cons (.str _) .nil)))
/-- for x in tuple -/
theorem r_forT {n : Nat} (h : Ev0 K te σ H H0 (.tup ds)) (Pv : Nat → Sg → Hp → Prop) (h0 : Pv 0 σ H) (hG : ∀ k σ' H', Pv k σ' H' → Same H0 H')
    (step : ∀ k d x σ' H', ds[k]? = some d → Pv k σ' H' → Dt K H' x d → b { E with nx := Pv (k + 1), ct := Pv (k + 1), bk := E.nx } (σ'.set n (some x)) H')
    (hd : ∀ σ' H', Pv ds.length σ' H' → E.nx σ' H') : tFor (iTup K te) (gName n) b E σ H := by
  obtain ⟨v, a, k⟩ := h
  refine k _ ?_
  cases a with
  | @tup p xs _ e aa =>
    have lx := aa.len
    refine ⟨p, rfl, ⟨xs, gr_T (hG _ _ _ h0) e⟩, for_tup (xs := xs) Pv h0 (fun i σ' H' _ z => gr_T (hG _ _ _ z) e) ?_ (fun σ' H' z => hd σ' H' (by rw [← lx]; exact z))⟩
    intro i x σ' H' hx z
    obtain ⟨y, hy, ay⟩ := aa.at hx
    exact step i y x σ' H' hy z (ay.gr (hG _ _ _ z))
/-- a comprehension whose things have no parts: at turn k e k, or nothing -/
theorem lc_flat {J : It} {n : Nat} {G : Hp → Prop} {Y : Nat → Hp → V → Hp → Prop} (w : Walk J n G Y) {tt : TT} {vs : List Nat} {H1 : Hp} {L : Addr} {Qd : Hp → Prop} (e : Nat → Option D) (sc : ∀ k d, e k = some d → d.sc = true) (nL : H1 L = none) (hG : ∀ H', Same H1 H' → G H') (hn : n ≤ 1000)
    (step : ∀ k x H' H'', k < n → Same H1 H' → Y k H' x H'' → Same H' H'' ∧ ∀ R : Sg → Hp → Prop, (∀ σ2, wipe σ2 vs = wipe σ vs → (∀ d, e k = some d → MkT tt σ2 H'' true ∧ Mk K te σ2 H'' d) → (e k = none → MkT tt σ2 H'' false) → R σ2 H'') → g x (wipe σ vs) H'' R)
    (hd : ∀ H' xs, Same H1 H' → H' L = some (.lst xs) → DtA K H' xs ((List.range n).filterMap e) → Qd H') :
    ∃ W : Nat → Nat → Hp → Prop, (∃ m, W 0 m (upd H1 L (.lst []))) ∧ ∀ i m H, W i m H →
      (J.stop i H ∧ Qd H) ∨ (J.go i H ∧ ∃ Nx : Hp → Prop, (∀ H', Nx H' → ∃ m', m' < m ∧ W (i + 1) m' H') ∧ ∀ x H', J.yld i H x H' → g x (wipe σ vs) H' fun σ2 H2 => wipe σ2 vs = wipe σ vs ∧ tt σ2 H2 fun b H3 =>
        if b = true then te σ2 H3 fun y H4 => ∃ acc, H4 L = some (.lst acc) ∧ acc.length < sizeLine ∧ Nx (upd H4 L (.lst (acc ++ [y]))) else Nx H3) := by
  have flat : ∀ j, ∀ x ∈ (List.range j).filterMap e, x.sc = true := fun j x hx => by
    obtain ⟨k, _, hk⟩ := List.mem_filterMap.mp hx
    exact sc k x hk
  refine lc_it w (fun j H' => Same H1 H' ∧ ∃ xs : List V, H' L = some (.lst xs) ∧ xs.length ≤ j ∧ DtA K H' xs ((List.range j).filterMap e)) ⟨same_new nL, [], upd_same, Nat.le_refl _, .nil⟩ (fun j H' _ z => hG _ z.1) ?_ ?_
  · rintro k x H' H'' hk ⟨s', xs, ex, lx, ax⟩ y
    obtain ⟨s2, st⟩ := step k x H' H'' hk s' y
    refine st _ fun σ2 hw h1 h2 => ⟨hw, ?_⟩
    have rg : (List.range (k + 1)).filterMap e = (List.range k).filterMap e ++ (e k).toList := by
      rw [List.range_succ, List.filterMap_append]
      cases he : e k <;> simp [he]
    cases he : e k with
    | none =>
      refine h2 he H'' Gr.rfl' _ fun H3 s3 => ?_
      refine iteF ⟨s'.trans (s2.trans s3), xs, (s2.trans s3) _ _ ex, by omega, ?_⟩
      rw [rg, he]
      simpa using ax.gr (s2.trans s3)
    | some d =>
      obtain ⟨t1, m1⟩ := h1 d he
      refine t1 H'' Gr.rfl' _ fun H3 s3 => ?_
      refine iteT ?_
      refine m1 H3 s3 _ fun v H4 s4 av => ?_
      have sA := (s2.trans s3).trans s4
      refine ⟨xs, sA _ _ ex, sz2 (by omega), same_mut (s'.trans sA) nL, xs ++ [v], upd_same, by rw [List.length_append]; simpa using lx, ?_⟩
      rw [rg, he]
      exact (ax.any (flat k)).app (.cons (av.any (sc k d he)) .nil)
  · rintro H' ⟨s', xs, ex, lx, ax⟩
    exact hd H' xs s' ex ax
theorem call_lenK {X : Cx} {K : PySem.W.Frag} (h : X.K = K) : CallR X (.builtin "len") (fun xs H Q => ∃ p ys, xs = [.ref p] ∧ (SqL K H p ys ∨ SqT K H p ys) ∧ Q (.int ys.length) H) := by
  subst h
  exact call_len_seq
theorem ix_listK {X : Cx} {K : PySem.W.Frag} (h : X.K = K) : IxR X (rIxL K) := by
  subst h
  exact ix_list
theorem ix_tupK {X : Cx} {K : PySem.W.Frag} (h : X.K = K) : IxR X (rIxT K) := by
  subst h
  exact ix_tup
theorem fm_get {α β : Type} (f : α → β) : ∀ l : List α, (List.range l.length).filterMap (fun k => (l[k]?).map f) = l.map f
  | [] => rfl
  | a :: l => by
    rw [List.length_cons, List.range_succ_eq_map, List.filterMap_cons, List.filterMap_map]
    have ih := fm_get f l
    show f a :: (List.range l.length).filterMap ((fun k => ((a :: l)[k]?).map f) ∘ Nat.succ) = f a :: l.map f
    rw [← ih]
    rfl
/-- [e for x in tuple] -/
theorem mk_lcU {i : Nat} {f : D → D} (h : ∀ H1, Same H H1 → Ev K ti σ H1 (.tup ds)) (hf : ∀ d ∈ ds, (f d).sc = true) (hl : ds.length ≤ 1000) (step : ∀ d ∈ ds, ∀ x H1, Same H H1 → Dt K H1 x d → Mk K te ((σ.set i none).set i (some x)) H1 (f d)) :
    Mk K (tLc (iTup K ti) (gName i) tYes te [i]) σ H (.lst (ds.map f)) := fun H1 s Q q => by
  obtain ⟨v, a, k⟩ := h H1 s
  refine k _ ?_
  cases a with
  | @tup p xs _ e aa =>
    have lx := aa.len
    refine ⟨p, rfl, ⟨xs, e⟩, fun L nL => lc_flat (K := K) (walk_tup (K := K) (a := p) (xs := xs)) (fun k => (ds[k]?).map f) (fun k d hk => ?_) nL (fun H' s' => gr_T s' e) (by omega) ?_ ?_⟩
    · cases hd : ds[k]? with
      | none => rw [hd] at hk; cases hk
      | some y => rw [hd] at hk; cases hk; exact hf y (List.mem_of_getElem? hd)
    · rintro k x H' H'' hk s' ⟨rfl, hx⟩
      obtain ⟨y, hy, ay⟩ := aa.at hx
      refine ⟨Gr.rfl', fun R r => r_name (r _ ?_ (fun d hd => ⟨fun H2 s2 Q2 q2 => q2 H2 Gr.rfl', ?_⟩) fun hd => ?_)⟩
      · show ((σ.set i none).set i (some x)).set i none = σ.set i none
        rw [List.set_set, List.set_set]
      · rw [hy] at hd
        cases hd
        exact step y (List.mem_of_getElem? hy) x _ (s.trans s') (ay.gr s')
      · rw [hy] at hd; cases hd
    · intro H' ys s' e' a'
      refine q _ _ s' (.lst e' ?_)
      have : (List.range xs.length).filterMap (fun k => (ds[k]?).map f) = ds.map f := by
        rw [lx]
        exact fm_get f ds
      rw [this] at a'
      exact a'
end
end TSx

/-! Own layer, part R10: counts, joins. -/
namespace TSx
open PySem L2 TL
theorem tl_inj {x y : Str} (h : tl x = tl y) : x = y := by
  obtain ⟨⟨a⟩⟩ := x
  obtain ⟨⟨b⟩⟩ := y
  have : a = b := h
  rw [this]
theorem join_side (l : List Bool) : Txt.join (Str.ofString "") (l.map fun b => sideS [b]) = sideS l := by
  refine tl_inj ?_
  rw [join_eq, tl_join]
  have e : tl (Str.ofString "") = [] := by decide +kernel
  rw [e]
  have j : ∀ ps : List (List Nat), joinL [] ps = ps.flatten := by
    intro ps
    induction ps with
    | nil => rfl
    | cons p r ih =>
      cases r with
      | nil => simp [joinL]
      | cons q r =>
        show p ++ ([] ++ joinL [] (q :: r)) = _
        rw [ih]
        rfl
  rw [j, List.map_map]
  show (l.map fun b => [sideC b]).flatten = l.map sideC
  induction l with
  | nil => rfl
  | cons b l ih => show [sideC b] ++ (l.map fun b => [sideC b]).flatten = sideC b :: l.map sideC; rw [ih]; rfl
/-- list.count of a thing without parts -/
def rCntV (K : PySem.W.Frag) : V → List V → Hp → VK → Prop := fun x xs H Q => ∃ (p : Addr) (ys : List V) (y : V), x = .ref p ∧ xs = [y] ∧ SqL K H p ys ∧ flatV y = true ∧ ys.all flatV = true ∧ Q (.int (ys.countP (fun z => eqV z y) : Nat)) H
theorem mt_lcntV {X : Cx} : MtR X "list.count" (rCntV X.K) := by
  intro pins s σ H x xs v us Q I rx rxs h
  obtain ⟨p, ys, y, rfl, rfl, hs, fy, fys, q⟩ := h
  cases rx
  obtain ⟨u, rfl, ru⟩ := rxs.one
  obtain ⟨its, rv, ⟨⟨cls, dd, data, sl⟩, n, ho, hc, hdn, hd⟩, hlen⟩ := I.list hs
  simp only at hc hd
  subst hc hd
  refine call_meets PySem.F.slot_list_count ⟨_, ho, rfl⟩ PySem.F.entry_list_count (PySem.F.args_list_count_2 _ _)
    (SeqAt.list_countAt p its.toArray n dd sl u (eqU y)) ⟨ho, fun z hz => mem_eqAt ru fy rv fys z (by simpa using hz), ?_⟩
  have ec : ∀ {ys : List V} {its : List Value}, Vals ys its → ys.all flatV = true → its.countP (eqU y) = ys.countP fun z => eqV z y := by
    intro ys its r
    induction r with
    | nil => intro _; rfl
    | cons a b ih =>
      intro f
      rw [List.all_cons, Bool.and_eq_true] at f
      rw [List.countP_cons, List.countP_cons, ih f.2, eqU_of a f.1]
  refine ⟨.int (ys.countP (fun z => eqV z y) : Nat), H, I.tok _, ⟨s.toks, ?_⟩, q⟩
  rw [← ec rv fys]
end TSx

/-! Own layer, part R11: appends, comprehensions over mapped data, texts compared. -/
namespace TSx
open PySem L2
section
variable {K : PySem.W.Frag} {σ : Sg} {H H0 : Hp} {te ta tb tc ti : TE} {t : TA} {d r : D} {ds es : List D} {α β : Type}
theorem r_app {n : Nat} {p : Addr} {xs : List V} {E : Ends} (hv : σ[n]? = some (some (.ref p))) (hp : H p = some (.lst xs)) (hz : xs.length < 100000) (m : Mk K te σ H d) (q : ∀ v H1, Same H H1 → Dt K H1 v d → E.nx σ (upd H1 p (.lst (xs ++ [v])))) :
    tDrop (tBM K "list" rAppend (tVar n) (tCons te tNil)) E σ H := by
  refine ⟨_, hv, Or.inl ⟨rfl, _, SqL.of hp⟩, ?_⟩
  refine m H Gr.rfl' _ fun v H1 s1 a => ?_
  exact ⟨p, xs, v, rfl, rfl, s1 _ _ hp, sz2 hz, q v H1 s1 a⟩
theorem mk_eqS {x y : Str} (h : Mk K ta σ H (.str x)) (h2 : Mk K tb σ H (.str y)) : Mk K (tOp rEq ta tb) σ H (.bl (decide (x = y))) := fun H1 s Q q => h H1 s _ fun v H2 s2 b => h2 H2 (s.trans s2) _ fun u H3 s3 c => by
  cases b
  cases c
  refine ⟨rfl, ?_⟩
  have e : decide (V.str x = V.str y) = decide (x = y) := by
    by_cases z : x = y
    · subst z; rw [decide_eq_true rfl, decide_eq_true rfl]
    · rw [decide_eq_false z, decide_eq_false fun y => z (V.str.inj y)]
  rw [e]
  exact q _ H3 (s2.trans s3) (.bl _)
theorem mk_neS {x y : Str} (h : Mk K ta σ H (.str x)) (h2 : Mk K tb σ H (.str y)) : Mk K (tOp rNe ta tb) σ H (.bl (!decide (x = y))) := fun H1 s Q q => h H1 s _ fun v H2 s2 b => h2 H2 (s.trans s2) _ fun u H3 s3 c => by
  cases b
  cases c
  refine ⟨rfl, ?_⟩
  have e : decide (V.str x = V.str y) = decide (x = y) := by
    by_cases z : x = y
    · subst z; rw [decide_eq_true rfl, decide_eq_true rfl]
    · rw [decide_eq_false z, decide_eq_false fun y => z (V.str.inj y)]
  rw [e]
  exact q _ H3 (s2.trans s3) (.bl _)
/-- a letter of a text of sides -/
theorem mk_ixS {l : List Bool} {i : Nat} {b : Bool} (h : Mk K ta σ H (.str (sideS l))) (h2 : Mk K tb σ H (.int (i : Int))) (e : l[i]? = some b) (z : l.length ≤ 100000) : Mk K (tOp rIxS ta tb) σ H (.str (sideS [b])) := fun H1 s Q q => h H1 s _ fun v H2 s2 a => h2 H2 (s.trans s2) _ fun u H3 s3 c => by
  cases a
  cases c
  refine ⟨_, _, sideC b, rfl, rfl, by rw [sideS_len]; exact sz1 z, ?_, q _ H3 (s2.trans s3) (.str _)⟩
  refine atI_nat ?_
  show (l.map sideC)[i]? = some (sideC b)
  rw [List.getElem?_map, e]
  rfl
theorem ifE {tt : TT} {b : Bool} {d1 d2 : D} (h : MkT tt σ H b) (h1 : b = true → Mk K ta σ H d1) (h2 : b = false → Mk K tb σ H d2) : Mk K (tIf tt ta tb) σ H (if b then d1 else d2) := fun H1 s Q q => by
  refine h H1 s _ fun H2 s2 => ?_
  cases b with
  | true => exact iteT (h1 rfl H2 (s.trans s2) _ fun v H3 s3 a => q v H3 (s2.trans s3) a)
  | false => exact iteF (h2 rfl H2 (s.trans s2) _ fun v H3 s3 a => q v H3 (s2.trans s3) a)
theorem fm_zip {γ : Type} (f : α → β → γ) : ∀ (l : List α) (m : List β), l.length = m.length → (List.range l.length).filterMap (fun k => match l[k]?, m[k]? with | some x, some y => some (f x y) | _, _ => none) = (l.zip m).map fun p => f p.1 p.2
  | [], _, _ => rfl
  | a :: l, [], h => by cases h
  | a :: l, b :: m, h => by
    have ih := fm_zip f l m (by simpa using h)
    rw [List.length_cons, List.range_succ_eq_map, List.filterMap_cons, List.filterMap_map, List.zip_cons_cons, List.map_cons, ← ih]
    rfl
theorem at_map {f : α → D} {l : List α} {i : Nat} {d : D} (h : (l.map f)[i]? = some d) : ∃ a, l[i]? = some a ∧ f a = d := by
  rw [List.getElem?_map] at h
  cases q : l[i]? with
  | none => rw [q] at h; cases h
  | some b => rw [q] at h; cases h; exact ⟨b, rfl, rfl⟩
/-- [e for x in tuple], the tuple's things told by l -/
theorem mk_lcM {i : Nat} {l : List α} {g f : α → D} (h : ∀ H1, Same H H1 → Ev K ti σ H1 (.tup (l.map g))) (hf : ∀ a, (f a).sc = true) (hl : l.length ≤ 1000) (step : ∀ a ∈ l, ∀ x H1, Same H H1 → Dt K H1 x (g a) → Mk K te ((σ.set i none).set i (some x)) H1 (f a)) :
    Mk K (tLc (iTup K ti) (gName i) tYes te [i]) σ H (.lst (l.map f)) := fun H1 s Q q => by
  obtain ⟨v, a, k⟩ := h H1 s
  refine k _ ?_
  cases a with
  | @tup p xs _ e aa =>
    have lx := aa.len
    rw [List.length_map] at lx
    refine ⟨p, rfl, ⟨xs, e⟩, fun L nL => lc_flat (K := K) (walk_tup (K := K) (a := p) (xs := xs)) (fun k => (l[k]?).map f) (fun k d hk => ?_) nL (fun H' s' => gr_T s' e) (by omega) ?_ ?_⟩
    · cases hd : l[k]? with
      | none => rw [hd] at hk; cases hk
      | some y => rw [hd] at hk; cases hk; exact hf y
    · rintro k x H' H'' hk s' ⟨rfl, hx⟩
      obtain ⟨y, hy, ay⟩ := aa.at hx
      obtain ⟨b, hb, rfl⟩ := at_map hy
      refine ⟨Gr.rfl', fun R r => r_name (r _ ?_ (fun d hd => ⟨fun H2 s2 Q2 q2 => q2 H2 Gr.rfl', ?_⟩) fun hd => ?_)⟩
      · show ((σ.set i none).set i (some x)).set i none = σ.set i none
        rw [List.set_set, List.set_set]
      · rw [hb] at hd
        cases hd
        exact step b (List.mem_of_getElem? hb) x _ (s.trans s') (ay.gr s')
      · rw [hb] at hd; cases hd
    · intro H' ys s' e' a'
      refine q _ _ s' (.lst e' ?_)
      rw [lx, fm_get f l] at a'
      exact a'
/-- [e for x, y in zip(tuple, tuple)] -/
theorem mk_lcZ {i j : Nat} {l : List α} {m : List β} {g1 : α → D} {g2 : β → D} {f : α → β → D} (ij : ∀ u w, wipe (((wipe σ [i, j]).set i u).set j w) [i, j] = wipe σ [i, j]) (h : ∀ H1, Same H H1 → Ev K ta σ H1 (.tup (l.map g1))) (h2 : ∀ H1, Same H H1 → Ev K tc σ H1 (.tup (m.map g2))) (hlm : l.length = m.length) (hf : ∀ a b, (f a b).sc = true) (hl : l.length ≤ 1000)
    (step : ∀ (k : Nat) a b, l[k]? = some a → m[k]? = some b → ∀ x y H1, Same H H1 → Dt K H1 x (g1 a) → Dt K H1 y (g2 b) → Mk K te (((wipe σ [i, j]).set i (some x)).set j (some y)) H1 (f a b)) :
    Mk K (tLc (RZ.iZipA K (tCons ta (tCons tc tNil))) (gTup K 2 (gCons (gName i) (gCons (gName j) gNil))) tYes te [i, j]) σ H (.lst ((l.zip m).map fun p => f p.1 p.2)) := fun H1 s Q q => by
  obtain ⟨v, a, k⟩ := h H1 s
  obtain ⟨u, c, k2⟩ := h2 H1 s
  refine k _ (k2 _ ?_)
  cases a with
  | @tup p xs _ e aa =>
  cases c with
  | @tup p2 ys _ e2 cc =>
    have lx := aa.len
    have ly := cc.len
    rw [List.length_map] at lx ly
    refine ⟨p, p2, xs, ys, rfl, Or.inr ⟨e, e2, fun L nL => lc_flat (K := K) (walk_zipT (K := K) (a := p) (c := p2) (xs := xs) (ys := ys) (by omega)) (fun k => match l[k]?, m[k]? with | some x, some y => some (f x y) | _, _ => none) (fun k d hk => ?_) nL (fun H' s' => ⟨gr_T s' e, gr_T s' e2⟩) (by omega) ?_ ?_⟩⟩
    · split at hk
      · cases hk; exact hf _ _
      · cases hk
    · rintro n x H' H'' hk s' ⟨T, y1, y2, rfl, nT, rfl, q1, q2⟩
      have s1 : Same H' (upd H' T (.tup [y1, y2])) := same_new nT
      obtain ⟨z1, hz1, az1⟩ := aa.at q1
      obtain ⟨z2, hz2, az2⟩ := cc.at q2
      obtain ⟨a1, ha1, rfl⟩ := at_map hz1
      obtain ⟨a2, ha2, rfl⟩ := at_map hz2
      refine ⟨s1, fun R r => ?_⟩
      have aT : Dt K (upd H' T (.tup [y1, y2])) (.ref T) (.tup [g1 a1, g2 a2]) := .tup (SqT.of upd_same) (.cons (az1.gr (s'.trans s1)) (.cons (az2.gr (s'.trans s1)) .nil))
      refine r_unp2 aT fun w1 w2 e1 e2 => ?_
      refine r _ ?_ (fun d hd => ⟨fun H2 s2 Q2 q2 => q2 H2 Gr.rfl', ?_⟩) fun hd => ?_
      · exact ij _ _
      · rw [ha1, ha2] at hd
        cases hd
        exact step n a1 a2 ha1 ha2 w1 w2 _ (s.trans (s'.trans s1)) e1 e2
      · rw [ha1, ha2] at hd
        cases hd
    · intro H' ys s' e' a'
      refine q _ _ s' (.lst e' ?_)
      rw [lx, fm_zip f l m hlm] at a'
      exact a'
end
end TSx

/-! Own layer, part R12: data apart from the drawn state. -/
namespace TSx
open PySem L2
def B2 (m g : Addr) : Addr → Bool := fun b => decide (b = m) || decide (b = g)
theorem B2_m {m g : Addr} : B2 m g m = true := by simp [B2]
theorem B2_g {m g : Addr} : B2 m g g = true := by simp [B2]
theorem B2_no {m g b : Addr} (h1 : b ≠ m) (h2 : b ≠ g) : B2 m g b = false := by simp [B2, h1, h2]
abbrev Ap (K : PySem.W.Frag) (m g : Addr) (H : Hp) (v : V) (d : D) : Prop := Dt K (wo (B2 m g) H) v d
section
variable {K : PySem.W.Frag} {m c g : Addr} {H H' : Hp} {v : V} {d : D} {ds : List D} {σ : Sg} {r : Nat}
theorem Ap.kp (h : Ap K m g H v d) (k : Kp m g H H') : Ap K m g H' v d := h.gr (wo_kp k B2_m B2_g)
theorem Ap.sm (h : Ap K m g H v d) (k : Same H H') : Ap K m g H' v d := h.gr (wo_same k)
theorem Ap.dt (h : Ap K m g H v d) : Dt K H v d := h.gr wo_le
theorem m_there (M : MAt m c g H r) : ∀ b, B2 m g b = true → H b ≠ none := fun b e z => by
  obtain ⟨⟨n, cs, gs, h1, h2, h3, _⟩, _⟩ := M
  by_cases q : b = m
  · rw [q, h1] at z; cases z
  · by_cases q2 : b = g
    · rw [q2, h3] at z; cases z
    · rw [B2_no q q2] at e; cases e
theorem new_m (M : MAt m c g H r) {p : Addr} (np : H p = none) : p ≠ m ∧ p ≠ g := by
  obtain ⟨⟨n, cs, gs, h1, h2, h3, _⟩, _⟩ := M
  exact ⟨(fun z => by rw [z, h1] at np; cases np), (fun z => by rw [z, h3] at np; cases np)⟩
def strsT : List Str → TA
  | [] => tNil
  | s :: r => tCons (tC (.str s)) (strsT r)
theorem strsT_r : ∀ (ss : List Str) {Q : List V → Hp → Prop}, Q (ss.map V.str) H → strsT ss σ H Q
  | [], _, q => q
  | s :: r, Q, q => strsT_r r (Q := fun vs H1 => Q (.str s :: vs) H1) q
/-- [s, ..][draw(m, as many)] -/
theorem r_pick {ss : List Str} {n : Nat} {Q : VK} {l : Int} (hn : σ[n]? = some (some (.ref m))) (M : MAt m c g H (r + 1)) (hl : 0 < ss.length) (hz : ss.length ≤ 1000) (el : l = (ss.length : Int)) (k : ∀ s H', s ∈ ss → MAt m c g H' r → Kp m g H H' → Q (.str s) H') :
    tOp (rIxL K) (tLst (strsT ss)) (tCall spDraw [] E0 (tCons (tVar n) (tCons (tC (.int l)) tNil))) σ H Q := by
  subst el
  refine strsT_r ss ⟨by rw [List.length_map]; exact sz1 (by omega), fun p np => ?_⟩
  obtain ⟨pm, pg⟩ := new_m M np
  refine ⟨_, hn, ?_⟩
  refine ⟨m, c, g, r, (ss.length : Int), rfl, by omega, by omega, M.same (same_new np), fun v H1 p0 p1 M1 k1 => ?_⟩
  obtain ⟨i, rfl⟩ : ∃ i : Nat, v = (i : Int) := ⟨v.toNat, by omega⟩
  have li : i < ss.length := by omega
  refine ⟨p, ss.map V.str, (i : Int), .str ss[i], rfl, rfl, SqL.of (k1 _ _ pm pg upd_same), atI_nat (by rw [List.getElem?_map, List.getElem?_eq_getElem li]; rfl), ?_⟩
  exact k _ H1 (List.getElem_mem li) M1 ((Kp.of (same_new np)).tr k1)
end
theorem pi_tupK {X : Cx} {tg l : Expr} {tl : TE} {K : PySem.W.Frag} (h : X.K = K) (hl : PE X l tl) : PI X tg l (iTup K tl) := by
  subst h
  exact pi_tup hl
theorem pi_listK {X : Cx} {tg l : Expr} {tl : TE} {K : PySem.W.Frag} (h : X.K = K) (hl : PE X l tl) : PI X tg l (iList K tl) := by
  subst h
  exact pi_list hl
def rJoinK (K : PySem.W.Frag) : V → List V → Hp → VK → Prop := fun x xs H Q => ∃ a p, ∃ ys : List Str, x = .str a ∧ xs = [.ref p] ∧ (SqL K H p (ys.map V.str) ∨ SqT K H p (ys.map V.str)) ∧ (ys.map (·.length)).sum + ys.length * a.length ≤ 16777216 ∧ Q (.str (Txt.join a ys)) H
theorem mt_joinK {X : Cx} {K : PySem.W.Frag} (h : X.K = K) : MtR X "str.join" (rJoinK K) := by
  subst h
  exact mt_join
def spOf (K : PySem.W.Frag) : Sp := fun vs H Q _ => ∃ (m c g : Addr) (r : Nat) (x : V), vs = [.ref m, x] ∧ MAt m c g H (r + 1) ∧
  ((∃ ns : List Int, Ap K m g H x (.lst (ns.map D.int)) ∧ 0 < ns.length ∧ ns.length ≤ 1000 ∧ ∀ n H', n ∈ ns → MAt m c g H' r → Kp m g H H' → Q (.int n) H') ∨
    (∃ l : List Bool, x = .str (sideS l) ∧ 0 < l.length ∧ l.length ≤ 1000 ∧ ∀ b H', b ∈ l → MAt m c g H' r → Kp m g H H' → Q (.str (sideS [b])) H'))
def termLists : List (List Int) := [[1, 2, 3, 4, 6], [1, 2, 3], [1, 2, 4], [1, 5], [2, 3, 3], [1]]
def spTerms (K : PySem.W.Frag) : Sp := fun vs H Q _ => ∃ (m c g : Addr) (r : Nat), vs = [.ref m] ∧ MAt m c g H (r + 1) ∧ ∀ v H' ns, ns ∈ termLists → Ap K m g H' v (.lst (ns.map D.int)) → MAt m c g H' r → Kp m g H H' → Q v H'
def spWay (K : PySem.W.Frag) : Sp := fun vs H Q _ => ∃ (m c g : Addr) (r : Nat) (n wards : Nat), vs = [.ref m, .int n, .int wards] ∧ 1 ≤ n ∧ n ≤ 1000 ∧ wards ≤ 1000 ∧ MAt m c g H (r + 4) ∧ ∀ v H' (w : Way), w.ok n wards → Ap K m g H' v w.d → MAt m c g H' r → Kp m g H H' → Q v H'
end TSx

/-! Own layer, part N1: data of any kind, judged by plain functions; promises with an answer or an exception. -/
namespace TSx
open PySem L2
mutual
/-- no exception within, no full dict, no long text -/
def D.nx : D → Bool
  | .non => true
  | .bl _ => true
  | .int _ => true
  | .str x => decide (x.length ≤ 1000)
  | .lst xs => nxA xs
  | .tup xs => nxA xs
  | .dic kvs => kvs.isEmpty
  | .exc _ _ => false
def nxA : List D → Bool
  | [] => true
  | d :: ds => d.nx && nxA ds
end
theorem nxA_mem : ∀ {ds : List D} {d : D}, nxA ds = true → d ∈ ds → d.nx = true
  | x :: xs, d, h, m => by
    simp only [nxA, Bool.and_eq_true] at h
    rcases List.mem_cons.mp m with rfl | m
    · exact h.1
    · exact nxA_mem h.2 m
theorem nxA_of : ∀ {ds : List D}, (∀ d ∈ ds, d.nx = true) → nxA ds = true
  | [], _ => rfl
  | x :: xs, h => by
    simp only [nxA, Bool.and_eq_true]
    exact ⟨h x (List.mem_cons_self ..), nxA_of fun d m => h d (List.mem_cons_of_mem _ m)⟩
theorem D.nx_e {d : D} (h : d.nx = true) : d.isE = false := by
  cases d <;> first | rfl | (cases h)
def isI : D → Bool
  | .int _ => true
  | .bl _ => true
  | _ => false
def isB : D → Bool
  | .bl _ => true
  | _ => false
def isT : D → Bool
  | .tup _ => true
  | _ => false
def isS : D → Bool
  | .str _ => true
  | _ => false
theorem kit_I {d : D} (e : d.isE = false) : kitB d.ty "int" = some (isI d) := by
  cases d with
  | non => exact (by decide +kernel : kitB "NoneType" "int" = some false)
  | bl b => exact (by decide +kernel : kitB "bool" "int" = some true)
  | int i => exact (by decide +kernel : kitB "int" "int" = some true)
  | str x => exact (by decide +kernel : kitB "str" "int" = some false)
  | lst xs => exact (by decide +kernel : kitB "list" "int" = some false)
  | tup xs => exact (by decide +kernel : kitB "tuple" "int" = some false)
  | dic kvs => exact (by decide +kernel : kitB "dict" "int" = some false)
  | exc C fs => cases e
theorem kit_B {d : D} (e : d.isE = false) : kitB d.ty "bool" = some (isB d) := by
  cases d with
  | non => exact (by decide +kernel : kitB "NoneType" "bool" = some false)
  | bl b => exact (by decide +kernel : kitB "bool" "bool" = some true)
  | int i => exact (by decide +kernel : kitB "int" "bool" = some false)
  | str x => exact (by decide +kernel : kitB "str" "bool" = some false)
  | lst xs => exact (by decide +kernel : kitB "list" "bool" = some false)
  | tup xs => exact (by decide +kernel : kitB "tuple" "bool" = some false)
  | dic kvs => exact (by decide +kernel : kitB "dict" "bool" = some false)
  | exc C fs => cases e
theorem kit_T {d : D} (e : d.isE = false) : kitB d.ty "tuple" = some (isT d) := by
  cases d with
  | non => exact (by decide +kernel : kitB "NoneType" "tuple" = some false)
  | bl b => exact (by decide +kernel : kitB "bool" "tuple" = some false)
  | int i => exact (by decide +kernel : kitB "int" "tuple" = some false)
  | str x => exact (by decide +kernel : kitB "str" "tuple" = some false)
  | lst xs => exact (by decide +kernel : kitB "list" "tuple" = some false)
  | tup xs => exact (by decide +kernel : kitB "tuple" "tuple" = some true)
  | dic kvs => exact (by decide +kernel : kitB "dict" "tuple" = some false)
  | exc C fs => cases e
theorem kit_S {d : D} (e : d.isE = false) : kitB d.ty "str" = some (isS d) := by
  cases d with
  | non => exact (by decide +kernel : kitB "NoneType" "str" = some false)
  | bl b => exact (by decide +kernel : kitB "bool" "str" = some false)
  | int i => exact (by decide +kernel : kitB "int" "str" = some false)
  | str x => exact (by decide +kernel : kitB "str" "str" = some true)
  | lst xs => exact (by decide +kernel : kitB "list" "str" = some false)
  | tup xs => exact (by decide +kernel : kitB "tuple" "str" = some false)
  | dic kvs => exact (by decide +kernel : kitB "dict" "str" = some false)
  | exc C fs => cases e
/-! ### the plain looks -/
def isW (d : D) (a b : Int) : Bool := match d with
  | .int i => decide (a ≤ i) && decide (i ≤ b)
  | _ => false
def isTu (d : D) (a b : Int) : Bool := match d with
  | .tup xs => decide (a ≤ (xs.length : Int)) && decide ((xs.length : Int) ≤ b)
  | _ => false
def isWd (d : D) (ws : List Str) : Bool := match d with
  | .str x => ws.any fun y => y == x
  | _ => false
def abC (c : Nat) : Bool := decide (c ∈ (Str.ofString "ab").cps.toList)
def isSd (d : D) (n : Int) : Bool := match d with
  | .str x => decide ((x.length : Int) = n) && x.cps.toList.all abC
  | _ => false
def isWy (d : D) (n w : Int) : Bool := match d with
  | .tup [a] => isWd a ["kept"]
  | .tup [a, b] => isWd a ["ward"] && isW b 0 (w - 1)
  | .tup [a, b, c] => isWd a ["body", "rest"] && isWd c tiesL && isW b 0 (n - 1)
  | _ => false
def isSe (d : D) (n w : Int) : Bool := match d with
  | .tup [.int t, p, y] => isW (.int t) 1 6 && isW p 0 (t - 1) && isWy y n w
  | _ => false
/-- the first wrong part of a body -/
def wrS (d : D) (k : Nat) (n w : Int) : Option D := match d with
  | .tup ss => if isTu (.tup ss) 1 9 then ((List.range ss.length).find? fun j => !(match ss[j]? with | some s => isSe s n w | none => true)).map fun j => .tup [.int (k : Nat), .int (j : Nat)] else some (.tup [.int (k : Nat)])
  | _ => some (.tup [.int (k : Nat)])
def wrB (n w : Int) : Nat → List D → Option D
  | _, [] => none
  | k, b :: bs => (wrS b k n w).or (wrB n w (k + 1) bs)
def lenD : D → Nat
  | .tup ss => ss.length
  | _ => 0
def termD : D → Nat
  | .tup (.int t :: _) => t.toNat
  | _ => 1
def lcB (c : Nat) (d : D) : Nat := match d with
  | .tup ss => ss.foldl (fun c s => (Nat.lcm 1 c).lcm (termD s)) c
  | _ => c
def lcH (bs : List D) : Nat := bs.foldl lcB 1
def wrH (d : D) : Option D := match d with
  | .tup [bs, w] => if isW w 0 4 then (if isTu bs 1 3 then (match bs, w with
      | .tup l, .int wi => ((wrB (l.length : Int) wi 0 l).or (if (l.map fun b => (lenD b : Int)).sum > 9 then some (.str "seats") else none)).or (if lcH l > 12 then some (.str "round") else none)
      | _, _ => none) else some (.str "bodies")) else some (.str "wards")
  | _ => some (.str "form")
def isNon : D → Bool
  | .non => true
  | _ => false
def wrBd (d : D) : Option D := match d with
  | .tup [t, g] => if isNon t || isW t 0 4 then (if isW g 1 4 then none else some (.str "gap")) else some (.str "turn")
  | _ => some (.str "form")
/-- whether a thing is a stand of the house -/
def isStd (h d : D) : Bool := match h, d with
  | .tup [.tup bs, _], .tup ls => decide (ls.length = bs.length) && (bs.zip ls).all fun p => isSd p.2 (lenD p.1 : Int)
  | _, _ => false
/-! ### promises: an answer, or an exception of an own class with one field -/
inductive Out where
  | ret (d : D) | exc (C : Addr) (f : Str) (d : D)
def Out.said (K : PySem.W.Frag) (H : Hp) (Q : VK) (E : XK) : Out → Prop
  | .ret r => ∀ v H', Same H H' → Dt K H' v r → Q v H'
  | .exc C f r => ∀ e v H', Same H H' → H e = none → H' e = some (.xd [(f, v)]) → Dt K H' v r → E (.ref C) (some e) H'
/-- such a def -/
def spO (K : PySem.W.Frag) (f : List D → Out → Prop) : Sp := fun vs H Q E => ∃ ds o, DtA K H vs ds ∧ f ds o ∧ o.said K H Q E
theorem spO_len {K : PySem.W.Frag} {f : List D → Out → Prop} {n : Nat} (h : ∀ ds o, f ds o → ds.length = n) : ∀ vs H Q E, spO K f vs H Q E → vs.length = n := fun vs H Q E ⟨ds, o, a, b, _⟩ => a.len.trans (h ds o b)
theorem spP_len {K : PySem.W.Frag} {f : List D → D → Prop} {n : Nat} (h : ∀ ds r, f ds r → ds.length = n) : ∀ vs H Q E, spP K f vs H Q E → vs.length = n := fun vs H Q E ⟨ds, r, a, b, _⟩ => a.len.trans (h ds r b)
def fWn (ds : List D) (r : D) : Prop := ∃ d a b, ds = [d, .int a, .int b] ∧ d.nx = true ∧ r = .bl (isW d a b)
def fTn (ds : List D) (r : D) : Prop := ∃ d a b, ds = [d, .int a, .int b] ∧ d.nx = true ∧ r = .bl (isTu d a b)
def fWdn (ds : List D) (r : D) : Prop := ∃ d ws, ds = [d, .tup (ws.map D.str)] ∧ d.nx = true ∧ r = .bl (isWd d ws)
def fSdn (ds : List D) (r : D) : Prop := ∃ d n, ds = [d, .int n] ∧ d.nx = true ∧ r = .bl (isSd d n)
def fWyn (ds : List D) (r : D) : Prop := ∃ d n w, ds = [d, .int n, .int w] ∧ d.nx = true ∧ r = .bl (isWy d n w)
def fSen (ds : List D) (r : D) : Prop := ∃ d n w, ds = [d, .int n, .int w] ∧ d.nx = true ∧ r = .bl (isSe d n w)
section
variable {K : PySem.W.Frag} {σ : Sg} {H : Hp} {te ta tb tc ti : TE} {t : TA} {d r : D} {ds es : List D} {X : Cx} {k : Nat} {ff : Addr} {fd : FuncData} {ps : List Str}
/-- a call of such a def, as a reading: what it tells, or the exception -/
theorem r_callO {f : List D → Out → Prop} {Q : VK} {E : XK} {o : Out} (h : MkA K t σ H ds) (hf : f ds o) (q : ∀ H1, Same H H1 → o.said K H1 Q E) : tCall (spO K f) [] E t σ H Q := h H Gr.rfl' _ fun vs H2 s2 a => by
  show spO K f (vs ++ []) H2 Q E
  rw [List.append_nil]
  exact ⟨ds, o, a, hf, q H2 s2⟩
theorem Out.said.sm {Q : VK} {E : XK} {o : Out} {H1 : Hp} (h : o.said K H Q E) (s : Same H H1) : o.said K H1 Q E := by
  cases o with
  | ret r => exact fun v H' s' a => h v H' (s.trans s') a
  | exc C f r => exact fun e v H' s' n x a => h e v H' (s.trans s') (s.free n) x a
/-- raise C(x): from what x is -/
theorem raise_said {C : Addr} {f : Str} {W : XK} (h : Mk K te σ H d) (q : (Out.exc C f d).said K H (fun _ _ => False) W) : tMkO C (spIni C f) [] (tCons te tNil) σ H W := h H Gr.rfl' _ fun x H1 s1 a => by
  refine ⟨(show 1 ≤ 1000 by decide), fun p np => ⟨p, x, rfl, upd_same, fun dd nd ne => ⟨rfl, dd, [(f, x)], upd_same, ?_, ?_, ?_⟩⟩⟩
  · rw [upd_ne ne, upd_same]
  · rw [upd_ne ne] at nd; exact nd
  · have hn : H1 dd = none := by rw [upd_ne ne] at nd; exact nd
    have e : (upd (L2.del (upd (upd (upd H1 p (exo p C none)) dd (exd dd [(f, x)])) p (exo p C (some dd))) p) dd (.xd [(f, x)])) = upd H1 dd (.xd [(f, x)]) := by
      funext b
      by_cases hb : b = dd
      · rw [hb, upd_same, upd_same]
      · rw [upd_ne hb, upd_ne hb]
        by_cases hp : b = p
        · rw [hp, del_same, np]
        · rw [del_ne hp, upd_ne hp, upd_ne hb, upd_ne hp]
    rw [e]
    exact q dd x _ (s1.trans (same_new hn)) (s1.free hn) upd_same (a.gr (same_new hn))
theorem mk_isI (h : Mk K ta σ H d) (e : d.nx = true) : Mk K (tCB (rIsi K) (tCons ta (tCons (tC (.ty "int")) tNil))) σ H (.bl (isI d)) := mk_isi h (D.nx_e e) (kit_I (D.nx_e e))
theorem mk_isB (h : Mk K ta σ H d) (e : d.nx = true) : Mk K (tCB (rIsi K) (tCons ta (tCons (tC (.ty "bool")) tNil))) σ H (.bl (isB d)) := mk_isi h (D.nx_e e) (kit_B (D.nx_e e))
theorem mk_isT (h : Mk K ta σ H d) (e : d.nx = true) : Mk K (tCB (rIsi K) (tCons ta (tCons (tC (.ty "tuple")) tNil))) σ H (.bl (isT d)) := mk_isi h (D.nx_e e) (kit_T (D.nx_e e))
theorem mk_isS (h : Mk K ta σ H d) (e : d.nx = true) : Mk K (tCB (rIsi K) (tCons ta (tCons (tC (.ty "str")) tNil))) σ H (.bl (isS d)) := mk_isi h (D.nx_e e) (kit_S (D.nx_e e))
/-- low <= e <= high, of an int -/
theorem whole_and (d : D) (a b : Int) : (isI d && (!isB d && isW d a b)) = isW d a b := by
  cases d <;> simp [isI, isB, isW]
theorem mk_whole {a b : Int} (h : Mk K ta σ H d) (e : d.nx = true) (h2 : Mk K tb σ H (.int a)) (h3 : Mk K tc σ H (.int b)) :
    Mk K (tAndV (tCB (rIsi K) (tCons ta (tCons (tC (.ty "int")) tNil))) (tAndV (tNotV (tCB (rIsi K) (tCons ta (tCons (tC (.ty "bool")) tNil)))) (tChain (rI0 fun i j => .bl (decide (i ≤ j))) (rI0 fun i j => .bl (decide (i ≤ j))) tb ta tc))) σ H (.bl (isW d a b)) := by
  rw [← whole_and d a b]
  refine mk_andV (mk_isI h e) fun i1 => mk_andV (mk_notV (mk_isB h e)) fun i2 => ?_
  cases d with
  | int i => exact mk_chainI h2 h h3
  | bl b => exact absurd i2 (by simp [isB])
  | _ => exact absurd i1 (by simp [isI])
theorem tuple_and (d : D) (a b : Int) : (isT d && isTu d a b) = isTu d a b := by cases d <;> simp [isT, isTu]
theorem isTu_shape {d : D} {a b : Int} (h : isTu d a b = true) : ∃ xs, d = .tup xs ∧ a ≤ (xs.length : Int) ∧ (xs.length : Int) ≤ b := by
  cases d with
  | tup xs =>
    simp only [isTu, Bool.and_eq_true, decide_eq_true_eq] at h
    exact ⟨xs, rfl, h.1, h.2⟩
  | _ => cases h
theorem word_and (d : D) (ws : List Str) : (isS d && isWd d ws) = isWd d ws := by cases d <;> simp [isS, isWd]
/-- c in "ab", c one sign -/
theorem mk_inSg {c : Nat} (h : Mk K ta σ H (.str ⟨#[c]⟩)) (h2 : Mk K tb σ H (.str (Str.ofString "ab"))) :
    Mk K (tOp (fun x y H Q => ∃ (c : Nat) (z : Str), x = .str ⟨#[c]⟩ ∧ y = .str z ∧ Q (.bl (decide (c ∈ z.cps.toList))) H) ta tb) σ H (.bl (abC c)) := fun H1 s Q q => h H1 s _ fun v H2 s2 a => h2 H2 (s.trans s2) _ fun u H3 s3 b => by
  cases a
  cases b
  exact ⟨c, _, rfl, rfl, q _ H3 (s2.trans s3) (.bl _)⟩
/-- [e for c in text] -/
theorem mk_lcX {z : Str} {i : Nat} {g : Nat → D} (hs : ∀ b, (g b).sc = true) (h : Mk K ti σ H (.str z)) (hl : z.length ≤ 1000) (step : ∀ c H1, Same H H1 → Mk K te ((σ.set i none).set i (some (.str ⟨#[c]⟩))) H1 (g c)) :
    Mk K (tLc (iStr ti) (gName i) tYes te [i]) σ H (.lst (z.cps.toList.map g)) := fun H1 s Q q => h H1 s _ fun v H2 s2 a => by
  cases a
  have hsz : z.cps.size ≤ 1000 := hl
  refine ⟨_, rfl, fun D nD => lc_it (walk_str (z := z)) (fun j H' => ∃ xs : List V, H' D = some (.lst xs) ∧ xs.length = j ∧ Same H2 H' ∧ DtA K H' xs ((z.cps.toList.take j).map g)) ⟨[], upd_same, rfl, same_new nD, .nil⟩ (fun _ _ _ _ => trivial) ?_ ?_⟩
  · rintro j x H' H'' hj ⟨xs, e, lx, s', aa⟩ ⟨rfl, c, hc, rfl⟩
    have hc' : z.cps.toList[j]? = some c := by simpa using hc
    refine r_name ⟨?_, ?_⟩
    · show ((σ.set i none).set i (some (V.str ⟨#[c]⟩))).set i none = σ.set i none
      rw [List.set_set, List.set_set]
    · refine r_yes ?_
      refine step c H'' ((s.trans s2).trans s') H'' Gr.rfl' _ fun y H4 s4 ay => ?_
      have hj' : j < z.cps.size := hj
      refine ⟨xs, s4 _ _ e, by rw [lx]; exact sz2 (by omega), xs ++ [y], upd_same, by rw [List.length_append, lx]; rfl, same_mut (s'.trans s4) nD, ?_⟩
      have tk : z.cps.toList.take (j + 1) = z.cps.toList.take j ++ [c] := by rw [List.take_add_one, hc']; rfl
      have fl : ∀ x ∈ (z.cps.toList.take j).map g, x.sc = true := by
        intro x hx
        obtain ⟨y, _, rfl⟩ := List.mem_map.mp hx
        exact hs y
      rw [tk, List.map_append]
      exact (aa.any fl).app (.cons (ay.any (hs c)) .nil)
  · rintro H' ⟨xs, e, lx, s', aa⟩
    have : z.cps.toList.take z.cps.size = z.cps.toList := by rw [List.take_of_length_le]; simp
    rw [this] at aa
    exact q _ _ (s2.trans s') (.lst e aa)
end
end TSx

/-! Own layer, part N1c: the houses' constants. -/
namespace TSx
open PySem L2
structure CstH (K : PySem.W.Frag) (mg : Str → Option Value) (pT : Addr) : Prop where
  TIES : mg "TIES" = some (.ref pT)
  ties : Dt K (fun _ => none) (.ref pT) (.tup (tiesL.map D.str))
  MOST_WARDS : ∃ t, mg "MOST_WARDS" = some (.int 4 t)
  MOST_BODIES : ∃ t, mg "MOST_BODIES" = some (.int 3 t)
  MOST_SEATS : ∃ t, mg "MOST_SEATS" = some (.int 9 t)
  MOST_TERM : ∃ t, mg "MOST_TERM" = some (.int 6 t)
  MOST_ROUND : ∃ t, mg "MOST_ROUND" = some (.int 12 t)
  MOST_GAP : ∃ t, mg "MOST_GAP" = some (.int 4 t)
theorem pe_cstE {X : Cx} {x : Str} {n : Int} {pos : Pos} (hg : Gl X x) (hm : ∃ t, X.mg x = some (.int n t)) (hd : (x == ("__debug__" : Str)) = false := by decide) : PE X (.Name x pos) (tC (.int n)) := by
  obtain ⟨t, hm⟩ := hm
  exact pe_cst hg hm hd
theorem mk_cref {K : PySem.W.Frag} {σ : Sg} {H : Hp} {p : Addr} {d : D} (h : Dt K (fun _ => none) (.ref p) d) : Mk K (tC (.ref p)) σ H d := fun H1 s Q q => q _ H1 Gr.rfl' (h.gr fun a o e => by cases e)
section
variable {K : PySem.W.Frag} {σ : Sg} {H : Hp} {ta tb : TE} {tt uu : TT} {d : D} {a b : Bool} {t : TA} {ds : List D} {r : D} {f : List D → D → Prop}
/-- a or b, b asked where a is false -/
theorem mt_or2 (h : MkT tt σ H a) (h2 : a = false → MkT uu σ H b) : MkT (tOr tt uu) σ H (a || b) := fun H1 s Q q => h H1 s _ fun H2 s2 => by
  cases a with
  | true => exact q H2 s2
  | false => exact h2 rfl H2 (s.trans s2) Q fun H3 s3 => q H3 (s2.trans s3)
theorem mt_and2 (h : MkT tt σ H a) (h2 : a = true → MkT uu σ H b) : MkT (tAnd tt uu) σ H (a && b) := fun H1 s Q q => h H1 s _ fun H2 s2 => by
  cases a with
  | true => exact h2 rfl H2 (s.trans s2) Q fun H3 s3 => q H3 (s2.trans s3)
  | false => exact q H2 s2
theorem mt_callP (h : MkA K t σ H ds) (hf : f ds (.bl b)) : MkT (tB (tCall (spP K f) [] E0 t)) σ H b := mt_B (mk_call h hf)
end
end TSx

/-! Own layer, part N3m: the mathematics of the first wrong part. -/
namespace TSx
open PySem L2
theorem find_at {p : Nat → Bool} : ∀ {m j : Nat}, j < m → p j = true → (∀ i, i < j → p i = false) → (List.range m).find? p = some j := fun {m j} h1 h2 h3 => by
  rw [List.find?_range_eq_some]
  exact ⟨h2, List.mem_range.mpr h1, fun i hi => by rw [h3 i hi]; rfl⟩
theorem find_no {p : Nat → Bool} {m : Nat} (h : ∀ i, i < m → p i = false) : (List.range m).find? p = none := by
  rw [List.find?_eq_none]
  intro i hi
  rw [h i (List.mem_range.mp hi)]
  decide
theorem wrS_no {d : D} {k : Nat} {n w : Int} (h : isTu d 1 9 = false) : wrS d k n w = some (.tup [.int (k : Nat)]) := by
  cases d with
  | tup ss => show (if isTu (.tup ss) 1 9 then _ else _) = _; rw [h]; rfl
  | _ => rfl
theorem wrS_at {ss : List D} {k j : Nat} {n w : Int} {s : D} (h : isTu (.tup ss) 1 9 = true) (e : ss[j]? = some s) (hs : isSe s n w = false) (low : ∀ i s, i < j → ss[i]? = some s → isSe s n w = true) : wrS (.tup ss) k n w = some (.tup [.int (k : Nat), .int (j : Nat)]) := by
  have lt := (List.getElem?_eq_some_iff.mp e).1
  show (if isTu (.tup ss) 1 9 then _ else _) = _
  rw [h, if_pos rfl, find_at (j := j) lt (by rw [e]; simp [hs]) fun i hi => by
    have li : i < ss.length := by omega
    rw [List.getElem?_eq_getElem li]
    simp [low i _ hi (List.getElem?_eq_getElem li)]]
  rfl
theorem wrS_ok {ss : List D} {k : Nat} {n w : Int} (h : isTu (.tup ss) 1 9 = true) (all : ∀ (i : Nat) s, ss[i]? = some s → isSe s n w = true) : wrS (.tup ss) k n w = none := by
  show (if isTu (.tup ss) 1 9 then _ else _) = _
  rw [h, if_pos rfl, find_no fun i hi => by rw [List.getElem?_eq_getElem hi]; simp [all i _ (List.getElem?_eq_getElem hi)]]
  rfl
/-- a body without a wrong part -/
theorem wrS_inv {d : D} {k : Nat} {n w : Int} (h : wrS d k n w = none) : ∃ ss, d = .tup ss ∧ 1 ≤ ss.length ∧ ss.length ≤ 9 ∧ ∀ s ∈ ss, isSe s n w = true := by
  cases d with
  | tup ss =>
    have h' : (if isTu (.tup ss) 1 9 then ((List.range ss.length).find? fun j => !(match ss[j]? with | some s => isSe s n w | none => true)).map fun j => D.tup [.int (k : Nat), .int (j : Nat)] else some (.tup [.int (k : Nat)])) = none := h
    cases q : isTu (.tup ss) 1 9 with
    | false => rw [q] at h'; cases h'
    | true =>
      rw [q, if_pos rfl, Option.map_eq_none_iff, List.find?_eq_none] at h'
      obtain ⟨xs, e, l1, l9⟩ := isTu_shape q
      cases e
      refine ⟨ss, rfl, by omega, by omega, fun s hs => ?_⟩
      obtain ⟨i, hi, rfl⟩ := List.mem_iff_getElem.mp hs
      have z := h' i (List.mem_range.mpr hi)
      rw [List.getElem?_eq_getElem hi] at z
      simpa using z
  | _ => cases h
theorem isSe_inv {s : D} {n w : Int} (h : isSe s n w = true) : ∃ (t : Int) (p y : D), s = .tup [.int t, p, y] ∧ 1 ≤ t ∧ t ≤ 6 ∧ isW p 0 (t - 1) = true ∧ isWy y n w = true := by
  unfold isSe at h
  split at h
  · rename_i t p y
    simp only [Bool.and_eq_true] at h
    obtain ⟨⟨h1, h2⟩, h3⟩ := h
    have h1' : (decide ((1 : Int) ≤ t) && decide (t ≤ 6)) = true := h1
    simp only [Bool.and_eq_true, decide_eq_true_eq] at h1'
    exact ⟨t, p, y, rfl, h1'.1, h1'.2, h2, h3⟩
  · cases h
theorem wrB_at {n w : Int} : ∀ {bs : List D} {k j : Nat} {b : D} {x : D}, bs[j]? = some b → wrS b (k + j) n w = some x → (∀ i b, i < j → bs[i]? = some b → wrS b (k + i) n w = none) → wrB n w k bs = some x
  | [], k, j, b, x, e, _, _ => by simp at e
  | b0 :: bs, k, 0, b, x, e, h, _ => by
    have e' : b0 = b := by simpa using e
    subst e'
    show (wrS b0 k n w).or _ = _
    have h' : wrS b0 k n w = some x := h
    rw [h']; rfl
  | b0 :: bs, k, j + 1, b, x, e, h, low => by
    show (wrS b0 k n w).or (wrB n w (k + 1) bs) = _
    have z : wrS b0 k n w = none := low 0 b0 (by omega) rfl
    rw [z, Option.none_or]
    refine wrB_at (j := j) (b := b) (by simpa using e) (by rw [show k + 1 + j = k + (j + 1) by omega]; exact h) fun i b' hi hb => ?_
    rw [show k + 1 + i = k + (i + 1) by omega]
    exact low (i + 1) b' (by omega) (by simpa using hb)
theorem wrB_ok {n w : Int} : ∀ {bs : List D} {k : Nat}, (∀ i b, bs[i]? = some b → wrS b (k + i) n w = none) → wrB n w k bs = none
  | [], _, _ => rfl
  | b0 :: bs, k, h => by
    show (wrS b0 k n w).or (wrB n w (k + 1) bs) = _
    have z : wrS b0 k n w = none := h 0 b0 rfl
    rw [z, Option.none_or]
    exact wrB_ok fun i b hb => by rw [show k + 1 + i = k + (i + 1) by omega]; exact h (i + 1) b (by simpa using hb)
theorem wrB_inv {n w : Int} : ∀ {bs : List D} {k : Nat}, wrB n w k bs = none → ∀ i b, bs[i]? = some b → wrS b (k + i) n w = none
  | [], _, _, i, b, e => by simp at e
  | b0 :: bs, k, h, i, b, e => by
    have h' : (wrS b0 k n w).or (wrB n w (k + 1) bs) = none := h
    rw [Option.or_eq_none_iff] at h'
    match i, e with
    | 0, e =>
      have e' : b0 = b := by simpa using e
      rw [← e']; exact h'.1
    | i + 1, e => rw [show k + (i + 1) = k + 1 + i by omega]; exact wrB_inv h'.2 i b (by simpa using e)
/-- which number a body bears is of no account to whether it is right -/
theorem wrS_num {d : D} {k j : Nat} {n w : Int} (h : wrS d k n w = none) : wrS d j n w = none := by
  obtain ⟨ss, rfl, l1, l9, a⟩ := wrS_inv h
  exact wrS_ok (by simp only [isTu, Bool.and_eq_true, decide_eq_true_eq]; omega) fun i s e => a s (List.mem_of_getElem? e)
/-- a body of right terms -/
def tmB (d : D) : Prop := ∃ ss, d = .tup ss ∧ ∀ s ∈ ss, ∃ (t : Int) (r : List D), s = .tup (.int t :: r) ∧ 1 ≤ t ∧ t ≤ 6
theorem tmB_of {d : D} {k : Nat} {n w : Int} (h : wrS d k n w = none) : tmB d := by
  obtain ⟨ss, rfl, _, _, a⟩ := wrS_inv h
  refine ⟨ss, rfl, fun s hs => ?_⟩
  obtain ⟨t, p, y, rfl, h1, h6, _⟩ := isSe_inv (a s hs)
  exact ⟨t, _, rfl, h1, h6⟩
theorem lcmD_60 {c t : Nat} (hc : c ∣ 60) (h1 : 1 ≤ t) (h6 : t ≤ 6) : (Nat.lcm 1 c).lcm t ∣ 60 := by
  rw [Nat.lcm_one_left]
  refine Nat.lcm_dvd hc ?_
  have : t = 1 ∨ t = 2 ∨ t = 3 ∨ t = 4 ∨ t = 5 ∨ t = 6 := by omega
  rcases this with rfl | rfl | rfl | rfl | rfl | rfl <;> decide
theorem lcB_60 {ss : List D} : ∀ {c : Nat}, c ∣ 60 → (∀ s ∈ ss, ∃ (t : Int) (r : List D), s = .tup (.int t :: r) ∧ 1 ≤ t ∧ t ≤ 6) → (ss.foldl (fun c s => (Nat.lcm 1 c).lcm (termD s)) c) ∣ 60 := by
  induction ss with
  | nil => intro c h _; exact h
  | cons s l ih =>
    intro c h a
    obtain ⟨t, r, rfl, h1, h6⟩ := a s (List.mem_cons_self ..)
    exact ih (lcmD_60 h (show 1 ≤ t.toNat by omega) (show t.toNat ≤ 6 by omega)) fun x hx => a x (List.mem_cons_of_mem _ hx)
theorem lcF_60 {bs : List D} : ∀ {c : Nat}, c ∣ 60 → (∀ b ∈ bs, tmB b) → bs.foldl lcB c ∣ 60 := by
  induction bs with
  | nil => intro c h _; exact h
  | cons b l ih =>
    intro c h a
    obtain ⟨ss, rfl, hs⟩ := a b (List.mem_cons_self ..)
    exact ih (lcB_60 h hs) fun x hx => a x (List.mem_cons_of_mem _ hx)
theorem logD60 {c : Nat} (h : c ∣ 60) : ((c : Int)).natAbs.log2 < bitsLine := by
  have : c ≤ 60 := Nat.le_of_dvd (by decide) h
  show (c : Nat).log2 < 2 ^ 27
  by_cases z : c = 0
  · rw [z]; decide
  · exact Nat.lt_of_lt_of_le ((Nat.log2_lt z).mpr (Nat.lt_of_le_of_lt this (by decide : 60 < 2 ^ 6))) (by decide)
/-! ### the houses without a wrong part -/
theorem wrH_inv {d : D} (h : wrH d = none) : ∃ (bs : List D) (w : Int), d = .tup [.tup bs, .int w] ∧ 0 ≤ w ∧ w ≤ 4 ∧ 1 ≤ bs.length ∧ bs.length ≤ 3 ∧ (∀ b ∈ bs, wrS b 0 (bs.length : Int) w = none) ∧ (bs.map fun b => (lenD b : Int)).sum ≤ 9 ∧ lcH bs ≤ 12 := by
  unfold wrH at h
  split at h
  · rename_i b w
    cases qw : isW w 0 4 with
    | false => rw [qw] at h; cases h
    | true =>
      rw [qw, if_pos rfl] at h
      cases qb : isTu b 1 3 with
      | false => rw [qb] at h; cases h
      | true =>
        rw [qb, if_pos rfl] at h
        obtain ⟨bs, rfl, l1, l3⟩ := isTu_shape qb
        cases w with
        | int wi =>
          simp only [isW, Bool.and_eq_true, decide_eq_true_eq] at qw
          simp only [Option.or_eq_none_iff] at h
          obtain ⟨⟨h1, h2⟩, h3⟩ := h
          refine ⟨bs, wi, rfl, qw.1, qw.2, by omega, by omega, fun b hb => ?_, ?_, ?_⟩
          · obtain ⟨i, hi, rfl⟩ := List.mem_iff_getElem.mp hb
            exact wrS_num (wrB_inv h1 i _ (List.getElem?_eq_getElem hi))
          · by_cases c : (bs.map fun b => (lenD b : Int)).sum > 9
            · rw [if_pos c] at h2; cases h2
            · omega
          · by_cases c : lcH bs > 12
            · rw [if_pos c] at h3; cases h3
            · omega
        | _ => exact absurd qw (by simp [isW])
  · cases h
end TSx

/-! Own layer, part S1: how great data are; what is small enough to be shown. -/
namespace TSx
open PySem L2 PySem.Spec PyProof.Rows
mutual
/-- ints of at most 10 ^ 30 + n, short texts, no full dict, no exception -/
def D.gd (n : Nat) : D → Bool
  | .non => true
  | .bl _ => true
  | .int i => decide (i.natAbs ≤ 10 ^ 30 + n)
  | .str x => decide (x.length ≤ 1000) && x.cps.toList.all fun c => decide (c < 16 ^ 8)
  | .lst xs => gdA n xs
  | .tup xs => gdA n xs
  | .dic kvs => kvs.isEmpty
  | .exc _ _ => false
def gdA (n : Nat) : List D → Bool
  | [] => true
  | d :: ds => d.gd n && gdA n ds
end
mutual
def D.wg : D → Nat
  | .int _ => 150
  | .str x => x.cps.size + 1
  | .lst xs => wgA xs + 1
  | .tup xs => wgA xs + 1
  | _ => 1
def wgA : List D → Nat
  | [] => 0
  | d :: ds => d.wg + 1 + wgA ds
end
mutual
def D.dg : D → Nat
  | .lst xs => dgA xs + 1
  | .tup xs => dgA xs + 1
  | .dic _ => 1
  | _ => 0
def dgA : List D → Nat
  | [] => 0
  | d :: ds => max d.dg (dgA ds)
end
theorem gdA_mem {n : Nat} : ∀ {ds : List D}, gdA n ds = true ↔ ∀ d ∈ ds, d.gd n = true
  | [] => by simp [gdA]
  | x :: xs => by simp only [gdA, Bool.and_eq_true, List.mem_cons, forall_eq_or_imp, gdA_mem (ds := xs)]
theorem wgA_app : ∀ (a b : List D), wgA (a ++ b) = wgA a + wgA b
  | [], b => by simp [wgA]
  | x :: a, b => by simp only [List.cons_append, wgA, wgA_app a b]; omega
theorem wgA_mem : ∀ {ds : List D} {d : D}, d ∈ ds → d.wg + 1 ≤ wgA ds
  | x :: xs, d, h => by
    simp only [wgA]
    rcases List.mem_cons.mp h with rfl | h
    · omega
    · have := wgA_mem h; omega
theorem wgA_len : ∀ (ds : List D), ds.length ≤ wgA ds
  | [] => Nat.le_refl _
  | x :: xs => by have := wgA_len xs; simp only [wgA, List.length_cons]; omega
theorem dgA_le {k : Nat} : ∀ {ds : List D}, dgA ds ≤ k ↔ ∀ d ∈ ds, d.dg ≤ k
  | [] => by simp [dgA]
  | x :: xs => by simp only [dgA, List.mem_cons, forall_eq_or_imp, Nat.max_le, dgA_le (ds := xs)]
theorem wgA_rev : ∀ (ds : List D), wgA ds.reverse = wgA ds
  | [] => rfl
  | x :: xs => by rw [List.reverse_cons, wgA_app, wgA_rev xs]; simp only [wgA]; omega
mutual
theorem gd_mono {n m : Nat} (h : n ≤ m) : ∀ {d : D}, d.gd n = true → d.gd m = true
  | .non, _ => rfl
  | .bl _, _ => rfl
  | .int i, e => by simp only [D.gd, decide_eq_true_eq] at e ⊢; omega
  | .str x, e => e
  | .lst xs, e => gdA_mono h (ds := xs) e
  | .tup xs, e => gdA_mono h (ds := xs) e
  | .dic _, e => e
  | .exc _ _, e => e
theorem gdA_mono {n m : Nat} (h : n ≤ m) : ∀ {ds : List D}, gdA n ds = true → gdA m ds = true
  | [], _ => rfl
  | x :: xs, e => by
    simp only [gdA, Bool.and_eq_true] at e ⊢
    exact ⟨gd_mono h e.1, gdA_mono h e.2⟩
end
mutual
theorem gd_nx {n : Nat} : ∀ {d : D}, d.gd n = true → d.nx = true
  | .non, _ => rfl
  | .bl _, _ => rfl
  | .int i, e => rfl
  | .str x, e => by simp only [D.gd, Bool.and_eq_true] at e; exact e.1
  | .lst xs, e => gdA_nx (ds := xs) e
  | .tup xs, e => gdA_nx (ds := xs) e
  | .dic _, e => e
  | .exc _ _, e => e
theorem gdA_nx {n : Nat} : ∀ {ds : List D}, gdA n ds = true → nxA ds = true
  | [], _ => rfl
  | x :: xs, e => by
    simp only [gdA, nxA, Bool.and_eq_true] at e ⊢
    exact ⟨gd_nx e.1, gdA_nx e.2⟩
end
theorem int_ok {n : Nat} {i : Int} (hn : n ≤ 1000) (h : i.natAbs ≤ 10 ^ 30 + n) : i.natAbs.log2 < 130 ∧ (PyData.shown (.int i)).length ≤ 50 := by
  have lt : i.natAbs < 10 ^ 31 := by omega
  refine ⟨?_, ?_⟩
  · by_cases z : i.natAbs = 0
    · rw [z]; decide
    · exact (Nat.log2_lt z).2 (Nat.lt_trans lt (by decide))
  · have e := int_text_length_le10 (k := 31) (by decide) lt
    show (Str.ofString (toString i)).length ≤ 50
    rw [PySem.ofString_length]
    omega
mutual
theorem gd_sh {n : Nat} (hn : n ≤ 1000) : ∀ {d : D}, d.gd n = true → d.sh = true ∧ d.pd.showable = true ∧ d.pd.leavesShort 50 = true ∧ d.pd.weight ≤ d.wg ∧ d.pd.depth ≤ d.dg
  | .non, _ => ⟨rfl, rfl, rfl, by simp [D.pd, PyData.weight], by simp [D.pd, PyData.depth]⟩
  | .bl _, _ => ⟨rfl, rfl, rfl, by simp [D.pd, PyData.weight], by simp [D.pd, PyData.depth]⟩
  | .int i, e => by
    simp only [D.gd, decide_eq_true_eq] at e
    obtain ⟨h1, h2⟩ := int_ok hn e
    refine ⟨rfl, ?_, ?_, ?_, by simp [D.pd, PyData.depth]⟩
    · simp only [D.pd, PyData.showable, decide_eq_true_eq]; omega
    · simp only [D.pd, PyData.leavesShort, decide_eq_true_eq]; exact h2
    · simp only [D.pd, PyData.weight, D.wg]; split <;> omega
  | .str x, e => by
    simp only [D.gd, Bool.and_eq_true] at e
    refine ⟨rfl, rfl, ?_, ?_, by simp [D.pd, PyData.depth]⟩
    · simp only [D.pd, PyData.leavesShort]; exact e.2
    · simp only [D.pd, PyData.weight, D.wg]; omega
  | .lst xs, e => by
    obtain ⟨h1, h2, h3, h4, h5⟩ := gdA_sh hn (ds := xs) e
    refine ⟨by simp only [D.sh, h1], by simp only [D.pd, PyData.showable, h2], by simp only [D.pd, PyData.leavesShort, h3], ?_, ?_⟩
    · simp only [D.pd, PyData.weight, D.wg]; omega
    · simp only [D.pd, PyData.depth, D.dg]; omega
  | .tup xs, e => by
    obtain ⟨h1, h2, h3, h4, h5⟩ := gdA_sh hn (ds := xs) e
    refine ⟨by simp only [D.sh, h1], by simp only [D.pd, PyData.showable, h2], by simp only [D.pd, PyData.leavesShort, h3], ?_, ?_⟩
    · simp only [D.pd, PyData.weight, D.wg]; omega
    · simp only [D.pd, PyData.depth, D.dg]; omega
  | .dic [], _ => ⟨rfl, rfl, rfl, by simp [D.pd, PyData.weight, PyData.weightKv], by simp [D.pd, D.dg, PyData.depth, PyData.depthKv]⟩
  | .dic (_ :: _), e => by cases e
  | .exc _ _, e => by cases e
theorem gdA_sh {n : Nat} (hn : n ≤ 1000) : ∀ {ds : List D}, gdA n ds = true → shA ds = true ∧ PyData.showableAll (pdA ds) = true ∧ PyData.leavesShortAll 50 (pdA ds) = true ∧ PyData.weightAll (pdA ds) ≤ wgA ds ∧ PyData.depthAll (pdA ds) ≤ dgA ds
  | [], _ => ⟨rfl, rfl, rfl, Nat.le_refl _, Nat.le_refl _⟩
  | x :: xs, e => by
    simp only [gdA, Bool.and_eq_true] at e
    obtain ⟨h1, h2, h3, h4, h5⟩ := gd_sh hn e.1
    obtain ⟨g1, g2, g3, g4, g5⟩ := gdA_sh hn (ds := xs) e.2
    refine ⟨by simp only [shA, h1, g1, Bool.and_true], by simp only [pdA, PyData.showableAll, h2, g2, Bool.and_true], by simp only [pdA, PyData.leavesShortAll, h3, g3, Bool.and_true], ?_, ?_⟩
    · simp only [pdA, PyData.weightAll, wgA]; omega
    · simp only [pdA, PyData.depthAll, dgA]; omega
end
/-- how great a thing is: ints, weight, depth -/
structure Gd (n w k : Nat) (d : D) : Prop where
  g : d.gd n = true
  w : d.wg ≤ w
  k : d.dg ≤ k
theorem Gd.up {n w k n' w' k' : Nat} {d : D} (h : Gd n w k d) (hn : n ≤ n') (hw : w ≤ w') (hk : k ≤ k') : Gd n' w' k' d := ⟨gd_mono hn h.g, Nat.le_trans h.w hw, Nat.le_trans h.k hk⟩
theorem Gd.nx {n w k : Nat} {d : D} (h : Gd n w k d) : d.nx = true := gd_nx h.g
theorem Gd.rd {n w k : Nat} {d : D} (h : Gd n w k d) (hn : n ≤ 1000) (hw : w ≤ 2 ^ 18) (hk : k ≤ 50) : d.rd := by
  obtain ⟨h1, h2, h3, h4, h5⟩ := gd_sh hn h.g
  refine ⟨h1, h2, ?_, Nat.le_trans h5 (Nat.le_trans h.k hk)⟩
  have l := PyData.shown_le 50 (by decide) d.pd h3
  have e : (2 : Nat) ^ 18 = 262144 := by decide
  have w1 := h.w
  have l2 : (50 + 2) * d.pd.weight ≤ 52 * 262144 := Nat.mul_le_mul (by omega) (by omega)
  rw [sizeLine_eq]
  omega
theorem Gd.part {n w k : Nat} {ds : List D} (h : Gd n w k (.tup ds)) {d : D} (m : d ∈ ds) : Gd n w (k - 1) d := by
  have a := h.w
  have b := h.k
  simp only [D.wg, D.dg] at a b
  have := wgA_mem m
  exact ⟨gdA_mem.mp h.g d m, by omega, by have := dgA_le.mp (Nat.le_refl (dgA ds)) d m; omega⟩
theorem gd_tup {n w k : Nat} {ds : List D} (h : ∀ d ∈ ds, Gd n w k d) {m : Nat} (hm : ds.length ≤ m) : Gd n ((w + 1) * m + 1) (k + 1) (.tup ds) := by
  refine ⟨gdA_mem.mpr fun d hd => (h d hd).g, ?_, ?_⟩
  · have : ∀ l : List D, (∀ d ∈ l, d.wg ≤ w) → wgA l ≤ (w + 1) * l.length := by
      intro l
      induction l with
      | nil => intro _; simp [wgA]
      | cons x xs ih =>
        intro a
        have := a x (List.mem_cons_self ..)
        have := ih fun y hy => a y (List.mem_cons_of_mem _ hy)
        simp only [wgA, List.length_cons]
        rw [Nat.mul_succ]
        omega
    have q := this ds fun d hd => (h d hd).w
    have := Nat.mul_le_mul_left (w + 1) hm
    simp only [D.wg]
    omega
  · have := dgA_le.mpr fun d hd => (h d hd).k
    simp only [D.dg]
    omega
theorem gd_lst {n w k : Nat} {ds : List D} (h : ∀ d ∈ ds, Gd n w k d) {m : Nat} (hm : ds.length ≤ m) : Gd n ((w + 1) * m + 1) (k + 1) (.lst ds) := by
  have q := gd_tup h hm
  exact ⟨q.g, q.w, q.k⟩
end TSx

/-! Own layer, part T1: tuples: == of the empty one, the whole of it backwards, +, slices, *. -/
namespace TSx
open PySem L2 PySem.Spec PyProof.Rows HT
theorem fmc {α β : Type} {f g : α → Option β} : ∀ {l : List α}, (∀ a ∈ l, f a = g a) → l.filterMap f = l.filterMap g
  | [], _ => rfl
  | x :: xs, h => by
    rw [List.filterMap_cons, List.filterMap_cons, h x (List.mem_cons_self ..), fmc fun a m => h a (List.mem_cons_of_mem _ m)]
section
variable {prog : Program} {w : World} {A : Around} {E : Value → Shared → Prop} {s : Shared}
theorem back_applied {sl : Addr} {vl vu vs : Value} {n : Nat} {Q : Int × Int × Nat → Shared → Prop} (hs : s.heap.IsSliceOf sl vl vu vs) (pl : IsPart vl none) (pu : IsPart vu none) (ps : IsPart vs (some (-1)))
    (h : Q ((n : Int) - 1, -1, n) s) : wpAny (model prog w) A (Builtin.Slice.sliceApplied (.ref sl) (pure (n : Int))) Q E s := by
  obtain ⟨os, at_, _, dat⟩ := id hs
  unfold Builtin.Slice.sliceApplied Builtin.Slice.sliceFields
  refine wpAny_bind (wpAny_bind (wpAny_field at_ dat (x := vl) rfl (wpAny_bind (wpAny_field at_ dat (x := vu) rfl (wpAny_bind (wpAny_field at_ dat (x := vs) rfl (wpAny_pure ?_)))))))
  refine wpAny_bind (slicePart_ ps ?_)
  show wpAny _ _ (if ((-1 : Int) == 0) = true then _ else _) _ _ s
  rw [if_neg (by decide)]
  refine wpAny_bind (slicePart_ pl (wpAny_bind (slicePart_ pu (wpAny_bind (wpAny_pure ?_)))))
  have e1 : Builtin.Slice.sliceAdjust none none (-1) (n : Int) = ((n : Int) - 1, -1) := rfl
  have e2 : Builtin.Slice.slicePlaces ((n : Int) - 1) (-1) (-1) = n := by
    unfold Builtin.Slice.slicePlaces
    simp
    split <;> omega
  show wpAny _ _ (match Builtin.Slice.sliceAdjust none none (-1) (n : Int) with | (lo, hi) => pure (lo, (-1 : Int), Builtin.Slice.slicePlaces lo hi (-1))) _ _ s
  rw [e1]
  show wpAny _ _ (pure ((n : Int) - 1, (-1 : Int), Builtin.Slice.slicePlaces ((n : Int) - 1) (-1) (-1))) _ _ s
  rw [e2]
  exact wpAny_pure h
theorem back_pick (xs : Array Value) : ((List.range xs.size).filterMap fun (k : Nat) => xs[((xs.size : Int) - 1 + (k : Int) * (-1)).toNat]?).toArray = xs.toList.reverse.toArray := by
  congr 1
  have e : ∀ l : List Value, (List.range l.length).filterMap (fun (k : Nat) => l[((l.length : Int) - 1 + (k : Int) * (-1)).toNat]?) = l.reverse := by
    intro l
    have q : (List.range l.length).filterMap (fun (k : Nat) => l[((l.length : Int) - 1 + (k : Int) * (-1)).toNat]?) = (List.range l.length).filterMap (fun k => l.reverse[k]?) := by
      refine fmc fun k hk => ?_
      have lt := List.mem_range.mp hk
      rw [List.getElem?_reverse lt]
      congr 1
      omega
    rw [q]
    have r := fm_get (fun x : Value => x) l.reverse
    simp only [List.length_reverse, List.map_id'] at r
    refine Eq.trans (fmc fun k _ => ?_) r
    cases l.reverse[k]? <;> rfl
  have := e xs.toList
  simpa using this
theorem back_item {t sl : Addr} {items : Array Value} {vl vu vs : Value} {Q : Value → Shared → Prop} (ht : IsTup s.heap t items) (hs : s.heap.IsSliceOf sl vl vu vs) (pl : IsPart vl none) (pu : IsPart vu none) (ps : IsPart vs (some (-1)))
    (h : Q (.ref s.heap.objs.size) { s with heap := s.heap.push { cls := .type "tuple", data := .seq items.toList.reverse.toArray } }) (hsz : items.size ≤ sizeLine) : wpAny (model prog w) A (getItem (.ref t) (.ref sl)) Q E s := by
  have fits : sizeOk (.seq items.toList.reverse.toArray) := by
    show items.toList.reverse.toArray.size ≤ sizeLine
    rw [List.size_toArray, List.length_reverse, Array.length_toList]
    exact hsz
  obtain ⟨os, at_, isS, dat⟩ := id hs
  have kind : s.TypeIs (.ref sl) "slice" := ⟨os, at_, isS⟩
  unfold getItem
  try with_reducible refine wpAny_holding ?_
  first | refine wpAny_bind (wpAny_pure ?_) | skip
  refine wpAny_bind (wpAny_sequenceKey ht.typeIs (by decide) ?_)
  refine wpAny_bind (wpAny_callSpecial?_slot (name := Str.ofString "__getitem__") ht.typeIs PyProof.Rows.slot_tuple_getitem (wpAny_call_entry PyProof.Rows.slot_tuple_getitem ht.typeIs entry_tuple_getitem ?_ (args_tuple_getitem _ _)))
  show wpAny _ _ (Builtin.Tuple.tupleItemsOf (.ref t) >>= _) _ _ s
  refine wpAny_bind (tupleItemsOf_ ht ?_)
  refine wpAny_bind (wpAny_typeOf kind ?_)
  rw [if_pos (by decide)]
  refine wpAny_bind (back_applied hs pl pu ps ?_)
  show wpAny _ _ (if (((items.size : Int) - 1) == 0 && (-1 : Int) == 1 && items.size == items.size) = true then _ else _) _ _ s
  rw [if_neg (by simp), back_pick]
  first
    | exact wpAny_bind (m := Builtin.Tuple.tupleExact _) (wpAny_newObj_type (wpAny_pure ⟨_, rfl, wpAny_pure h⟩) fits)
    | exact wpAny_bind (m := Builtin.Tuple.tupleExact _) (wpAny_newObj_type (wpAny_bind (wpAny_pure (wpAny_pure ⟨_, rfl, wpAny_pure h⟩))) fits)
    | exact wpAny_bind (wpAny_bind (m := Builtin.Tuple.tupleExact _) (wpAny_newObj_type (wpAny_pure (wpAny_pure ⟨_, rfl, wpAny_pure h⟩)) fits))
    | exact wpAny_bind (wpAny_bind (m := Builtin.Tuple.tupleExact _) (wpAny_newObj_type (wpAny_pure ⟨_, rfl, wpAny_pure h⟩) fits))
end
/-- t[::-1] -/
def tBack (K : PySem.W.Frag) (te : TE) : TE := fun σ H Q => te σ H fun x H1 => ∃ a xs, x = .ref a ∧ SqT K H1 a xs ∧ ∀ p, H1 p = none → Q (.ref p) (upd H1 p (.tup xs.reverse))
theorem pe_back {X : Cx} {e : Expr} {te : TE} {k : Nat} {p1 p2 p3 pos : Pos} (he : PE X e te) : PE X (.Subscript e (.Slice none none (some (.UnaryOp .USub (.Constant (.int 1) k p1) p2)) p3) pos) (tBack X.K te) := by
  constructor
  intro pins s σ H Q I h
  refine Subscript_ (thn (he.run pins s σ H _ I h) fun v s1 z => ?_)
  obtain ⟨x, H1, I1, r1, a, xs, rfl, hx, q⟩ := z
  cases r1
  have step : PO X (some (.UnaryOp .USub (.Constant (.int 1) k p1) p2)) (tPart (tUn (rU fun i => .int (-i)) (tC (.int 1)))) := po_some (pe_un un_neg pe_int)
  refine wpAny_Slice (thn (po_none.run pins s1 σ H1 (fun o H2 => o = none ∧ H2 = H1) I1 ⟨rfl, rfl⟩) fun vl s2 z => ?_)
  obtain ⟨l, H2, I2, pl, rfl, rfl⟩ := z
  refine thn (po_none.run pins s2 σ H2 (fun o H3 => o = none ∧ H3 = H2) I2 ⟨rfl, rfl⟩) fun vu s3 z => ?_
  obtain ⟨u, H3, I3, pu, rfl, rfl⟩ := z
  refine thn (step.run pins s3 σ H3 (fun o H4 => o = some (-1) ∧ H4 = H3) I3 ⟨1, rfl, -1, rfl, rfl, rfl⟩) fun vs s4 z => ?_
  obtain ⟨o, H4, I4, ps, rfl, rfl⟩ := z
  have I5 : L2.Inv X pins σ H4 { s4 with heap := s4.heap.push { cls := .type "slice", data := .fields #[vl, vu, vs] } } := I4.kept (t' := s4.toks) fun b ob q => Heap.get?_push_of_some _ q
  obtain ⟨its, r, ht, hz⟩ := I5.tuple hx
  have hlen := r.length
  show wpAny (model X.prog X.w) X.A (subscriptTail e (.Slice none none (some (.UnaryOp .USub (.Constant (.int 1) k p1) p2)) p3) (.ref a) (.ref s4.heap.objs.size)) (EP X pins σ Q) X.xe { s4 with heap := s4.heap.push { cls := .type "slice", data := .fields #[vl, vu, vs] } }
  refine tail_any (ops := [.ref a, .ref s4.heap.objs.size]) ht.typeIs (PyProof.Rows.slot_tuple_getitem.lookup) ?_ (by with_unfolding_all rfl)
  refine back_item ht (Heap.IsSliceOf.new _ vl vu vs) pl pu ps ?_ (by rw [List.size_toArray]; omega)
  refine ⟨.ref _, _, I5.laid (t' := s4.toks) (o := .tup xs.reverse) (fun b ob q => Heap.get?_push_of_some _ q) (Nat.le_refl _) ?_, rfl, q _ (I5.hok.fresh (Nat.le_refl _))⟩
  exact ⟨by rw [List.length_reverse]; exact hz, its.reverse, r.reverse, IsTup.new _ _⟩
/-- t == (), t a tuple of anything -/
def rEqE (K : PySem.W.Frag) : R2 := fun x y H Q => ∃ a b xs, x = .ref a ∧ y = .ref b ∧ SqT K H a xs ∧ SqT K H b [] ∧ Q (.bl xs.isEmpty) H
theorem op_eqE {X : Cx} (hu : X.A.units < cLine) : OpR X (compareOp .Eq) (rEqE X.K) := by
  intro pins s σ H x y v u Q I rx ry h
  obtain ⟨a, b, xs, rfl, rfl, ha, hb, q⟩ := h
  cases rx
  cases ry
  obtain ⟨its, r, p1, _⟩ := I.tuple ha
  obtain ⟨its2, r2, p2, _⟩ := I.tuple hb
  cases r2
  refine SeqAt.eq_tupleAt (e := fun _ => true) p1 p2 hu (fun j h1 h2 => absurd h2 (by simp)) ?_
  have e : ((List.range (min its.toArray.size ([] : List Value).toArray.size)).all (fun _ => true) && its.toArray.size == ([] : List Value).toArray.size) = xs.isEmpty := by
    cases r <;> simp
  rw [e]
  exact ⟨.bl _, H, I, rfl, q⟩
section
variable {K : PySem.W.Frag} {σ : Sg} {H : Hp} {te ta tb tc ti : TE} {tl th : TO} {t : TA} {d r : D} {ds es : List D} {B : Addr → Bool}
theorem mk_eqE (h : Mk K ta σ H (.tup ds)) : Mk K (tOp (rEqE K) ta (tTup tNil)) σ H (.bl ds.isEmpty) := fun H1 s Q q => h H1 s _ fun v H2 s2 a => by
  refine ⟨sz1 (Nat.zero_le _), fun p np => ?_⟩
  cases a with
  | @tup b xs _ e aa =>
    refine ⟨b, p, xs, rfl, rfl, gr_T (same_new np) e, SqT.of upd_same, ?_⟩
    have : xs.isEmpty = ds.isEmpty := by
      have := aa.len
      cases xs <;> cases ds <;> simp_all
    rw [this]
    exact q _ _ (s2.trans (same_new np)) (.bl _)
/-- a part of a slice that is known -/
def MkO (tl : TO) (σ : Sg) (H : Hp) (o : Option Int) : Prop := ∀ H1, Same H H1 → ∀ Q : Option Int → Hp → Prop, (∀ H2, Same H1 H2 → Q o H2) → tl σ H1 Q
theorem mo_no : MkO tNoPart σ H none := fun H1 _ Q q => q H1 Gr.rfl'
theorem mo_int {i : Int} (h : Mk K ta σ H (.int i)) : MkO (tPart ta) σ H (some i) := fun H1 s Q q => h H1 s _ fun v H2 s2 a => by
  cases a
  exact ⟨i, rfl, q H2 s2⟩
def cutD (xs : List D) (lo hi : Option Int) : List D := (xs.drop (HT.sIx xs.length 0 lo)).take (HT.sIx xs.length xs.length hi - HT.sIx xs.length 0 lo)
theorem DtA.drop {vs : List V} : ∀ {ds : List D}, DtA K H vs ds → ∀ n, DtA K H (vs.drop n) (ds.drop n) := by
  induction vs with
  | nil => intro ds h n; cases h; simpa using DtA.nil
  | cons v vs ih =>
    intro ds h n
    cases h with
    | cons a b =>
      cases n with
      | zero => exact .cons a b
      | succ n => exact ih b n
theorem DtA.take {vs : List V} : ∀ {ds : List D}, DtA K H vs ds → ∀ n, DtA K H (vs.take n) (ds.take n) := by
  induction vs with
  | nil => intro ds h n; cases h; simpa using DtA.nil
  | cons v vs ih =>
    intro ds h n
    cases h with
    | cons a b =>
      cases n with
      | zero => exact .nil
      | succ n => exact .cons a (ih b n)
theorem DtA.rev {vs : List V} : ∀ {ds : List D}, DtA K H vs ds → DtA K H vs.reverse ds.reverse := by
  induction vs with
  | nil => intro ds h; cases h; exact .nil
  | cons v vs ih =>
    intro ds h
    cases h with
    | cons a b =>
      rw [List.reverse_cons, List.reverse_cons]
      exact (ih b).app (.cons a .nil)
theorem cut_whole {xs : List D} {lo hi : Option Int} (h : HT.sIx xs.length 0 lo = 0 ∧ HT.sIx xs.length xs.length hi = xs.length) : cutD xs lo hi = xs := by
  unfold cutD
  rw [h.1, h.2]
  simp
/-- the same, apart from what stands in B -/
theorem kb_sl {lo hi : Option Int} (hB : ∀ b, B b = true → H b ≠ none) (h : MkB K B ta σ H (.tup ds)) (hl : MkO tl σ H lo) (hh : MkO th σ H hi) : MkB K B (tSl (rSlA K) ta tl th) σ H (.tup (cutD ds lo hi)) := fun H1 s Q q => h H1 s _ fun v H2 s2 a => hl H2 (s.trans s2) _ fun H3 s3 => hh H3 ((s.trans s2).trans s3) _ fun H4 s4 => by
  have a4 := a.gr (wo_same (s3.trans s4))
  cases a4 with
  | @tup b xs _ e aa =>
    have lx := aa.len
    refine ⟨b, xs, rfl, gr_T wo_le e, fun hw => ?_, fun hw p np => ?_⟩
    · rw [lx] at hw
      rw [cut_whole hw] at q
      exact q _ _ ((s2.trans s3).trans s4) (.tup e aa)
    · have sa := (s2.trans s3).trans s4
      refine q _ _ (sa.trans (same_new np)) (.tup (SqT.of (by rw [wo_at (apart hB (s.trans sa) np), upd_same])) ?_)
      have := ((aa.drop (HT.sIx xs.length 0 lo)).take (HT.sIx xs.length xs.length hi - HT.sIx xs.length 0 lo)).gr (wo_same (B := B) (same_new (o := .tup (cutV xs lo hi)) np))
      unfold cutD
      rw [lx] at this
      unfold cutV at this ⊢
      rw [lx] at this ⊢
      exact this
theorem kb_catA (hB : ∀ b, B b = true → H b ≠ none) (h : MkB K B ta σ H (.tup ds)) (h2 : MkB K B tb σ H (.tup es)) (z : ds.length + es.length ≤ 100000) : MkB K B (tOp (rCatA K) ta tb) σ H (.tup (ds ++ es)) := fun H1 s Q q => h H1 s _ fun v H2 s2 a => h2 H2 (s.trans s2) _ fun u H3 s3 c => by
  have a3 := a.gr (wo_same s3)
  cases a3 with
  | @tup p xs _ e aa =>
  cases c with
  | @tup r ys _ e2 cc =>
    have lx := aa.len
    have ly := cc.len
    refine ⟨p, r, xs, ys, rfl, rfl, gr_T wo_le e, gr_T wo_le e2, by rw [lx, ly]; exact sz1 z, fun hx => ?_, fun hx hy => ?_, fun hx hy w nw => ?_⟩
    · subst hx
      cases aa
      exact q _ _ (s2.trans s3) (.tup e2 cc)
    · subst hy
      cases cc
      rw [List.append_nil] at q
      exact q _ _ (s2.trans s3) (.tup e aa)
    · exact q _ _ ((s2.trans s3).trans (same_new nw)) (.tup (SqT.of (by rw [wo_at (apart hB ((s.trans s2).trans s3) nw), upd_same])) ((aa.app cc).gr (wo_same (same_new nw))))
theorem kb_back (hB : ∀ b, B b = true → H b ≠ none) (h : MkB K B ta σ H (.tup ds)) : MkB K B (tBack K ta) σ H (.tup ds.reverse) := fun H1 s Q q => h H1 s _ fun v H2 s2 a => by
  cases a with
  | @tup p xs _ e aa => exact ⟨p, xs, rfl, gr_T wo_le e, fun w nw => q _ _ (s2.trans (same_new nw)) (.tup (SqT.of (by rw [wo_at (apart hB (s.trans s2) nw), upd_same])) (aa.rev.gr (wo_same (same_new nw))))⟩
theorem kb_listT (hB : ∀ b, B b = true → H b ≠ none) (h : MkB K B ta σ H (.tup ds)) : MkB K B (tCB (fun xs H Q => ∃ p ys, xs = [.ref p] ∧ (SqL K H p ys ∨ SqT K H p ys) ∧ ∀ l, H l = none → Q (.ref l) (upd H l (.lst ys))) (tCons ta tNil)) σ H (.lst ds) := fun H1 s Q q => h H1 s _ fun v H2 s2 a => by
  cases a with
  | @tup p xs ds e aa => exact ⟨p, xs, rfl, Or.inr (gr_T wo_le e), fun l nl => q _ _ (s2.trans (same_new nl)) (.lst (by rw [wo_at (apart hB (s.trans s2) nl), upd_same]) (aa.gr (wo_same (same_new nl))))⟩
theorem kb_ixT {i : Nat} (h : MkB K B ta σ H (.tup ds)) (h2 : MkB K B tb σ H (.int (i : Int))) (e : ds[i]? = some d) : MkB K B (tOp (rIxT K) ta tb) σ H d := fun H1 s Q q => h H1 s _ fun v H2 s2 a => h2 H2 (s.trans s2) _ fun u H3 s3 b => by
  cases b
  have a3 := a.gr (wo_same s3)
  cases a3 with
  | @tup p xs _ el aa =>
    obtain ⟨x, hx, ax⟩ := aa.nth e
    exact ⟨p, xs, (i : Int), x, rfl, rfl, gr_T wo_le el, atI_nat hx, q x _ (s2.trans s3) ax⟩
theorem MkB.mk (h : MkB K B ta σ H d) : Mk K ta σ H d := fun H1 s Q q => h H1 s _ fun v H2 s2 a => q v H2 s2 (a.gr wo_le)
theorem mkb0 (h : Mk K ta σ H d) : MkB K (fun _ => false) ta σ H d := fun H1 s Q q => h H1 s _ fun v H2 s2 a => q v H2 s2 (a.gr fun b o e => by unfold wo; rw [if_neg (by simp)]; exact e)
theorem no0 : ∀ b : Addr, (fun _ : Addr => false) b = true → H b ≠ none := fun b z => by cases z
theorem mk_sl {lo hi : Option Int} (h : Mk K ta σ H (.tup ds)) (hl : MkO tl σ H lo) (hh : MkO th σ H hi) : Mk K (tSl (rSlA K) ta tl th) σ H (.tup (cutD ds lo hi)) := (kb_sl no0 (mkb0 h) hl hh).mk
theorem mk_catA (h : Mk K ta σ H (.tup ds)) (h2 : Mk K tb σ H (.tup es)) (z : ds.length + es.length ≤ 100000) : Mk K (tOp (rCatA K) ta tb) σ H (.tup (ds ++ es)) := (kb_catA no0 (mkb0 h) (mkb0 h2) z).mk
theorem mk_repT {k : Int} (h : Mk K ta σ H (.tup ds)) (h2 : Mk K tb σ H (.int k)) (ne : ds ≠ []) (k2 : 2 ≤ k) (k1 : k ≤ 1000) (z : ds.length ≤ 1000) : Mk K (tOp (rRepT K) ta tb) σ H (.tup (List.replicate k.toNat ds).flatten) := fun H1 s Q q => h H1 s _ fun v H2 s2 a => h2 H2 (s.trans s2) _ fun u H3 s3 b => by
  cases b
  cases a with
  | @tup p xs _ e aa =>
    have lx := aa.len
    refine ⟨p, k, xs, rfl, rfl, gr_T s3 e, fun x => ne ?_, k2, k1, by omega, fun w nw => ?_⟩
    · subst x; cases aa; rfl
    · exact q _ _ ((s2.trans s3).trans (same_new nw)) (.tup (SqT.of upd_same) (DtA.gr ((s3).trans (same_new nw)) (aa.rep k.toNat)))
end
end TSx

/-! Own layer, part T2: more readings over data. -/
namespace TSx
open PySem L2
/-- int(k), k a bool -/
def rIntB : List V → Hp → VK → Prop := fun xs H Q => ∃ k, xs = [.bl k] ∧ Q (.int (if k then 1 else 0)) H
theorem call_intB {X : Cx} : CallR X (.type "int") rIntB := fun pins s σ H xs us Q I r h => by
  obtain ⟨i, e, q⟩ := h
  exact call_int1 pins s σ H xs us Q I r (Or.inr ⟨i, e, q⟩)
section
variable {K : PySem.W.Frag} {σ : Sg} {H : Hp} {te ta tb tc ti : TE} {tt uu : TT} {t : TA} {d r : D} {ds es : List D} {B : Addr → Bool}
theorem mk_intB {k : Bool} (h : Mk K ta σ H (.bl k)) : Mk K (tCB rIntB (tCons ta tNil)) σ H (.int (if k then 1 else 0)) := fun H1 s Q q => h H1 s _ fun v H2 s2 a => by
  cases a
  exact ⟨k, rfl, q _ H2 s2 (.int _)⟩
theorem mk_intI {i : Int} (h : Mk K ta σ H (.int i)) : Mk K (tCB rInt (tCons ta tNil)) σ H (.int i) := fun H1 s Q q => h H1 s _ fun v H2 s2 a => by
  cases a
  exact ⟨i, rfl, q _ H2 s2 (.int _)⟩
theorem mk_notInT {x : Str} {ws : List Str} (h : Mk K ta σ H (.str x)) (h2 : Mk K tb σ H (.tup (ws.map D.str))) : Mk K (tOp (rIn K true) ta tb) σ H (.bl (!ws.any fun y => y == x)) := fun H1 s Q q => h H1 s _ fun v H2 s2 a => h2 H2 (s.trans s2) _ fun u H3 s3 b => by
  cases a
  cases b with
  | @tup p xs _ e aa =>
    obtain ⟨h3, h4⟩ := inV_str x aa
    refine ⟨p, xs, rfl, Or.inr e, rfl, h4, ?_⟩
    rw [if_pos rfl, h3]
    exact q _ H3 (s2.trans s3) (.bl _)
/-- [x] * int(b) -/
theorem mk_rep1 {b : Bool} (h : Mk K ta σ H d) (h2 : Mk K tb σ H (.bl b)) : Mk K (tOp rRep (tLst (tCons ta tNil)) (tCB rIntB (tCons tb tNil))) σ H (.lst (if b then [d] else [])) := by
  have q := mk_rep (K := K) (mk_lst (mka_cons h mka_nil) (show 1 ≤ 100000 by decide)) (mk_intB h2) (by cases b <;> decide) (by cases b <;> decide) (show 1 ≤ 100 by decide)
  have e : (List.replicate (if b = true then (1 : Int) else 0).toNat [d]).flatten = (if b = true then [d] else []) := by cases b <;> rfl
  rw [e] at q
  exact q
/-- while, the test known -/
theorem while_mk {c : TT} {tb : TS} {D : Ends} {σ : Sg} {H : Hp} (Pv : Sg → Hp → Prop) (μ : Sg → Hp → Nat) (b : Sg → Hp → Bool) (h0 : Pv σ H) (ht : ∀ σ H, Pv σ H → MkT c σ H (b σ H))
    (hs : ∀ σ H H1, Pv σ H → Same H H1 → b σ H = true → tb { D with nx := fun σ' H' => Pv σ' H' ∧ μ σ' H' < μ σ H, ct := fun σ' H' => Pv σ' H' ∧ μ σ' H' < μ σ H, bk := D.nx } σ H1)
    (hd : ∀ σ H H1, Pv σ H → Same H H1 → b σ H = false → D.nx σ H1) : tWhile c tb D σ H := by
  refine ⟨fun m σ H => m = μ σ H ∧ Pv σ H, ⟨_, rfl, h0⟩, ?_⟩
  rintro m σ H ⟨rfl, p⟩
  refine ht σ H p H Gr.rfl' _ fun H1 s1 => ?_
  cases e : b σ H with
  | true =>
    rw [if_pos rfl]
    exact ⟨fun σ' H' => Pv σ' H' ∧ μ σ' H' < μ σ H, fun σ' H' q => ⟨_, q.2, rfl, q.1⟩, hs σ H H1 p s1 e⟩
  | false =>
    rw [if_neg (by decide)]
    exact hd σ H H1 p s1 e
theorem fm_bind {α β : Type} (f : α → Option β) : ∀ l : List α, (List.range l.length).filterMap (fun k => (l[k]?).bind f) = l.filterMap f
  | [] => rfl
  | a :: l => by
    rw [List.length_cons, List.range_succ_eq_map, List.filterMap_cons, List.filterMap_map]
    have ih := fm_bind f l
    have e : (List.range l.length).filterMap ((fun k => ((a :: l)[k]?).bind f) ∘ Nat.succ) = (List.range l.length).filterMap (fun k => (l[k]?).bind f) := rfl
    rw [e, ih, List.filterMap_cons]
    rfl
/-- [e for x in list if t], the things made without parts -/
theorem mk_lcFL {i : Nat} {f : D → Option D} (h : ∀ H1, Same H H1 → Ev K ti σ H1 (.lst ds)) (sc : ∀ d ∈ ds, ∀ x, f d = some x → x.sc = true) (hl : ds.length ≤ 1000)
    (step : ∀ d ∈ ds, ∀ x H1, Same H H1 → Dt K H1 x d → (∀ y, f d = some y → MkT tt ((σ.set i none).set i (some x)) H1 true ∧ Mk K te ((σ.set i none).set i (some x)) H1 y) ∧ (f d = none → MkT tt ((σ.set i none).set i (some x)) H1 false)) :
    Mk K (tLc (iList K ti) (gName i) tt te [i]) σ H (.lst (ds.filterMap f)) := fun H1 s Q q => by
  obtain ⟨v, a, k⟩ := h H1 s
  refine k _ ?_
  cases a with
  | @lst p xs _ e aa =>
    have lx := aa.len
    refine ⟨p, rfl, ⟨xs, SqL.of e⟩, fun L nL => lc_flat (K := K) (walk_list (K := K) (a := p) (xs := xs)) (fun k => (ds[k]?).bind f) (fun k d hk => ?_) nL (fun H' s' => SqL.of (s' _ _ e)) (by omega) ?_ ?_⟩
    · cases hd : ds[k]? with
      | none => rw [hd] at hk; cases hk
      | some y => rw [hd] at hk; exact sc y (List.mem_of_getElem? hd) d hk
    · rintro k x H' H'' hk s' ⟨rfl, hx⟩
      obtain ⟨y, hy, ay⟩ := aa.at hx
      obtain ⟨z1, z2⟩ := step y (List.mem_of_getElem? hy) x _ (s.trans s') (ay.gr s')
      refine ⟨Gr.rfl', fun R r => r_name (r _ ?_ (fun d hd => ?_) fun hd => ?_)⟩
      · show ((σ.set i none).set i (some x)).set i none = σ.set i none
        rw [List.set_set, List.set_set]
      · rw [hy] at hd
        exact z1 d hd
      · rw [hy] at hd
        exact z2 hd
    · intro H' ys s' e' a'
      refine q _ _ s' (.lst e' ?_)
      rw [lx, fm_bind] at a'
      exact a'
/-- [k for k in range(n) if t] -/
theorem mk_lcRF {i n : Nat} {p : Nat → Bool} (hi : i < σ.length) (hn : Mk K ta σ H (.int (n : Int))) (hz : n ≤ 1000) (step : ∀ k, k < n → ∀ H1, Same H H1 → MkT tt ((σ.set i none).set i (some (.int (k : Int)))) H1 (p k)) :
    Mk K (tLc (iRng1 (tCons ta tNil)) (gName i) tt (tVar i) [i]) σ H (.lst (((List.range n).filter p).map fun k => .int (k : Nat))) := fun H1 s Q q => hn H1 s _ fun v H2 s2 a => by
  cases a
  refine ⟨(n : Int), rfl, by omega, by omega, fun L nL => ?_⟩
  have st : ((n : Int)).toNat = n := by omega
  rw [st]
  refine lc_flat (K := K) (walk_range (lo := 0) (n := n)) (fun k => if k < n then (if p k then some (.int (k : Nat)) else none) else none) (fun k d hk => ?_) nL (fun _ _ => trivial) hz ?_ ?_
  · split at hk
    · split at hk
      · cases hk; rfl
      · cases hk
    · cases hk
  · rintro k x H' H'' hk s' ⟨rfl, rfl⟩
    have st := step k hk H'' ((s.trans s2).trans s')
    have z0 : ((fun i : Nat => V.int (0 + (i : Int))) k) = V.int (k : Int) := by show V.int (0 + (k : Int)) = _; rw [Int.zero_add]
    rw [z0]
    refine ⟨Gr.rfl', fun R r => r_name (r _ ?_ (fun d hd => ?_) fun hd => ?_)⟩
    · show ((σ.set i none).set i (some _)).set i none = σ.set i none
      rw [List.set_set, List.set_set]
    · rw [if_pos hk] at hd
      cases e : p k with
      | false => rw [e] at hd; cases hd
      | true =>
        rw [e] at hd
        cases hd
        rw [e] at st
        exact ⟨st, mk_var (by show ((σ.set i none).set i _)[i]? = _; rw [List.set_set]; exact List.getElem?_set_self hi) (.int _)⟩
    · rw [if_pos hk] at hd
      cases e : p k with
      | true => rw [e] at hd; cases hd
      | false => rw [e] at st; exact st
  · intro H' ys s' e' a'
    refine q _ _ (s2.trans s') (.lst e' ?_)
    have : (List.range n).filterMap (fun k => if k < n then (if p k then some (D.int (k : Nat)) else none) else none) = ((List.range n).filter p).map fun k => .int (k : Nat) := by
      rw [← List.filterMap_eq_map, List.filterMap_filter]
      refine fmc fun k hk => ?_
      rw [if_pos (List.mem_range.mp hk)]
      rfl
    rw [this] at a'
    exact a'
end
end TSx

/-! Own layer, part M1: a lambda, with one written default or none, handed to a def that calls it. -/
namespace TSx
open PySem L2 PySem.Spec PyProof.Rows LamX
/-- the words of a lambda: its default, if it has one, is a written int of a name of its own -/
structure LW where
  params : Arguments
  body : Expr
  scope : Scope
  dflt : Option (Str × Int)
/-- how its call without arguments binds -/
structure LW.Ok (l : LW) (N : List Str) (sc : Scope) : Prop where
  kind : l.scope.kind = .function
  co : l.scope.isCoroutine = false
  gen : l.scope.isGenerator = false
  cell : ∀ y ∈ l.scope.names, y.2 ≠ .cell
  loc : ∀ y, l.scope.names.lookup y = some .local → y ∉ N
  free : ∀ y ∈ l.scope.names, y.2 = .free → sc.names.lookup y.1 = some .cell ∨ sc.names.lookup y.1 = some .free
  kwd : l.params.kw_defaults = []
  dfl : match l.dflt with
    | none => l.params.defaults = [] ∧ ∀ fd : FuncData, fd.params = l.params → fd.defaults = .none → bindArgs fd ⟨[], []⟩ = pure []
    | some (x, i) => (∃ k p, l.params.defaults = [.Constant (.int i) k p]) ∧ l.scope.names.lookup x = some .local ∧
        ∀ fd : FuncData, fd.params = l.params → ∃ kk, bindArgs fd ⟨[], []⟩ = seqItems? fd.defaults >>= kk ∧ ∀ u : Value, kk (some #[u]) = pure [(x, u)]
/-- what is known of its default's place: a tuple of it -/
def LW.Dv (l : LW) (H : Hp) (dV : Value) : Prop := match l.dflt with
  | none => dV = .none
  | some (_, i) => ∃ t : Addr, dV = .ref t ∧ H t = some (.tup [.int i])
theorem LW.Dv.ext {l : LW} {H H' : Hp} {dV : Value} (d : l.Dv H dV) (e : ExtN H H') : l.Dv H' dV := by
  unfold LW.Dv at d ⊢
  cases q : l.dflt with
  | none => rw [q] at d; exact d
  | some p =>
    rw [q] at d
    obtain ⟨t, h1, h2⟩ := d
    exact ⟨t, h1, e _ _ h2 (fun _ z => by cases z)⟩
abbrev LW.obj (l : LW) (q : Str) (cl : List (Str × Addr)) (dV doc pm : Value) (c' : Addr) (ctv : Value) : Obj := PySem.W.kdv_obj "<lambda>" q l.params (.expr l.body) l.scope cl dV doc pm c' ctv
section
variable {X : Cx} {pins : List (Addr × Obj)} {σ : Sg} {H : Hp} {s : Shared} {l : LW}
/-- what the maker knows behind the making -/
def LamAt (X : Cx) (l : LW) (H : Hp) (h : Heap) (f c' : Addr) : Prop := ∃ dV doc pm ctv, l.Dv H dV ∧ h.get? f = some (l.obj (X.env.qual ++ "<lambda>") (cloFrom X.env.cells l.scope.names []) dV doc pm c' ctv) ∧ H f = none ∧ f ∉ frs X.stack ∧ H c' = some (CodeO c' (X.env.qual ++ "<lambda>"))
theorem lam_tail {T : List (Addr × Str)} {c P : Addr} {dV : Value} {pos : Pos} {E : Value → Shared → Prop} {Q : Value → Shared → Prop} (I : L2.Inv X pins σ H s) (TB : TabB X.base X.mg c P) (hcode : X.env.code = .ref c)
    (hm : (P, X.env.qual ++ "<lambda>") ∈ T) (hu : ∀ p ∈ T, p.1 = P → p.2 = X.env.qual ++ "<lambda>") (hT : Tabs T H) (hfree : ∀ y ∈ l.scope.names, y.2 = .free → ∃ c, X.env.cells.lookup y.1 = some c) (hd : l.Dv H dV)
    (h : ∀ (f c' : Addr) (H1 : Hp) (s' : Shared), L2.Inv X pins σ H1 s' → ExtN H H1 → Tabs T H1 → LamAt X l H1 s'.heap f c' → Q (.ref f) s') :
    wpAny (model X.prog X.w) X.A (makeTail "<lambda>" (X.env.qual ++ "<lambda>") l.params (.expr l.body) l.scope X.env dV .none none pos pos.line) Q E s := by
  obtain ⟨ps, hP, tr, am⟩ := hT _ hm
  have bP : s.heap.BuiltinsAt X.mg P := TB.bm.keeps I.bk
  have atP : s.heap.get? P = some (PySem.W.tabObj ps) := I.hok P _ hP
  have away : ∀ f, s.heap.objs.size ≤ f → f ∉ frs X.stack := fun f hf z => by
    rcases List.mem_cons.mp (I.stkSub _ z) with e | e
    · have low := I.lt
      rw [← e] at low
      exact absurd (Nat.lt_of_lt_of_le low hf) (Nat.lt_irrefl _)
    · exact I.nofs hf e
  cases hit : codeAmong pos ps.toList with
  | some cv =>
    obtain ⟨c', rfl, known⟩ := am pos cv hit
    refine PySem.W.kdv_makeTailHit (mg := X.mg) (c := c) (P := P) (ps := ps) (closure_ok hfree) I.ok.glob (I.mod.glob.keeps I.bk) hcode (TB.code.keeps I.bk) atP tr hit bP fun ctv doc h' tk grows big => ?_
    have J : L2.Inv X pins σ H { s with heap := h'.push (l.obj (X.env.qual ++ "<lambda>") (cloFrom X.env.cells l.scope.names []) dV doc ((X.mg "__name__").getD .none) c' ctv), toks := tk } := I.kept fun b o e => Heap.get?_push_of_some _ (grows b o e)
    exact h h'.objs.size c' H _ J (ExtN.refl H) hT ⟨dV, doc, _, ctv, hd, Heap.get?_push_size _ rfl, I.hok.fresh big, away _ big, known⟩
  | none =>
    refine PySem.W.kdv_makeTail (mg := X.mg) (c := c) (P := P) (ps := ps) (closure_ok hfree) I.ok.glob (I.mod.glob.keeps I.bk) hcode (TB.code.keeps I.bk) atP tr hit TB.gP bP fun c' ctv doc h' tk grows low less rec_ atP2 => ?_
    obtain ⟨c2, oc, vs, t, e2, hoc, hdat, hname⟩ := rec_
    cases e2
    have big : s.heap.objs.size ≤ h'.objs.size := Nat.le_trans low (Nat.le_of_lt less)
    have newC : H c' = none := I.hok.fresh low
    have J := inv_table (t' := tk) (more := #[rawInt pos.line, rawInt pos.col, .ref c']) (q := X.env.qual ++ "<lambda>") (h' := h'.push (l.obj (X.env.qual ++ "<lambda>") (cloFrom X.env.cells l.scope.names []) dV doc ((X.mg "__name__").getD .none) c' ctv)) I hP
      (fun b o hb e => Heap.get?_push_of_some _ (grows b o hb e)) (Heap.get?_push_of_some _ atP2) low ⟨oc, vs, t, Heap.get?_push_of_some _ hoc, hdat, hname⟩
    have ext : ExtN H (upd (upd H P (.tbl (ps ++ #[rawInt pos.line, rawInt pos.col, .ref c']))) c' (CodeO c' (X.env.qual ++ "<lambda>"))) := fun b o e n => by
      have nP : b ≠ P := fun z => n ps (Option.some.inj (e.symm.trans (by rw [z]; exact hP)))
      rw [upd_ne (ne_of_none e newC), upd_ne nP]
      exact e
    have asL : (ps ++ #[rawInt pos.line, rawInt pos.col, .ref c']).toList = ps.toList ++ [rawInt pos.line, rawInt pos.col, .ref c'] := by simp
    have nf1 : h'.objs.size ≠ c' := Nat.ne_of_gt less
    have nf2 : h'.objs.size ≠ P := Nat.ne_of_gt (Nat.lt_of_lt_of_le (Heap.lt_size atP) big)
    refine h h'.objs.size c' _ _ J ext (fun p hp => ?_) ⟨dV, doc, _, ctv, hd.ext ext, Heap.get?_push_size _ rfl, by rw [upd_ne nf1, upd_ne nf2]; exact I.hok.fresh big, away _ big, upd_same⟩
    by_cases at_ : p.1 = P
    · rw [hu p hp at_, at_]
      refine ⟨_, by rw [upd_ne (ne_of_none hP newC), upd_same], by rw [asL]; exact PySem.TriplesOk_snoc _ _ _ _ tr, fun p' cv look => ?_⟩
      rw [asL] at look
      rcases among_app _ tr look with z | z
      · obtain ⟨c0, e1, e2⟩ := am p' cv z
        exact ⟨c0, e1, ext _ _ e2 codeO_ne⟩
      · exact ⟨c', z, upd_same⟩
    · obtain ⟨qs, a1, a2, a3⟩ := hT p hp
      refine ⟨qs, by rw [upd_ne (ne_of_none a1 newC), upd_ne at_]; exact a1, a2, fun p' cv look => ?_⟩
      obtain ⟨c0, e1, e2⟩ := a3 p' cv look
      exact ⟨c0, e1, ext _ _ e2 codeO_ne⟩
/-- the lambda is made -/
theorem lam_mk {T : List (Addr × Str)} {c P : Addr} {pos : Pos} {E : Value → Shared → Prop} {Q : Value → Shared → Prop} (I : L2.Inv X pins σ H s) (L : l.Ok X.N X.env.scope) (TB : TabB X.base X.mg c P) (hcode : X.env.code = .ref c)
    (hm : (P, X.env.qual ++ "<lambda>") ∈ T) (hu : ∀ p ∈ T, p.1 = P → p.2 = X.env.qual ++ "<lambda>") (hT : Tabs T H)
    (h : ∀ (f c' : Addr) (H1 : Hp) (s' : Shared), L2.Inv X pins σ H1 s' → ExtN H H1 → Tabs T H1 → LamAt X l H1 s'.heap f c' → Q (.ref f) s') :
    wpAny (model X.prog X.w) X.A (eval (.Lambda l.params l.body l.scope pos) X.env) Q E s := by
  have hfree : ∀ y ∈ l.scope.names, y.2 = .free → ∃ c, X.env.cells.lookup y.1 = some c := fun y hy e => by
    rcases L.free y hy e with k | k
    · exact I.ok.has _ (.inl k)
    · exact I.ok.has _ (.inr k)
  have dfl := L.dfl
  cases q : l.dflt with
  | none =>
    rw [q] at dfl
    have none_ : defaultsOf l.params X.env = ([], []) := by rw [defaultsOf_eq, L.kwd, dfl.1]; rfl
    refine PySem.W.kla_eval none_ ?_
    rw [makeFunction_eq]
    simp only [List.zip_nil_right, List.filterMap_nil, List.isEmpty_nil, if_true, pure_bind]
    exact lam_tail I TB hcode hm hu hT hfree (by unfold LW.Dv; rw [q]) h
  | some xi =>
    obtain ⟨x, i⟩ := xi
    rw [q] at dfl
    obtain ⟨⟨k, p, e1⟩, _, _⟩ := dfl
    refine PySem.W.kdv_lam (by rw [e1]; rfl) L.kwd ?_
    rw [e1]
    refine PySem.W.kdv_all1 (wpAny_Constant_int (PySem.W.kdv_all0 ?_))
    rw [makeFunction_eq]
    simp only [List.zip_nil_right, List.filterMap_nil, List.isEmpty_nil, List.isEmpty_cons, Bool.false_eq_true, if_false, if_true, pure_bind]
    refine wpAny_bind (wpAny_newTextTuple ?_)
    have I1 := I.tok (s.toks + 1)
    have I2 := Inv.laid (a := s.heap.objs.size) (o := .tup [.int i]) (t' := s.toks + 1) I (h' := s.heap.push { cls := .type "tuple", data := .seq [Value.int i s.toks].toArray }) (fun b u e => Heap.get?_push_of_some _ e) (Nat.le_refl _)
      ⟨(show 1 ≤ sizeLine by decide), [Value.int i s.toks], .cons ⟨_, rfl⟩ .nil, _, Heap.get?_push_size _ rfl, rfl, 0, rfl⟩
    have new : H s.heap.objs.size = none := I.hok.fresh (Nat.le_refl _)
    have ext : ExtN H (upd H s.heap.objs.size (.tup [.int i])) := fun b o e n => by rw [upd_ne (ne_of_none e new)]; exact e
    refine lam_tail I2 TB hcode hm hu (Tabs.ext hT fun b o e => by rw [upd_ne (ne_of_none e new)]; exact e) hfree (by unfold LW.Dv; rw [q]; exact ⟨_, rfl, upd_same⟩) fun f c' H1 s' J e2 T2 at_ => h f c' H1 s' J (ext.trans e2) T2 at_
end
end TSx

/-! Own layer, part M2: a lambda is called by the def that got it. -/
namespace TSx
open PySem L2 PySem.Spec PyProof.Rows LamX
section
variable {X : Cx} {pins : List (Addr × Obj)} {σ : Sg} {H HZ : Hp} {s s1 : Shared} {l : LW}
theorem LW.Ok.has (L : l.Ok X.N X.env.scope) (ok : X.Ok) : ∀ y ∈ l.scope.names, y.2 = .free → ∃ c, X.env.cells.lookup y.1 = some c := fun y hy e => by
  rcases L.free y hy e with k | k
  · exact ok.has _ (.inl k)
  · exact ok.has _ (.inr k)
/-- at the lambda's entry -/
theorem lam_in {A : Around} {outer : List Env} {E : XK} {f c' : Addr} {h₁ : Heap} {tk : Nat} {bs : List (Str × Value)} (I : L2.Inv X pins σ H s) (L : l.Ok X.N X.env.scope) (e0 : Env0 X.prog X.w X.K X.mg X.base A outer s1 HZ) (hd : A.handled = none)
    (un : Un (frs X.stack) [] H HZ s.heap s1.heap) (hns : h₁.Ns s1.heap.objs.size fun y => bs.reverse.lookup y) (kp : ∀ b o, s1.heap.get? b = some o → h₁.get? b = some o) :
    L2.Inv (lamCx X A outer s1 HZ E l.scope f c') [] σ HZ { s1 with heap := h₁, toks := tk } := by
  have hfree := L.has I.ok
  have same : ∀ {y c}, (cloFrom X.env.cells l.scope.names []).lookup y = some c → X.env.cells.lookup y = some c := fun {y c} e => by
    rcases cloFrom_mem (PySem.mem_of_lookup e) with hm | ⟨h1, h2⟩
    · cases hm
    · obtain ⟨c1, hc⟩ := hfree _ h1 rfl
      have hc : X.env.cells.lookup y = some c1 := hc
      have : c = c1 := by rw [h2, hc] <;> rfl
      rw [this]; exact hc
  have found : ∀ {y}, l.scope.names.lookup y = some .free → ∃ c, (cloFrom X.env.cells l.scope.names []).lookup y = some c := fun {y} hl =>
    mem_lookup (cloFrom_has (cells := X.env.cells) (acc := []) (show (y, NameKind.free) ∈ l.scope.names from PySem.mem_of_lookup hl))
  have cellK : ∀ {c : Addr} {v : Option Value}, H c = none → s.heap.IsCell c v → h₁.IsCell c v := fun {c v} n ⟨o, ho, hd⟩ => by
    obtain ⟨sl, q⟩ := un.any ho n (by simp)
    exact ⟨_, kp _ _ q, hd⟩
  have noA : ∀ b : Addr, b ∉ (lamCx X A outer s1 HZ E l.scope f c').ex := fun b z => absurd (show b ∈ ([] : List Addr) from z) (by simp)
  have seen : ∀ (i : Nat) (y : Str) (v : V), X.N[i]? = some y → σ[i]? = some (some v) → Vis l.scope y → ∃ u, L2.RelV v u ∧ Look (lamEnv X l.scope s1.heap.objs.size f c') h₁ (fun y => bs.reverse.lookup y) y u := fun i y v e1 e2 vis => by
    rcases vis with k | k | k
    · exact absurd (List.mem_of_getElem? e1) (L.loc y k)
    · exact absurd rfl (L.cell _ (PySem.mem_of_lookup k))
    · obtain ⟨m, hn, hl⟩ := I.loc
      have hvis : Vis X.env.scope y := (L.free _ (PySem.mem_of_lookup k) rfl).elim (fun k => .inr (.inl k)) (fun k => .inr (.inr k))
      obtain ⟨w', r, q⟩ := hl i y v e1 e2 hvis
      obtain ⟨c2, h2⟩ := found k
      refine ⟨w', r, .inr ⟨.inr k, c2, h2, ?_⟩⟩
      have c1 := same h2
      rcases q with ⟨k', _⟩ | ⟨_, c3, e', z⟩
      · have k' : X.env.scope.names.lookup y = some .local := k'
        rcases L.free _ (PySem.mem_of_lookup k) rfl with k2 | k2 <;> rw [show X.env.scope.names.lookup y = _ from k2] at k' <;> cases k'
      · rw [c1] at e'
        cases e'
        exact cellK (I.freeC y _ c1) z
  have ok : (lamCx X A outer s1 HZ E l.scope f c').Ok := by
    refine ⟨e0.mod, L.kind, rfl, rfl, Nat.le_refl _, fun y z c e1 e2 => I.ok.inj y z c (same e1) (same e2), fun y hy => ?_, fun y c z _ => ?_, fun _ => hd, Around.frames_deeper e0.frames, .inr ⟨rfl, rfl⟩, fun b z => absurd z (noA b), e0.bs, e0.bsz, fun b _ _ => noA b,
      fun b z => absurd z (noA b), e0.funs, e0.frf⟩
    · rcases (show l.scope.names.lookup y = some .cell ∨ l.scope.names.lookup y = some .free from hy) with hy | hy
      · exact absurd rfl (L.cell _ (PySem.mem_of_lookup hy))
      · exact found hy
    · have z : false = true := z
      cases z
  refine ⟨ok, rfl, e0.bare, Un.kept kp, ⟨_, hns, seen⟩, fun y c e => ?_, e0.hok.fresh (Nat.le_refl _), fun y c e => ?_, fun q hq => absurd (show q ∈ ([] : List (Addr × Obj)) ++ [] from hq) (by simp), e0.hok.kept kp, I.len⟩
  · obtain ⟨w', z⟩ := I.cell y c (same e)
    exact ⟨w', cellK (I.freeC y c (same e)) z⟩
  · obtain ⟨v, o, ho, hd⟩ := I.cell y c (same e)
    exact un.free c o ho (I.freeC y c (same e)) (by simp)
/-- what the called def must keep of it -/
def Kn (X : Cx) (l : LW) (c' : Addr) (dV : Value) (HZ : Hp) : Prop := HZ c' = some (CodeO c' (X.env.qual ++ "<lambda>")) ∧ l.Dv HZ dV
theorem Kn.ext {c' : Addr} {dV : Value} {H H' : Hp} (k : Kn X l c' dV H) (e : ExtN H H') : Kn X l c' dV H' := ⟨e _ _ k.1 codeO_ne, k.2.ext e⟩
/-- a() in the def that got the lambda -/
theorem pe_act {CXg : CXT} {Eg : XK} {Ng : List Str} {qg : Str} {sg : Scope} {g f c' : Addr} {cdg dV doc pm ctv : Value} {k i : Nat} {a : Str} {pn : List (Addr × Obj)} {xe : Value → Shared → Prop} {W : WX} {tb : XK → TE} {p1 p2 : Pos}
    (I : L2.Inv X pins σ H s) (L : l.Ok X.N X.env.scope) (hf : s.heap.get? f = some (l.obj (X.env.qual ++ "<lambda>") (cloFrom X.env.cells l.scope.names []) dV doc pm c' ctv)) (hfn : H f = none) (hfr : f ∉ frs X.stack)
    (tk : Takes ((cxOf CXg X.prog X.w X.K X.mg X.base Ng qg sg g cdg X.A X.stack s H Eg).tr pn xe) W) (hr : Room (k + 1) (X.A.deeper (envOfC qg sg s.heap.objs.size g cdg)))
    (hbody : ∀ (A : Around) (outer : List Env) (s : Shared) (H : Hp) (E : XK), Room k (A.deeper (lamEnv X l.scope s.heap.objs.size f c')) → PE (lamCx X A outer s H E l.scope f c') l.body (tb E))
    (hN : Ng[i]? = some a) (hv : Vis sg a) (hd : (a == ("__debug__" : Str)) = false := by decide) (hcd : (a == ("__classdict__" : Str)) = false := by decide) :
    PE ((cxOf CXg X.prog X.w X.K X.mg X.base Ng qg sg g cdg X.A X.stack s H Eg).tr pn xe) (.Call (.Name a p1) [] [] p2)
      (fun σZ HZ Q => σZ[i]? = some (some (.ref f)) ∧ Kn X l c' dV HZ ∧ tb (WE W σZ) σ HZ Q) := by
  constructor
  intro pinsZ sZ σZ HZ Q IZ h
  obtain ⟨at_, ⟨hc, dv⟩, ht⟩ := h
  refine wpAny_Call_Name_kw (thn ((pe_var (pos := p1) (i := i) hN hv hd hcd).run pinsZ sZ σZ HZ (fun v H1 => v = .ref f ∧ H1 = HZ) IZ ⟨.ref f, at_, rfl, rfl⟩) fun u s1 z => ?_)
  obtain ⟨v, H1, I1, r1, rfl, rfl⟩ := z
  obtain rfl : u = Value.ref f := r1
  have there : s1.heap.get? f = some (l.obj (X.env.qual ++ "<lambda>") (cloFrom X.env.cells l.scope.names []) dV doc pm c' ctv) := I1.base.keep f _ hf hfn hfr (fun z => nomatch (show f ∈ ([] : List Addr) from z))
  refine PySem.W.callWith_F0 ⟨_, _, _, _, there⟩ ?_
  have un : Un (frs X.stack) [] H H1 s.heap s1.heap := I1.base
  obtain ⟨⟨oc, vs, t, hoc, hdc, hvc⟩, _, _⟩ := I1.hok c' _ hc
  -- how it binds
  have bind : ∃ bs : List (Str × Value), (∀ y ∈ bs, l.scope.names.lookup y.1 = some .local) ∧ BindsTo s1 (PySem.W.kdv_fn "<lambda>" (X.env.qual ++ "<lambda>") l.params (.expr l.body) l.scope (cloFrom X.env.cells l.scope.names []) dV doc pm (.ref c') ctv) ⟨[], []⟩ bs := by
    have dfl := L.dfl
    unfold LW.Dv at dv
    cases q : l.dflt with
    | none =>
      rw [q] at dfl dv
      exact ⟨[], by simp, .of_eq (dfl.2 _ rfl dv)⟩
    | some xi =>
      obtain ⟨x, j⟩ := xi
      rw [q] at dfl dv
      obtain ⟨t, rfl, et⟩ := dv
      obtain ⟨_, isL, hb⟩ := dfl
      obtain ⟨_, its, rv, ob, eo, cl, n, en⟩ := I1.hok t _ et
      obtain ⟨u, rfl, _⟩ : ∃ u, its = [u] ∧ L2.RelV (.int j) u := by
        cases rv with
        | cons r1 r2 => cases r2; exact ⟨_, rfl, r1⟩
      obtain ⟨kk, b1, b2⟩ := hb (PySem.W.kdv_fn "<lambda>" (X.env.qual ++ "<lambda>") l.params (.expr l.body) l.scope (cloFrom X.env.cells l.scope.names []) (.ref t) doc pm (.ref c') ctv) rfl
      exact ⟨[(x, u)], fun y hy => by rw [List.mem_singleton.mp hy]; exact isL, BindsTo.of_defaults rfl eo en b1 (b2 u)⟩
  obtain ⟨bs, isLoc, bd⟩ := bind
  have rc : codeAny (model X.prog X.w) (X.A.deeper (envOfC qg sg s.heap.objs.size g cdg)) (.call (.ref f) ⟨[], []⟩) (CR (L2.CX X.prog X.w) (envOfC qg sg s.heap.objs.size g cdg :: X.stack) X.prog X.w H1 s1 Q (WE W σZ)) s1 := by
    refine PySem.W.kla_callFunE hr.depth there rfl L.co L.gen rfl ⟨c', oc, vs, t, rfl, hoc, hdc, hvc⟩ (bd _ _ _ _ ?_)
    refine wpAny_newFunctionEnv L.cell isLoc (fun h₁ hns hsb => ⟨I1.nolimit.fresh _ hsb, ?_⟩) L.kind
    show codeAny _ _ (.expr l.body (lamEnv X l.scope s1.heap.objs.size f c')) _ _
    have kp : ∀ b o, s1.heap.get? b = some o → h₁.get? b = some o := fun b o e => hsb.extBut b o (Nat.ne_of_lt (Heap.lt_size e)) (Heap.get?_push_of_some _ e)
    have J : L2.Inv (lamCx X (X.A.deeper (envOfC qg sg s.heap.objs.size g cdg)) (envOfC qg sg s.heap.objs.size g cdg :: X.stack) s1 H1 (WE W σZ) l.scope f c') [] σ H1 { s1 with heap := h₁, toks := s1.toks + bs.length } :=
      lam_in I L I1.env0 hr.hd un hns kp
    refine PySem.W.kla_codeExpr (wpAny_mono ((hbody _ _ s1 H1 (WE W σZ) (hr.deeper _)).run [] _ _ H1 Q J ht) (fun v s' hq => ?_) fun e s' hq => hq)
    obtain ⟨w', H', J', rv, q⟩ := hq
    exact ⟨w', H', J'.os, J'.bare, J'.base, J'.hok, rv, q⟩
  have hx := passAt tk σZ
  refine wpAny_call (codeAny_mono rc fun r s' hq => ?_)
  match r, hq with
  | .error e, hq => exact hx pinsZ H1 s1 e s' I1 hq
  | .ok (.ret u), hq => exact I1.after hq
  | .ok .next, hq => exact False.elim hq
  | .ok .brk, hq => exact False.elim hq
  | .ok .cont, hq => exact False.elim hq
end
/-! ### a def that calls what it got -/
abbrev Told := XK → Hp → VK → Prop
/-- from the reading of the call (tl), the heap and the caller's wish: what the def asks -/
abbrev SpC := Told → Hp → VK → Prop
/-- the def at g (its one parameter: slot 0 of N, named a) keeps this promise, whatever thing it gets -/
def GivesC (P : Program) (w : World) (K : PySem.W.Frag) (mg : Str → Option Value) (base : Heap) (k : Nat) (N : List Str) (a x : Str) (sg : Scope) (bg : List Stmt) (g : Addr) (cdg : Value) (sp : SpC) : Prop :=
  ∀ (A : Around) (stack : List Env) (f : Addr) (s : Shared) (H : Hp) (Q : VK) (tl : Told) (Kn : Hp → Prop), Room k (A.deeper (envOfC x sg s.heap.objs.size g cdg)) → (∀ H1 H2, Kn H1 → ExtN H1 H2 → Kn H2) →
    (∀ (W : WX) (pn : List (Addr × Obj)) (xe : Value → Shared → Prop) (p1 p2 : Pos), Takes ((cxOf CX0 P w K mg base N x sg g cdg A stack s H E0).tr pn xe) W →
      PE ((cxOf CX0 P w K mg base N x sg g cdg A stack s H E0).tr pn xe) (.Call (.Name a p1) [] [] p2) (fun σZ HZ Q => σZ[0]? = some (some (.ref f)) ∧ Kn HZ ∧ tl (WE W σZ) HZ Q)) →
    Kn H → sp tl H Q →
    ∃ t, PSs (cxOf CX0 P w K mg base N x sg g cdg A stack s H E0).nox bg t ∧ t { nx := fun _ H' => Q .non H', rt := Q } (L2.start N [.ref f]) H
/-- x(lambda: body) -/
def tLamC (T : List (Addr × Str)) (sp : SpC) (t : XK → TE) : TE := fun σ H Q => Tabs T H ∧ ∀ H1, ExtN H H1 → Tabs T H1 → sp (fun E H' Q' => t E σ H' Q') H1 Q
section
variable {X : Cx}
theorem pe_lamC {T : List (Addr × Str)} {sp : SpC} {x a : Str} {g c P : Addr} {k : Nat} {st : Stmt} {fd : FuncData} {Ng : List Str} {l : LW} {t : XK → TE} {p lpos pos : Pos} (F : L2.Fun X.K x x st g fd) (hg : Gl X x) (hm : X.mg x = some (.ref g)) (hb : L2.Binds X.K fd [a] []) (Sg : FnScope Ng [a] (defScope st)) (hNg : Ng[0]? = some a) (hva : Vis (defScope st) a)
    (G : ∀ cdv : Value, GivesC X.prog X.w X.K X.mg X.base (k + 1) Ng a x (defScope st) (defBody st) g cdv sp)
    (TB : TabB X.base X.mg c P) (hcode : X.env.code = .ref c) (hmT : (P, X.env.qual ++ "<lambda>") ∈ T) (hu : ∀ p ∈ T, p.1 = P → p.2 = X.env.qual ++ "<lambda>") (hr : Room (k + 2) X.A) (L : l.Ok X.N X.env.scope)
    (hbody : ∀ (A : Around) (outer : List Env) (s : Shared) (H : Hp) (E : XK) (f c' : Addr), Room k (A.deeper (lamEnv X l.scope s.heap.objs.size f c')) → PE (lamCx X A outer s H E l.scope f c') l.body (t E))
    (hdb : (x == ("__debug__" : Str)) = false := by decide) (hd : (a == ("__debug__" : Str)) = false := by decide) (hcd : (a == ("__classdict__" : Str)) = false := by decide) :
    PE X (.Call (.Name x p) [.Lambda l.params l.body l.scope lpos] [] pos) (tLamC T sp t) := by
  constructor
  intro pins s σ H Q I h
  obtain ⟨hT, h⟩ := h
  obtain ⟨oc, od, kV, doc, pm, an, cdv, ct, osl, rfl, lk, hcg⟩ := F.ex
  refine wpAny_Call_Name_kw (ld_glob I hg hm ?_ hdb)
  refine PySem.W.callWith_K (h₀ := X.base) I.ok.mod.kin F.kp ?_ (by rfl) (by rfl)
  show wpAny _ _ (spliced ((false, eval (.Lambda l.params l.body l.scope lpos) X.env) :: backTo pos (starEach [] X.env))) _ _ s
  refine Calls.spliced_cons (lam_mk I L TB hcode hmT hu hT fun f c' H1 s' I1 eN T1 at_ => ?_)
  refine Calls.spliced_nil ⟨I1.kIn, ?_⟩
  obtain ⟨dV, doc2, pm2, ctv, dv, hf, hfn, hfr, hco⟩ := at_
  have rc : codeAny (model X.prog X.w) X.A (.call (.ref g) ⟨[.ref f], []⟩) (CR CX0 X.stack X.prog X.w H1 s' Q E0) s' := by
    refine run_ofS (N := Ng) (ps := [a]) (us := [.ref f]) (vs := [.ref f]) lk hcg Sg hr I1.env0 (hb s' [.ref f] I1.kIn rfl) (.cons rfl .nil) rfl fun hr' => ?_
    obtain ⟨t', ht', hq'⟩ := G cdv X.A X.stack f s' H1 Q (fun E H' Q' => t E σ H' Q') (Kn X l c' dV) hr' (fun _ _ k e => k.ext e)
      (fun W pn xe p1 p2 tk => pe_act (i := 0) I1 L hf hfn hfr tk hr' (fun A outer s H E hr2 => hbody A outer s H E f c' hr2) hNg hva hd hcd) ⟨hco, dv⟩ (h H1 eN T1)
    exact ⟨t', ht'.nox, hq'⟩
  refine wpAny_call (codeAny_mono rc fun r s2 hq => ?_)
  match r, hq with
  | .error e, hq => exact (show False from hq).elim
  | .ok (.ret u), hq => exact I1.after hq
  | .ok .next, hq => exact False.elim hq
  | .ok .brk, hq => exact False.elim hq
  | .ok .cont, hq => exact False.elim hq
end
end TSx

/-! Own layer, part M3: the law's own end where defs make lambdas: their tables are tracked from the start. -/
namespace TSx
open PySem L2 PySem.Spec PyProof.Rows LamX
theorem law_endT {P : Program} {w : World} {K : PySem.W.Frag} {mg mb : Str → Option Value} {CX : CXT} {k : Nat} {fa a : Addr} {cs : List (Addr × Addr)} {fd : FuncData} {x : Str} {sp : Sp} {s₁ : Shared} {vs : List Value} {ns : List Int}
    (KX : K.In s₁.heap) (hns : s₁.heap.Ns mainGlobals mg) (hb : s₁.heap.Ns builtinsNs mb) (hbb : ∀ x : Str, x ≠ "__name__" → mb x = bootBuiltins x) (hlim : s₁.heap.NoLimit) (hg : s₁.gens = #[])
    (hT : ∀ p ∈ cs, s₁.heap.get? p.2 = some { cls := .none, data := .fields #[] }) (nT : ∀ p ∈ cs, K.lookup p.2 = none) (C : ∀ p ∈ cs, PySem.W.CodeHd s₁.heap p.1 p.2)
    (hbm : ∃ (bm : Addr) (ob : Obj), mg "__builtins__" = some (.ref bm) ∧ bm ≠ builtinsNs ∧ s₁.heap.get? bm = some ob ∧ ob.cls = .type "module" ∧ ob.dict = some builtinsNs ∧ ob.data = .plain)
    (ha : s₁.heap.get? a = some { cls := .type "list", data := .seq vs.toArray }) (hi : IntsAre vs ns) (hl : ns.length ≤ sizeLine) (hr : Room k callerA)
    (F : ∀ base : Heap, K.In base → base.Ns mainGlobals mg → (∀ p ∈ cs, TabB base mg p.1 p.2) → FnG P w K mg base CX k fa fd [x] sp) (hbind : ∀ (s : Shared) (u : Value), BindsTo s fd ⟨[u], []⟩ [(x, u)])
    (hsp : ∀ H : Hp, (∀ p ∈ cs, H p.2 = some (.tbl #[])) → SqL K H a (ns.map V.int) → sp [.ref a] H (fun v _ => v = .bl true) fun _ _ _ => False)
    (hCX : ∀ H e s', CX [] H s₁ (fun _ _ _ => False) e s' → False) :
    codeAny (model P w) callerA (.call (.ref fa) ⟨[.ref a], []⟩) (fun r s' => r = .ok (.ret (.bool true)) ∧ OldK s₁.heap s'.heap ∧ s'.os = s₁.os ∧ AllBare s'.gens) s₁ := by
  classical
  have rv := vals_ints hi
  have size_eq : vs.length = ns.length := hi.length
  let tabs : List Addr := cs.map (·.2)
  have tab_ : ∀ b ∈ tabs, s₁.heap.get? b = some { cls := .none, data := .fields #[] } ∧ K.lookup b = none := fun b hb => by
    obtain ⟨p, hp, e⟩ := List.mem_map.mp hb
    rw [← e]
    exact ⟨hT p hp, nT p hp⟩
  have a_no : a ∉ tabs := fun z => by
    have q := (tab_ a z).1
    rw [ha] at q
    cases q
  -- what is tracked: the tables, and the script if it is not written
  let H : Hp := fun b => if b ∈ tabs then some (.tbl #[]) else if b = a ∧ K.lookup a = none then some (.frz { cls := .type "list", data := .seq vs.toArray } (.lst (ns.map V.int))) else none
  have cases_ : ∀ b u, H b = some u → (b ∈ tabs ∧ u = .tbl #[]) ∨ (b = a ∧ K.lookup a = none ∧ u = .frz { cls := .type "list", data := .seq vs.toArray } (.lst (ns.map V.int))) := fun b u e => by
    have e' : (if b ∈ tabs then some (HO.tbl #[]) else if b = a ∧ K.lookup a = none then some (HO.frz { cls := .type "list", data := .seq vs.toArray } (.lst (ns.map V.int))) else none) = some u := e
    split at e'
    · exact .inl ⟨by assumption, (Option.some.inj e').symm⟩
    · split at e'
      · rename_i c
        exact .inr ⟨c.1, c.2, (Option.some.inj e').symm⟩
      · cases e'
  have atT : ∀ b ∈ tabs, H b = some (.tbl #[]) := fun b hb => if_pos hb
  have atA : K.lookup a = none → H a = some (.frz { cls := .type "list", data := .seq vs.toArray } (.lst (ns.map V.int))) := fun hk => by
    show (if a ∈ tabs then some (HO.tbl #[]) else _) = _
    rw [if_neg a_no, if_pos ⟨rfl, hk⟩]
  have script : SqL K H a (ns.map V.int) := by
    cases hk : K.lookup a with
    | none => exact Or.inl (Or.inr ⟨_, atA hk⟩)
    | some o =>
      have e := KX a o hk
      rw [ha] at e
      cases e
      exact Or.inr ⟨_, vs.toArray, _, hk, rfl, rfl, rfl, by rw [List.size_toArray, size_eq]; exact hl, by simpa using rv⟩
  have ok : HOk P w H s₁.heap := fun b u z => by
    rcases cases_ b u z with ⟨m, rfl⟩ | ⟨rfl, _, rfl⟩
    · exact (tab_ b m).1
    · exact ⟨ha, by rw [List.length_map]; exact hl, vs, _, rv, ha⟩
  have shown : ∀ {b : Addr} {o : Obj}, s₁.heap.get? b = some o → H b = none → (hidT s₁.heap H).get? b = some o := fun e n => hidT_get e n
  have open_ : ∀ {b : Addr} {o : Obj}, s₁.heap.get? b = some o → (∀ us n, o.data ≠ .seq us n) → o.data ≠ .fields #[] → H b = none := fun {b o} e h1 h2 => by
    cases q : H b with
    | none => rfl
    | some u =>
      rcases cases_ b u q with ⟨m, _⟩ | ⟨rfl, _, _⟩
      · rw [(tab_ b m).1] at e
        cases e
        exact (h2 rfl).elim
      · rw [ha] at e
        cases e
        exact (h1 _ _ rfl).elim
  have dicts : ∀ {b : Addr} {m : Str → Option Value}, s₁.heap.Ns b m → (hidT s₁.heap H).Ns b m := fun {b m} z => by
    obtain ⟨o, es, ep, e, d, r⟩ := z
    exact ⟨o, es, ep, shown e (open_ e (fun us n z => by rw [d] at z; cases z) fun z => by rw [d] at z; cases z), d, r⟩
  have Kb : K.In (hidT s₁.heap H) := fun b o e => shown (KX b o e) (by
    cases q : H b with
    | none => rfl
    | some u =>
      rcases cases_ b u q with ⟨m, _⟩ | ⟨rfl, hk, _⟩
      · rw [(tab_ b m).2] at e; cases e
      · rw [hk] at e; cases e)
  have M : Mod K mg (hidT s₁.heap H) := by
    refine ⟨Kb, dicts hns, ⟨mb, dicts hb, hbb⟩, ?_⟩
    obtain ⟨mc, h1, h2⟩ := hlim
    exact ⟨mc, dicts h1, h2⟩
  have TB : ∀ p ∈ cs, TabB (hidT s₁.heap H) mg p.1 p.2 := fun p hp => by
    have here := hT p hp
    refine ⟨?_, ?_, fun z => ?_⟩
    · obtain ⟨o, us, file, tf, flags, tg, inF, text, tt, e1, r1, r2, r3, rest⟩ := C p hp
      refine ⟨o, us, file, tf, flags, tg, inF, text, tt, shown e1 (open_ e1 (fun vs n z => by rw [r2] at z; cases z) fun z => ?_), r1, r2, r3, rest⟩
      rw [r2] at z
      cases z
      simp at r3
    · obtain ⟨bm, ob, b1, b2, b3, b4, b5, b6⟩ := hbm
      refine ⟨bm, ob, b1, b2, fun q => ?_, fun q => ?_, shown b3 (open_ b3 (fun vs n z => by rw [b6] at z; cases z) fun z => by rw [b6] at z; cases z), b4, b5, b6⟩
      · obtain ⟨o, es, ep, e, hd, _⟩ := hns
        rw [q, e] at b3
        cases b3
        rw [hd] at b6
        cases b6
      · rw [q, here] at b3
        cases b3
        cases b6
    · obtain ⟨o, es, ep, e, hd, _⟩ := hns
      rw [z, here] at e
      cases e
      cases hd
  have E0 : Env0 P w K mg (hidT s₁.heap H) callerA [] s₁ H := {
    frames := rfl
    mod := M
    bs := fun b o e => of_hidT e
    bsz := Nat.le_of_eq (hidT_size _ _)
    funs := trivial
    frf := fun b hb => by cases hb
    hok := ok
    bare := .of_eq hg }
  refine codeAny_mono ((F _ Kb (dicts hns) TB).go callerA [] s₁ H ⟨[.ref a], []⟩ [.ref a] [.ref a] _ _ rfl hr E0 (hbind s₁ (.ref a)) (.cons rfl .nil) (hsp H (fun p hp => atT p.2 (List.mem_map.mpr ⟨p, hp, rfl⟩)) script)) fun r s' h => ?_
  match r, h with
  | .error e, h => exact (hCX H e s' h).elim
  | .ok .next, h => exact False.elim h
  | .ok .brk, h => exact False.elim h
  | .ok .cont, h => exact False.elim h
  | .ok (.ret u), h =>
    obtain ⟨v, H', os, bare, un, ok', rel, q⟩ := h
    have q' : v = .bl true := q
    subst q'
    obtain rfl : u = Value.bool true := rel
    have kept : ∀ b o, b ∉ tabs → s₁.heap.get? b = some o → s'.heap.get? b = some o := fun b o nb e => by
      cases q : H b with
      | none => exact un.keep b o e q (fun z => by cases z) (fun z => by cases z)
      | some u =>
        rcases cases_ b u q with ⟨m, _⟩ | ⟨rfl, _, rfl⟩
        · exact absurd m nb
        · obtain ⟨e1, _⟩ := ok b _ q
          obtain ⟨e2, _⟩ := ok' b _ (un.frzs b _ _ q)
          rw [e] at e1
          cases e1
          exact e2
    have more : ∀ p ∈ cs, ∃ us : Array Value, s'.heap.get? p.2 = some { cls := .none, data := .fields us } := fun p hp => by
      obtain ⟨us, z⟩ := un.tbls p.2 #[] (atT p.2 (List.mem_map.mpr ⟨p, hp, rfl⟩))
      exact ⟨_, ok' p.2 _ z⟩
    refine ⟨rfl, ⟨fun b o e => ?_, fun b o e => ?_⟩, os, bare⟩
    · by_cases hb : b ∈ tabs
      · obtain ⟨p, hp, rfl⟩ := List.mem_map.mp hb
        obtain ⟨us, hm⟩ := more p hp
        have e0 := hT p hp
        rw [e] at e0
        cases e0
        exact .inr (.inl ⟨((C p hp).tab (hT p hp)).isCodeTable, rfl, #[], us, rfl, by rw [Array.empty_append]; exact hm⟩)
      · exact .inl (kept b o hb e)
    · by_cases hb : b ∈ tabs
      · obtain ⟨p, hp, rfl⟩ := List.mem_map.mp hb
        obtain ⟨us, hm⟩ := more p hp
        exact ⟨_, hm⟩
      · exact ⟨o, kept b o hb e⟩
/-- where the tables stand: the maker's code object, its table among the empty ones -/
def TabIn (ts : List Addr) (K : PySem.W.Frag) (p : Addr × Addr) : Prop := p.2 ∈ ts ∧ PySem.W.codeHdIn K p.1 p.2 = true ∧ K.lookup p.2 = none
theorem tab_in {ts : List Addr} {K : PySem.W.Frag} {c : Addr} (h : (ts.any fun P => PySem.W.codeHdIn K c P && (K.lookup P).isNone) = true) : ∃ P, TabIn ts K (c, P) := by
  obtain ⟨P, hP, e⟩ := List.any_eq_true.mp h
  rw [Bool.and_eq_true] at e
  exact ⟨P, hP, e.1, by simpa using e.2⟩
theorem walkT {l : PySem.W.OpenLaw} {n k : Nat} {q : Program} {loose : List Str} {XP : (Str → Option Value) → Heap → Prop} {YP : World → Heap → Prop} {d : DefRec} {K : Params → PySem.W.Frag} {sp : PySem.W.Frag → List (Addr × Addr) → Sp} {x : Str} {ts : List Addr}
    (hn : l.most = some n) (hn2 : n ≤ sizeLine) (hdf : d.params.defaults = []) (hr : Room k callerA)
    (hY : ∀ (w : World) (h : Heap), YP w h → (K w.params).In h) (hts : ∀ (w : World) (h : Heap), YP w h → ∀ P ∈ ts, h.get? P = some (PySem.W.tabObj #[]))
    (F : ∀ (w : World) (mg : Str → Option Value) (fa : Addr) (h : Heap), (K w.params).In h → h.Ns mainGlobals mg → mg d.name = some (.ref fa) →
      ∃ (fd : FuncData) (cs : List (Addr × Addr)), (∀ p ∈ cs, TabIn ts (K w.params) p) ∧ (∀ (s : Shared) (u : Value), BindsTo s fd ⟨[u], []⟩ [(x, u)]) ∧
        ∀ base : Heap, (K w.params).In base → base.Ns mainGlobals mg → (∀ p ∈ cs, TabB base mg p.1 p.2) → FnG l.prog w (K w.params) mg base CX0 k fa fd [x] (sp (K w.params) cs))
    (hsp : ∀ (w : World) (H : Hp) (a : Addr) (ns : List Int) (cs : List (Addr × Addr)), ns.length ≤ n → (∀ p ∈ cs, H p.2 = some (.tbl #[])) → SqL (K w.params) H a (ns.map V.int) → sp (K w.params) cs [.ref a] H (fun v _ => v = .bl true) fun _ _ _ => False) :
    PySem.W.WalkO q loose XP YP l.row.toRowW d [] (fun f vs => PySem.call f vs) := by
  refine Att.attach_callB hn hdf fun w s₀ s₁ mg mb fa o pm cd doc a vs ns G Y ho hd hcd hmg hobj hints hlen hbits hg => ?_
  have KX := hY w _ Y
  obtain ⟨fd, cs, ht, hb, hF⟩ := F w mg fa _ KX G.T.g hmg
  exact law_endT KX G.T.g G.T.b G.T.builtins G.T.nolimit hg (fun p hp => hts w _ Y _ (ht p hp).1) (fun p hp => (ht p hp).2.2) (fun p hp => PySem.W.codeHd_of_K KX (ht p hp).2.1) G.T.bmain hobj hints (Nat.le_trans hlen hn2) hr hF hb
    (fun H hT hS => hsp w H a ns cs hlen hT hS) fun _ _ _ z => z
end TSx

/-! Own layer, part X1: what stays where tables grow. -/
namespace TSx
open PySem L2 LamX
section
variable {K : PySem.W.Frag} {H H' : Hp}
theorem ext_T {a : Addr} {xs : List V} (g : ExtN H H') (h : SqT K H a xs) : SqT K H' a xs := by
  rcases h with (h | ⟨o, h⟩) | h
  · exact Or.inl (Or.inl (g _ _ h (fun _ z => by cases z)))
  · exact Or.inl (Or.inr ⟨o, g _ _ h (fun _ z => by cases z)⟩)
  · exact Or.inr h
theorem exq_nt {a C d : Addr} (ps : Array Value) : exq a C d ≠ .tbl ps := fun z => by
  unfold exq at z
  cases z
mutual
theorem Dt.ext (g : ExtN H H') : ∀ {v : V} {d : D}, Dt K H v d → Dt K H' v d
  | _, _, .non => .non
  | _, _, .bl b => .bl b
  | _, _, .int i => .int i
  | _, _, .str x => .str x
  | _, _, .lst e a => .lst (g _ _ e (fun _ z => by cases z)) (DtA.ext g a)
  | _, _, .tup e a => .tup (ext_T g e) (DtA.ext g a)
  | _, _, .dic e a => .dic (g _ _ e (fun _ z => by cases z)) (DtK.ext g a)
  | _, _, .exc e f a => .exc (g _ _ e exq_nt) (g _ _ f (fun _ z => by cases z)) (DtF.ext g a)
theorem DtA.ext (g : ExtN H H') : ∀ {v : List V} {d : List D}, DtA K H v d → DtA K H' v d
  | _, _, .nil => .nil
  | _, _, .cons a b => .cons (Dt.ext g a) (DtA.ext g b)
theorem DtK.ext (g : ExtN H H') : ∀ {v : List (Key × V)} {d : List (Key × D)}, DtK K H v d → DtK K H' v d
  | _, _, .nil => .nil
  | _, _, .cons a b => .cons (Dt.ext g a) (DtK.ext g b)
theorem DtF.ext (g : ExtN H H') : ∀ {v : List (Str × V)} {d : List (Str × D)}, DtF K H v d → DtF K H' v d
  | _, _, .nil => .nil
  | _, _, .cons a b => .cons (Dt.ext g a) (DtF.ext g b)
end
theorem wo_ext {B : Addr → Bool} (g : ExtN H H') : ExtN (wo B H) (wo B H') := fun b o e n => by
  unfold wo at e ⊢
  by_cases c : B b = true
  · rw [if_pos c] at e; cases e
  · rw [if_neg c] at e ⊢; exact g b o e n
variable {m c g : Addr} {r : Nat} {v : V} {d : D}
theorem Ap.ext (h : Ap K m g H v d) (e : ExtN H H') : Ap K m g H' v d := Dt.ext (wo_ext e) h
theorem MAt.ext (h : MAt m c g H r) (e : ExtN H H') : MAt m c g H' r := by
  obtain ⟨⟨n, cs, gs, h1, h2, h3, h4⟩, ne⟩ := h
  exact ⟨⟨n, cs, gs, e _ _ h1 (fun _ z => by cases z), e _ _ h2 (fun _ z => by cases z), e _ _ h3 (fun _ z => by cases z), h4⟩, ne⟩
theorem Tabs.kp {T : List (Addr × Str)} (t : Tabs T H) (M : MAt m c g H r) (k : Kp m g H H') : Tabs T H' := fun p hp => by
  obtain ⟨ps, h1, h2, h3⟩ := t p hp
  obtain ⟨⟨n, cs, gs, e1, e2, e3, _⟩, _⟩ := M
  refine ⟨ps, k _ _ (fun z => ?_) (fun z => ?_) h1, h2, fun pos cv hc => ?_⟩
  · rw [z, e1] at h1; cases h1
  · rw [z, e3] at h1; cases h1
  · obtain ⟨c0, q1, q2⟩ := h3 pos cv hc
    refine ⟨c0, q1, k _ _ (fun z => ?_) (fun z => ?_) q2⟩
    · rw [z, e1] at q2; unfold CodeO at q2; cases q2
    · rw [z, e3] at q2; unfold CodeO at q2; cases q2
theorem Tabs.sm {T : List (Addr × Str)} (t : Tabs T H) (s : Same H H') : Tabs T H' := t.ext s
/-- a thing that does not stand yet is written: what stood stays -/
theorem ext_mut {p : Addr} {o : HO} (s : ExtN H H') (n : H p = none) : ExtN H (upd H' p o) := fun b u e nt => by rw [upd_ne (ne_of_none e n)]; exact s b u e nt
theorem Tabs.upd' {T : List (Addr × Str)} {p : Addr} {o u : HO} (t : Tabs T H) (e : H p = some u) (n1 : ∀ ps, u ≠ .tbl ps) (n2 : ∀ c q, u ≠ CodeO c q) : Tabs T (upd H p o) := fun x hx => by
  obtain ⟨ps, h1, h2, h3⟩ := t x hx
  have a1 : x.1 ≠ p := fun z => by rw [z, e] at h1; exact n1 ps (Option.some.inj h1)
  refine ⟨ps, by rw [upd_ne a1]; exact h1, h2, fun pos cv hc => ?_⟩
  obtain ⟨c0, q1, q2⟩ := h3 pos cv hc
  have a2 : c0 ≠ p := fun z => by rw [z, e] at q2; exact n2 _ _ (Option.some.inj q2)
  exact ⟨c0, q1, by rw [upd_ne a2]; exact q2⟩
end
end TSx

/-! Own layer, part A8: except (C1, C2) as n. -/
namespace TSx
open PySem L2 PySem.Spec PyProof.Rows
theorem flyZ_keeps {B h h' : Heap} {l : List Env} {a : Addr} {Z : Obj → Prop} (x : HandSPX.FlyingZ B l a Z h) (kp : ∀ q o, h.get? q = some o → h'.get? q = some o) : HandSPX.FlyingZ B l a Z h' := by
  obtain ⟨f1, f2, f3, oe, vs, T, oT, ts, he, hz, hd, h1, hnT, hTe, hT, hdT, h3⟩ := x
  exact ⟨fun b o e => kp _ _ (f1 b o e), f2, f3.of_keeps fun b o hb _ => ⟨o, kp _ _ hb, rfl⟩, oe, vs, T, oT, ts, kp _ _ he, hz, hd, h1, hnT, hTe, kp _ _ hT, hdT, h3⟩
/-- what the one clause wishes -/
def w2 (K : PySem.W.Frag) (D : Ends) (c1 c2 : Value) (i : Nat) (ts : TS) : WX := fun cls d σ H => PySem.W.exmAny K cls [c1, c2] = some true ∧ ∃ (C dd : Addr), cls = .ref C ∧ d = some dd ∧ ∀ a, H a = none → ts { nx := fun σ' H' => D.nx (σ'.set i none) H', rt := D.rt, bk := fun σ' H' => D.bk (σ'.set i none) H', ct := fun σ' H' => D.ct (σ'.set i none) H' } (σ.set i (some (.ref a))) (upd H a (exq a C dd))
section
variable {X : Cx} {body : List Stmt} {x1 x2 n : Str} {c1 c2 : Value} {p1 p2 tpos pos pos' : Pos} {kk i : Nat} {b₀ : Stmt} {suite : List Stmt} {ts : TS} {tb : WX → TS} {Wout : WX}
theorem ps_tryT2 (hs : X.stack = X.env :: X.outer) (hf : X.env.frame = some X.env.locals) (hN : X.N.Nodup) (hex : X.ex = [])
    (hb : ∀ (W : WX) (pn : List (Addr × Obj)) (xe : Value → Shared → Prop), Takes (X.tr pn xe) W → PassesOwn (model X.prog X.w) X.A X.env xe → PSs (X.tr pn xe) body (tb W))
    (hc1 : Names X x1 c1) (hc2 : Names X x2 c2) (hi : X.N[i]? = some n) (hln : X.env.kindOf n = some .local) (hsu : ∀ (a : Addr) (pn : List (Addr × Obj)), PSs (X.suite a pn) (b₀ :: suite) ts) :
    PS X (.Try body [.ExceptHandler (some (.Tuple [.Name x1 p1, .Name x2 p2] kk tpos)) (some n) (b₀ :: suite) pos'] [] [] pos) (fun D σ H => tb (w2 X.K D c1 c2 i ts) D σ H) := by
  constructor
  intro pins s σ H D I h
  have ok := I.ok
  have fr : X.A.frames = some (X.env :: X.outer) := by rw [ok.frames, hs]
  refine wpAny_Try_except ?_
  refine wpAny_mono ((hb (w2 X.K D c1 c2 i ts) (X.pn ++ pins) (fun e s₁ => wpAny (model X.prog X.w) X.A (noteFrame e X.env) (fun _ s₂ => wpAny (model X.prog X.w) X.A (setFlight e none) (fun _ s₃ =>
    wpAny (model X.prog X.w) X.A (handleBy e X.env [.ExceptHandler (some (.Tuple [.Name x1 p1, .Name x2 p2] kk tpos)) (some n) (b₀ :: suite) pos']) (SP X pins D) X.xe s₃) X.xe s₂) X.xe s₁) (fun u s' xx => ?_) PassesOwn.looking).run [] s σ H D (I.toTry _) h) (fun f s1 hsp => ?_) (fun e s1 he => he)
  · obtain ⟨a, B, sI, pins', σ', H', cls, d, rfl, J', nb, up, sky, na, os, ag, w⟩ := xx
    have J : L2.Inv X pins σ' H' sI := J'.ofTry ok
    have sky2 : Sky B (X.env :: X.outer) a (Zc cls d) X.env.locals s'.heap := by rw [← hs]; exact sky
    show wpAny (model X.prog X.w) X.A (noteFrame (.ref a) X.env) _ _ _
    refine Sky.land Zc.steady fr hf sky2 fun h3 fl3 up3 => ?_
    have J3 : L2.Inv X pins σ' H' { s' with heap := h3 } := J.landed nb fl3.1 (up.trans up3) os ag
    obtain ⟨oe3, vs3, he3, hz3, hd3⟩ := fl3.there
    have nfr : a ∉ frs (X.env :: X.outer) := fun hm => by
      obtain ⟨_, o', e', hnf⟩ := fl3.2.2.1.mem hm
      rw [he3] at e'
      cases e'
      exact hnf _ hd3
    have nL : a ≠ X.env.locals := fun z => nfr (List.mem_filterMap.mpr ⟨X.env, List.mem_cons_self, by rw [hf, z]⟩)
    have nI : sI.heap.get? a = none := by
      cases q : sI.heap.get? a with
      | none => rfl
      | some o =>
        have z := nb a o q (by rw [hs]; exact nfr)
        rw [fl3.2.1] at z
        cases z
    have n0 : X.s_0.heap.get? a = none := by
      cases q : X.s_0.heap.get? a with
      | none => rfl
      | some o =>
        obtain ⟨o', z⟩ := J.base.there a o q (by rw [hex]; simp)
        rw [nI] at z
        cases z
    have nP : ∀ p ∈ X.pn ++ pins, p.1 ≠ a := fun p hp z => by
      have q := (J.pin p hp).1
      rw [z, nI] at q
      cases q
    have S3 := suite_in J3 a
    obtain ⟨hm, C, dd, rfl, rfl, want⟩ := w
    show wpAny (model X.prog X.w) X.A (handleBy (.ref a) X.env [.ExceptHandler (some (.Tuple [.Name x1 p1, .Name x2 p2] kk tpos)) (some n) (b₀ :: suite) pos']) (SP X pins D) X.xe { s' with heap := h3 }
    refine wpAny_handleBy_cons (codeAny_handlers_test ?_) (by intro q; cases q)
    have LT : PySem.W.Looks (model X.prog X.w) h3 (typeOf (.ref a)) (Value.ref C) := fun A Q E s k q => wpAny_typeOf_ref (k _ _ he3) (by rw [hz3.1]; exact q)
    have ask : ∀ {y : Str} {np : Pos} {c : Value} {Q : Value → Shared → Prop} {E : Value → Shared → Prop}, Names X y c → Q c { s' with heap := h3 } → wpAny (model X.prog X.w) (X.A.mark (some (.ref a))) (eval (.Name y np) X.env) Q E { s' with heap := h3 } := fun {y np c Q E} hc q => by
      obtain ⟨hg, hdbg, hm | ⟨hm, hv, hnn⟩⟩ := hc
      · exact ld_glob (X := X.suite a (X.pn ++ pins)) S3 hg hm q hdbg
      · exact ld_blt (X := X.suite a (X.pn ++ pins)) S3 hg hm hv q hnn hdbg
    refine wpAny_Tuple (wpAny_items_cons (ask hc1 (wpAny_items_cons (ask hc2 (wpAny_items_nil ⟨by size_fits, ?_⟩)))))
    have kp : ∀ q o, h3.get? q = some o → (h3.push { cls := .type "tuple", data := .seq [c1, c2].toArray }).get? q = some o := fun _ _ z => Heap.get?_push_of_some _ z
    have KP : X.K.In (h3.push { cls := .type "tuple", data := .seq [c1, c2].toArray }) := fun b o e => kp _ _ (J3.kIn b o e)
    refine (PySem.W.exm_tup2 (M := model X.prog X.w) KP (LT.keeps kp) (Heap.get?_push_size h3 rfl) hm).here ?_
    have flP := flyZ_keeps fl3 kp
    generalize h3.push { cls := .type "tuple", data := .seq [c1, c2].toArray } = hP at kp KP flP ⊢
    refine codeAny_handlers_suite_as ?_
    refine HandSPX.lands_againZ flP fun h4 fl4 up4 => ?_
    have upP : h3.UpToSlots hP := fun b o hb _ => ⟨o.slots, kp _ _ hb⟩
    have J4 : L2.Inv X pins σ' H' { s' with heap := h4 } := J.landed nb fl4.1 (((up.trans up3).trans upP).trans up4) os ag
    obtain ⟨oe4, vs4, he4, hz4, hd4⟩ := fl4.there
    have nC : ∀ y c', X.env.cells.lookup y = some c' → c' ≠ a := fun y c' e z => by
      obtain ⟨v, o, ho, hdat⟩ := J4.cell y c' e
      rw [z] at ho
      have ho' : h4.get? a = some o := ho
      rw [he4] at ho'
      cases ho'
      rw [hd4] at hdat
      cases hdat
    have J5 := Inv.track J4 na n0 nL nC nP (exq_ok (C := C) (d := dd) he4 hz4 hd4)
    have S5 := suite_in J5 a
    refine store_ok (X := X.suite a (X.pn ++ pins)) (v := .ref a) S5 hN hi (.inl hln) rfl (fun s6 S6 => ?_) (.inr hln)
    refine wpAny_mono ((hsu a (X.pn ++ pins)).run [] s6 _ _ _ S6 (want a na)) (fun f s7 hsp => ?_) (fun _ _ z => False.elim z)
    have close : ∀ {σ7 : Sg} {H7 : Hp} {Q : Shared → Prop}, L2.Inv (X.suite a (X.pn ++ pins)) [] σ7 H7 s7 → (∀ s8, L2.Inv X pins (σ7.set i none) H7 s8 → Q s8) →
        wpAny (model X.prog X.w) X.A (do bindName X.env n .none; unbindBehindTheSuite X.env n pos') (fun _ s8 => Q s8) X.xe s7 := fun {σ7 H7 Q} S7 hq => gone_ok (suite_out S7 ok) hN hi hln hq
    cases f with
    | next =>
      obtain ⟨σ7, H7, S7, q7⟩ := hsp
      exact close S7 fun s8 J8 => ⟨_, _, J8, q7⟩
    | brk =>
      obtain ⟨σ7, H7, S7, q7⟩ := hsp
      exact close S7 fun s8 J8 => ⟨_, _, J8, q7⟩
    | cont =>
      obtain ⟨σ7, H7, S7, q7⟩ := hsp
      exact close S7 fun s8 J8 => ⟨_, _, J8, q7⟩
    | ret u =>
      obtain ⟨v7, σ7, H7, S7, r7, q7⟩ := hsp
      exact close S7 fun s8 J8 => ⟨_, _, _, J8, r7, q7⟩
  · cases f with
    | next =>
      obtain ⟨σ', H', J', q⟩ := hsp
      exact wpAny_execs_nil ⟨σ', H', J'.ofTry ok, q⟩
    | brk =>
      obtain ⟨σ', H', J', q⟩ := hsp
      exact ⟨σ', H', J'.ofTry ok, q⟩
    | cont =>
      obtain ⟨σ', H', J', q⟩ := hsp
      exact ⟨σ', H', J'.ofTry ok, q⟩
    | ret u =>
      obtain ⟨v, σ', H', J', r, q⟩ := hsp
      exact ⟨v, σ', H', J'.ofTry ok, r, q⟩
end
end TSx

/-! Own layer, part W1: a def whose code object is known (it makes lambdas); a callee that lets none out; how a written lambda stands. -/
namespace TSx
open PySem L2 PySem.Spec PyProof.Rows LamX
structure FunC (K : PySem.W.Frag) (x : Str) (st : Stmt) (f : Addr) (fd : FuncData) (c : Addr) : Prop where
  ex : ∃ (oc : Value) (od : Option Addr) (kV doc pm : Value) (an : Option Addr) (ct : Value) (osl : Array (Option Value)),
    fd = PySem.W.fnOf x x (defArgs st) (defBody st) (defScope st) .none kV doc pm an (.ref c) ct ∧ K.lookup f = some ⟨oc, od, .func fd, osl⟩ ∧ PySem.W.codeIn K (.ref c) x = true
  kp : PySem.W.keepIn K (.ref f) = true
theorem FunC.fun {K : PySem.W.Frag} {x : Str} {st : Stmt} {f : Addr} {fd : FuncData} {c : Addr} (F : FunC K x st f fd c) : L2.Fun K x x st f fd := by
  obtain ⟨⟨oc, od, kV, doc, pm, an, ct, osl, h⟩, kp⟩ := F
  exact ⟨⟨oc, od, kV, doc, pm, an, _, ct, osl, h⟩, kp⟩
theorem funC_mk {K : PySem.W.Frag} {x : Str} {st : Stmt} {f c : Addr} {oc : Value} {od an : Option Addr} {osl : Array (Option Value)} {kV doc pm ct : Value} (l : K.lookup f = some ⟨oc, od, .func (PySem.W.fnOf x x (defArgs st) (defBody st) (defScope st) .none kV doc pm an (.ref c) ct), osl⟩)
    (cd : PySem.W.codeIn K (.ref c) x = true) (k : PySem.W.keepIn K (.ref f) = true) : FunC K x st f (PySem.W.fnOf x x (defArgs st) (defBody st) (defScope st) .none kV doc pm an (.ref c) ct) c := ⟨⟨oc, od, kV, doc, pm, an, ct, osl, rfl, l, cd⟩, k⟩
theorem fnG_ofC {P : Program} {w : World} {K : PySem.W.Frag} {mg : Str → Option Value} {base : Heap} {k : Nat} {f : Addr} {x : Str} {c : Addr} {st : Stmt} {fd : FuncData} {N ps : List Str} {sp : Sp}
    (F : FunC K x st f fd c) (S : FnScope N ps (defScope st)) (sz : ∀ vs H Q E, sp vs H Q E → vs.length = ps.length)
    (B : ∀ (A : Around) (outer : List Env) (s : Shared) (H : Hp) (vs : List V) (Q : VK) (E : XK), A.guards = some [] → Room k (A.deeper (envOfC x (defScope st) s.heap.objs.size f (.ref c))) → sp vs H Q E →
      ∃ t, PSs (cxOf CX0 P w K mg base N x (defScope st) f (.ref c) A outer s H E).nox (defBody st) t ∧ t { nx := fun _ H' => Q .non H', rt := Q } (start N vs) H) :
    FnG P w K mg base CX0 (k + 1) f fd ps sp := by
  obtain ⟨oc, od, kV, doc, pm, an, ct, osl, rfl, lk, hcd⟩ := F.ex
  refine ⟨sz, fun A outer s H args us vs Q E g hr e0 hb r hsp => ?_⟩
  -- the same def, its promise cut down to this very call: then the library's rule serves
  obtain ⟨t, ht', hq⟩ := B A outer s H vs Q E g (hr.deeper _) hsp
  have ht := ht'.nox
  have KX : K.In s.heap := e0.mod.kin.keeps fun b o e => (e0.bs b o e).1
  refine codeAny_call_function hr.depth (KX _ _ lk) rfl S.co S.gen rfl (PySem.W.codeRec_of KX hcd) (hb _ _ _ _ ?_)
  have kinds : ∀ y ∈ ps.zip us, (defScope st).names.lookup y.1 = some .local ∨ ((defScope st).names.lookup y.1 = some .cell ∧ ((cellsFrom (s.heap.objs.size + 1) (defScope st).names []).lookup y.1).isSome = true) := by
    intro y hy
    obtain ⟨n, v⟩ := y
    cases S.par n (List.of_mem_zip hy).1 with
    | inl q => exact Or.inl q
    | inr q => exact Or.inr ⟨q, PySem.W.cellsFrom_some _ _ _ (Or.inl q)⟩
  refine wpAny_newFunctionEnv_cells S.kind kinds fun env he s1 ic => ?_
  subst he
  have nolim : s.heap.NoLimit := e0.mod.nolimit.keeps fun b o e => (e0.bs b o e).1
  refine ⟨nolim.keeps ic.toInCall.keep, codeAny_func ?_⟩
  have J := inv_start (CX := CX0) (E := E) S hr.hd e0 (sz _ _ _ _ hsp) r ic
  refine wpAny_mono (ht.run [] s1 (start N vs) H _ J hq) (fun fl s' z => ?_) fun _ _ z => z
  match fl, z with
  | .ret u, z =>
    obtain ⟨v, σ', H', I, rv, q⟩ := z
    exact ⟨v, H', I.os, I.bare, I.base, I.hok, rv, q⟩
  | .next, z =>
    obtain ⟨σ', H', I, q⟩ := z
    exact ⟨V.non, H', I.os, I.bare, I.base, I.hok, rfl, q⟩
  | .brk, z =>
    obtain ⟨_, _, _, q⟩ := z
    exact q.elim
  | .cont, z =>
    obtain ⟨_, _, _, q⟩ := z
    exact q.elim
/-- what lets nothing out here may be called -/
theorem passN {X : Cx} : Passes (L2.CX X.prog X.w) X (fun _ _ _ => False) := fun _ _ _ _ _ _ _ c => by
  obtain ⟨_, _, _, _, _, _, _, _, _, _, _, _, z⟩ := c
  exact z.elim
theorem loc_of {names : List (Str × NameKind)} {N : List Str} (h : ∀ p ∈ names, p.2 = .local → p.1 ∉ N) : ∀ y, names.lookup y = some .local → y ∉ N := fun y e => h _ (PySem.mem_of_lookup e) rfl
end TSx

/-! Own layer, part U1: list of a text, a tuple times one, what stays where a list of refs is written; growing with tables. -/
namespace TSx
open PySem L2 PySem.Spec PyProof.Rows LamX
def rListS : List V → Hp → VK → Prop := fun xs H Q => ∃ x : Str, xs = [.str x] ∧ x.length ≤ 1000 ∧ ∀ p, H p = none → Q (.ref p) (upd H p (.lst (x.cps.toList.map fun c => V.str ⟨#[c]⟩)))
theorem call_listS {X : Cx} (hc : X.calm = true) : CallR X (.type "list") rListS := by
  intro pins s σ H xs us Q I r h
  obtain ⟨x, rfl, hx, q⟩ := h
  obtain ⟨u, rfl, t, rfl⟩ := vals1 r
  have hz : x.cps.size ≤ sizeLine := by
    have : x.cps.size = x.length := rfl
    rw [sizeLine_eq]; omega
  refine PySem.call_list_str (I.ok.hd hc) x t (fun h' tk acc' c' hk hS hacc => ?_) hz
  refine ⟨.ref s.heap.objs.size, upd H s.heap.objs.size (.lst (x.cps.toList.map fun c => V.str ⟨#[c]⟩)), I.laid hk (Nat.le_refl _) (show ObjOk X.prog X.w _ _ _ (.lst (x.cps.toList.map fun c => V.str ⟨#[c]⟩)) from ⟨?_, acc'.toList, c', ?_, ?_⟩), rfl, q _ (I.hok.fresh (Nat.le_refl _))⟩
  · rw [List.length_map, Array.length_toList]; exact hz
  · refine vals_of_at (by rw [List.length_map, Array.length_toList, Array.length_toList, hacc.1]) fun j a w h1 h2 => ?_
    obtain ⟨c, u, hc2, rfl⟩ := hacc.2 j w (by rw [← Array.getElem?_toList]; exact h2)
    rw [List.getElem?_map, Array.getElem?_toList, hc2] at h1
    cases h1
    exact ⟨_, rfl⟩
  · simpa using hS
def rRep1 (K : PySem.W.Frag) : R2 := fun x y H Q => ∃ l xs, x = .ref l ∧ y = .int 1 ∧ SqT K H l xs ∧ Q (.ref l) H
theorem tuple_mul1 (l : Addr) (items : Array Value) (n : Nat) (dd : Option Addr) (sl : Array (Option Value)) (u : Tok) :
    Meets (Builtin.«tuple.__mul__» ⟨[.ref l, .int 1 u], []⟩) (fun _ R s => s.heap.get? l = some { cls := .type "tuple", dict := dd, data := .seq items n, slots := sl } ∧ R (.ok (.ret (Value.ref l))) s) :=
  .of_wp fun prog w A R s h => by
    obtain ⟨hp, g, d, tk, os⟩ := s
    obtain ⟨hl, h⟩ := h
    have f1 := AutoSeq1.idx_int
    wp_walk using wpAny_loadPart' hl
    exact ⟨_, rfl, h⟩
theorem op_rep1 {X : Cx} : OpR X (binaryOp .Mult) (rRep1 X.K) := by
  intro pins s σ H x y v u Q I rx ry h
  obtain ⟨l, xs, rfl, rfl, hT, q⟩ := h
  cases rx
  obtain ⟨t, rfl⟩ := ry
  obtain ⟨its, r, ⟨⟨cls, dd, data, sl⟩, ho, hc, n, hd⟩, hs⟩ := I.tuple hT
  simp only at hc hd
  subst hc hd
  refine wpAny_binaryOp_repeat_ref (T := "tuple") (U := "int") (by decide) ⟨_, ho, rfl⟩ (fun s' => typeIs_int s' 1 t) noFill_tuple_mul F.fills_int_mul F.slot_int_rmul repeat_tuple F.slot_int_index.lookup
    (call_meets F.slot_int_rmul (typeIs_int s 1 t) F.entry_int_rmul (F.args_int_rmul_2 _ _) (int_rmul_tuple 1 t l its.toArray n dd sl)
      ⟨ho, rfl, ⟨_, ho, rfl⟩, call_meets F.slot_tuple_mul ⟨_, ho, rfl⟩ F.entry_tuple_mul (F.args_tuple_mul_2 _ _) (tuple_mul1 l its.toArray n dd sl t) ⟨ho, ?_⟩⟩)
  exact ⟨.ref l, H, I, rfl, q⟩
def rRepTA (K : PySem.W.Frag) : R2 := fun x y H Q => ∃ l k xs, x = .ref l ∧ y = .int k ∧ SqT K H l xs ∧ xs ≠ [] ∧ 1 ≤ k ∧ k ≤ 1000 ∧ xs.length ≤ 1000 ∧ (k = 1 → Q (.ref l) H) ∧ (2 ≤ k → ∀ p, H p = none → Q (.ref p) (upd H p (.tup (List.replicate k.toNat xs).flatten)))
theorem op_repTA {X : Cx} : OpR X (binaryOp .Mult) (rRepTA X.K) := by
  intro pins s σ H x y v u Q I rx ry h
  obtain ⟨l, k, xs, rfl, rfl, hT, hne, h1, h2, hz, q1, q2⟩ := h
  by_cases e : k = 1
  · subst e
    exact op_rep1 pins s σ H _ _ v u Q I rx ry ⟨l, xs, rfl, rfl, hT, q1 rfl⟩
  · exact op_repT pins s σ H _ _ v u Q I rx ry ⟨l, k, xs, rfl, rfl, hT, hne, by omega, h2, hz, q2 (by omega)⟩
/-! ### what stays where a list of refs is written -/
mutual
/-- each list in it is one of texts, and not empty; no dict -/
def D.sl : D → Bool
  | .non => true
  | .bl _ => true
  | .int _ => true
  | .str _ => true
  | .lst xs => !xs.isEmpty && xs.all fun d => match d with | .str _ => true | _ => false
  | .tup xs => slA xs
  | .dic _ => false
  | .exc _ _ => false
def slA : List D → Bool
  | [] => true
  | d :: ds => d.sl && slA ds
end
theorem slA_of : ∀ {ds : List D}, (∀ d ∈ ds, d.sl = true) → slA ds = true
  | [], _ => rfl
  | x :: xs, h => by
    simp only [slA, Bool.and_eq_true]
    exact ⟨h x (List.mem_cons_self ..), slA_of fun d m => h d (List.mem_cons_of_mem _ m)⟩
section
variable {K : PySem.W.Frag} {H H' : Hp} {L : Addr} {ys : List V} {o : HO}
mutual
theorem Dt.ovr (hL : H L = some (.lst ys)) (hy : ∀ y ∈ ys, ∃ a, y = V.ref a) : ∀ {v : V} {d : D}, Dt K H v d → d.sl = true → Dt K (upd H L o) v d
  | _, _, .non, _ => .non
  | _, _, .bl b, _ => .bl b
  | _, _, .int i, _ => .int i
  | _, _, .str x, _ => .str x
  | .ref p, .lst ds, @Dt.lst _ _ _ xs _ e aa, h => by
    simp only [D.sl, Bool.and_eq_true, List.all_eq_true] at h
    have fl : ∀ d ∈ ds, d.sc = true := fun d hd => by
      have := h.2 d hd
      cases d <;> first | rfl | cases this
    have ne : p ≠ L := fun z => by
      subst z
      rw [hL] at e
      cases e
      cases aa with
      | nil => exact absurd h.1 (by simp)
      | @cons v vs d ds a b =>
        obtain ⟨c, rfl⟩ := hy v (List.mem_cons_self ..)
        have q := h.2 d (List.mem_cons_self ..)
        cases a <;> cases q
    exact .lst (by rw [upd_ne ne]; exact e) (aa.any fl)
  | _, _, .tup e aa, h => by
    refine .tup ?_ (DtA.ovr hL hy aa h)
    rcases e with (e | ⟨u, e⟩) | e
    · exact Or.inl (Or.inl (by rw [upd_ne (fun z => by rw [z, hL] at e; cases e)]; exact e))
    · exact Or.inl (Or.inr ⟨u, by rw [upd_ne (fun z => by rw [z, hL] at e; cases e)]; exact e⟩)
    · exact Or.inr e
  | _, _, .dic e aa, h => by cases h
  | _, _, .exc e f aa, h => by cases h
theorem DtA.ovr (hL : H L = some (.lst ys)) (hy : ∀ y ∈ ys, ∃ a, y = V.ref a) : ∀ {v : List V} {d : List D}, DtA K H v d → slA d = true → DtA K (upd H L o) v d
  | _, _, .nil, _ => .nil
  | _, _, .cons a b, h => by
    simp only [slA, Bool.and_eq_true] at h
    exact .cons (Dt.ovr hL hy a h.1) (DtA.ovr hL hy b h.2)
end
/-! ### the memo changed, tables grown -/
def Kt (m g : Addr) (H H' : Hp) : Prop := ∀ b o, b ≠ m → b ≠ g → H b = some o → (∀ ps, o ≠ .tbl ps) → H' b = some o
variable {m c g : Addr} {v : V} {d : D} {H1 H2 : Hp}
theorem Kt.rf : Kt m g H H := fun _ _ _ _ e _ => e
theorem Kt.kp (h : Kp m g H H') : Kt m g H H' := fun b o h1 h2 e _ => h b o h1 h2 e
theorem Kt.ext (h : ExtN H H') : Kt m g H H' := fun b o _ _ e n => h b o e n
theorem wo_kt (s : Kt m g H H') : ExtN (wo (B2 m g) H) (wo (B2 m g) H') := fun b o e n => by
  unfold wo at e ⊢
  by_cases z : B2 m g b = true
  · rw [if_pos z] at e; cases e
  · rw [if_neg z] at e ⊢
    exact s b o (fun y => z (by rw [y]; exact B2_m)) (fun y => z (by rw [y]; exact B2_g)) e n
theorem Ap.kt (h : Ap K m g H v d) (k : Kt m g H H') : Ap K m g H' v d := Dt.ext (wo_kt k) h
theorem Kt.tr (a : Kt m g H H1) (b : Kt m g H1 H2) : Kt m g H H2 := fun x o h1 h2 e n => b x o h1 h2 (a x o h1 h2 e n) n
end
end TSx

/-! Own layer, part J0: what the drawn houses and stands need. -/
namespace TSx
open PySem L2
mutual
def D.nl : D → Bool
  | .tup xs => nlA xs
  | .non => true
  | .bl _ => true
  | .int _ => true
  | .str _ => true
  | _ => false
def nlA : List D → Bool
  | [] => true
  | x :: xs => x.nl && nlA xs
end
theorem nlA_map {α : Type} {f : α → D} (h : ∀ a, (f a).nl = true) : ∀ l : List α, nlA (l.map f) = true
  | [] => rfl
  | a :: l => by
    show ((f a).nl && nlA (l.map f)) = true
    rw [h a, nlA_map h l]
    rfl
theorem nl_way (w : Way) : w.d.nl = true := by cases w <;> rfl
theorem nl_seat (s : Seat) : s.d.nl = true := by
  show (true && (true && (s.way.d.nl && true))) = true
  rw [nl_way]; rfl
theorem nl_body (b : List Seat) : (bodyD b).nl = true := nlA_map nl_seat b
theorem mk_tupL {ta : TE} {σ : Sg} {H : Hp} {ds : List D} (h : Mk K ta σ H (.lst ds)) : Mk K (tCB (fun xs H Q => ∃ p ys, xs = [.ref p] ∧ ((SqL K H p ys ∧ ∀ l, H l = none → Q (.ref l) (upd H l (.tup ys))) ∨ (SqT K H p ys ∧ Q (.ref p) H))) (tCons ta tNil)) σ H (.tup ds) := fun H1 s Q q => h H1 s _ fun v H2 s2 a => by
  cases a with
  | @lst p xs _ e aa => exact ⟨p, xs, rfl, Or.inl ⟨SqL.of e, fun l nl => q _ _ (s2.trans (same_new nl)) (.tup (SqT.of upd_same) (aa.gr (same_new nl)))⟩⟩
def standD (s : List (List Bool)) : D := .tup (s.map fun l => .str (sideS l))
def Fits (h : House) (s : List (List Bool)) : Prop := s.map List.length = h.bodies.map List.length
theorem join_ok {l : List Bool} (h : l.length ≤ 1000) : ((l.map fun x => sideS [x]).map (·.length)).sum + (l.map fun x => sideS [x]).length * (Str.ofString "").length ≤ 16777216 := by
  have sm : ∀ l : List Bool, ((l.map fun x => sideS [x]).map (·.length)).sum = l.length := by
    intro l
    induction l with
    | nil => rfl
    | cons x l ih => rw [List.map_cons, List.map_cons, List.sum_cons, ih, List.length_cons, sideS_len]; simp; omega
  rw [sm, List.length_map]
  show l.length + l.length * 0 ≤ 16777216
  omega
/-! ### tuples stay where other things are written -/
def KT (H H' : Hp) : Prop := ∀ (b : Addr) (xs : List V), (H b = some (.tup xs) → H' b = some (.tup xs)) ∧ ∀ u, H b = some (.frz u (.tup xs)) → H' b = some (.frz u (.tup xs))
theorem KT.of {H H' : Hp} (s : Same H H') : KT H H' := fun b xs => ⟨s b _, fun u => s b _⟩
theorem KT.tr {H H1 H2 : Hp} (a : KT H H1) (b : KT H1 H2) : KT H H2 := fun x xs => ⟨fun e => (b x xs).1 ((a x xs).1 e), fun u e => (b x xs).2 u ((a x xs).2 u e)⟩
theorem KT.updL {H : Hp} {p : Addr} {xs : List V} {o : HO} (hp : H p = some (.lst xs)) : KT H (upd H p o) := fun b ys => ⟨fun e => by rw [upd_ne (fun z => by rw [z, hp] at e; cases e)]; exact e, fun u e => by rw [upd_ne (fun z => by rw [z, hp] at e; cases e)]; exact e⟩
theorem KT.kp {m c g : Addr} {H H' : Hp} {r : Nat} (M : MAt m c g H r) (k : Kp m g H H') : KT H H' := by
  obtain ⟨⟨n, cs, gs, h1, h2, h3, _⟩, _⟩ := M
  exact fun b xs => ⟨fun e => k b _ (fun z => by rw [z, h1] at e; cases e) (fun z => by rw [z, h3] at e; cases e) e, fun u e => k b _ (fun z => by rw [z, h1] at e; cases e) (fun z => by rw [z, h3] at e; cases e) e⟩
mutual
theorem Dt.kt {K : PySem.W.Frag} {H H' : Hp} (k : KT H H') : ∀ {d : D} {v : V}, Dt K H v d → d.nl = true → Dt K H' v d
  | .non, _, h, _ => by cases h; exact .non
  | .bl b, _, h, _ => by cases h; exact .bl b
  | .int i, _, h, _ => by cases h; exact .int i
  | .str x, _, h, _ => by cases h; exact .str x
  | .lst _, _, _, f => by cases f
  | .dic _, _, _, f => by cases f
  | .exc _ _, _, _, f => by cases f
  | .tup ds, _, h, f => by
    cases h with
    | @tup a xs _ e aa =>
    refine .tup ?_ (DtA.kt k aa f)
    rcases e with (e | ⟨u, e⟩) | e
    · exact Or.inl (Or.inl ((k a xs).1 e))
    · exact Or.inl (Or.inr ⟨u, (k a xs).2 u e⟩)
    · exact Or.inr e
theorem DtA.kt {K : PySem.W.Frag} {H H' : Hp} (k : KT H H') : ∀ {ds : List D} {vs : List V}, DtA K H vs ds → nlA ds = true → DtA K H' vs ds
  | [], _, h, _ => by cases h; exact .nil
  | d :: ds, _, h, f => by
    cases h with
    | cons a b =>
    simp only [nlA, Bool.and_eq_true] at f
    exact .cons (Dt.kt k a f.1) (DtA.kt k b f.2)
end
theorem MAt.upd' {m c g p : Addr} {H : Hp} {r : Nat} {o : HO} (M : MAt m c g H r) (h1 : p ≠ m) (h2 : p ≠ c) (h3 : p ≠ g) : MAt m c g (upd H p o) r := by
  obtain ⟨⟨n, cs, gs, a1, a2, a3, a4⟩, ne⟩ := M
  exact ⟨⟨n, cs, gs, by rw [upd_ne (Ne.symm h1)]; exact a1, by rw [upd_ne (Ne.symm h2)]; exact a2, by rw [upd_ne (Ne.symm h3)]; exact a3, a4⟩, ne⟩
theorem new_m3 {m c g : Addr} {H : Hp} {r : Nat} (M : MAt m c g H r) {p : Addr} (np : H p = none) : p ≠ m ∧ p ≠ c ∧ p ≠ g := by
  obtain ⟨⟨n, cs, gs, h1, h2, h3, _⟩, _⟩ := M
  exact ⟨(fun z => by rw [z, h1] at np; cases np), (fun z => by rw [z, h2] at np; cases np), (fun z => by rw [z, h3] at np; cases np)⟩
/-! ### the houses that are drawn -/
def common (ns : List Int) : Nat := if ns = [1, 2, 3, 4, 6] then 12 else if ns = [1, 2, 3] then 6 else if ns = [1, 2, 4] then 4 else if ns = [1, 5] then 5 else if ns = [2, 3, 3] then 6 else 1
theorem common_ok : ∀ ns ∈ termLists, common ns ≤ 12 ∧ ∀ n ∈ ns, 1 ≤ n ∧ n ≤ 6 ∧ n.toNat ∣ common ns := by decide +kernel
structure DrawnS (ns : List Int) (n wards : Nat) (s : Seat) : Prop where
  t : (s.term : Int) ∈ ns
  p : s.phase < s.term
  w : s.way.ok n wards
theorem lcmB_dvd {L : Nat} {b : List Seat} : ∀ {c : Nat}, c ∣ L → (∀ s ∈ b, s.term ∣ L) → lcmB c b ∣ L := by
  induction b with
  | nil => intro c h _; exact h
  | cons s l ih =>
    intro c h a
    refine ih (c := (Nat.lcm 1 c).lcm s.term) ?_ fun x hx => a x (List.mem_cons_of_mem _ hx)
    rw [Nat.lcm_one_left]
    exact Nat.lcm_dvd h (a s (List.mem_cons_self ..))
theorem drawn_ok {ns : List Int} {bs : List (List Seat)} {wards : Nat} (hn : ns ∈ termLists) (w4 : wards ≤ 4) (l1 : 1 ≤ bs.length) (l3 : bs.length ≤ 3) (hb : ∀ b ∈ bs, 1 ≤ b.length ∧ b.length ≤ 3 ∧ ∀ s ∈ b, DrawnS ns bs.length wards s) : House.ok ⟨bs, wards⟩ := by
  obtain ⟨c12, cn⟩ := common_ok ns hn
  have tt : ∀ b ∈ bs, ∀ s ∈ b, 1 ≤ s.term ∧ s.term ≤ 6 ∧ s.term ∣ common ns := fun b hb' s hs => by
    have := cn _ ((hb b hb').2.2 s hs).t
    exact ⟨by omega, by omega, this.2.2⟩
  refine ⟨w4, l1, l3, fun b hb' => ⟨(hb b hb').1, by have := (hb b hb').2.1; omega⟩, ?_, fun b hb' s hs => ⟨(tt b hb' s hs).1, (tt b hb' s hs).2.1, ((hb b hb').2.2 s hs).p, ((hb b hb').2.2 s hs).w⟩, ?_⟩
  · have : ∀ l : List (List Seat), (∀ b ∈ l, b.length ≤ 3) → (l.map fun b => (b.length : Int)).sum ≤ 3 * (l.length : Int) := by
      intro l
      induction l with
      | nil => intro _; decide
      | cons b l ih =>
        intro h
        have q := ih fun x hx => h x (List.mem_cons_of_mem _ hx)
        have q2 := h b (List.mem_cons_self ..)
        rw [List.map_cons, List.sum_cons, List.length_cons]
        push_cast
        omega
    have q := this bs fun b hb' => (hb b hb').2.1
    show (bs.map fun b => (b.length : Int)).sum ≤ 9
    omega
  · have : lcmH ⟨bs, wards⟩ ∣ common ns := by
      have gen : ∀ (l : List (List Seat)) (c : Nat), c ∣ common ns → (∀ b ∈ l, ∀ s ∈ b, s.term ∣ common ns) → l.foldl lcmB c ∣ common ns := by
        intro l
        induction l with
        | nil => intro c h _; exact h
        | cons b l ih => intro c h a; exact ih _ (lcmB_dvd h (a b (List.mem_cons_self ..))) fun x hx => a x (List.mem_cons_of_mem _ hx)
      exact gen bs 1 (Nat.one_dvd _) fun b hb' s hs => (tt b hb' s hs).2.2
    have pos : 0 < common ns := by unfold common; split <;> (try split) <;> (try split) <;> (try split) <;> (try split) <;> omega
    exact Nat.le_trans (Nat.le_of_dvd pos this) c12
theorem nl_house (h : House) : h.d.nl = true := by
  show (nlA (h.bodies.map bodyD) && (true && true)) = true
  rw [nlA_map nl_body]; rfl
def spHome (K : PySem.W.Frag) : Sp := fun vs H Q _ => ∃ (m c g : Addr) (r : Nat), vs = [.ref m, .int 3, .int 3, .int 4] ∧ MAt m c g H (r + 100) ∧ ∀ v H' (h : House), h.ok → Dt K H' v h.d → MAt m c g H' r → Kp m g H H' → Q v H'
theorem r_for {wi : TI} {gg : TG} {tb : TS} {D : Ends} {σ : Sg} {H : Hp} (q : wi σ H fun J H1 => ∃ W : Nat → Nat → Sg → Hp → Prop, (∃ m, W 0 m σ H1) ∧ ∀ i m σ H, W i m σ H →
    (J.stop i H ∧ D.nx σ H) ∨ (J.go i H ∧ ∃ N : Sg → Hp → Prop, (∀ σ' H', N σ' H' → ∃ m', m' < m ∧ W (i + 1) m' σ' H') ∧ ∀ x H', J.yld i H x H' → gg x σ H' fun σ2 H2 => tb { D with nx := N, ct := N, bk := D.nx } σ2 H2)) : tFor wi gg tb D σ H := q
theorem r_rng1 {ta : TA} {σ : Sg} {H : Hp} {R : It → Hp → Prop} (q : ta σ H fun vs H1 => ∃ j : Int, vs = [.int j] ∧ -(2 ^ 62) ≤ j ∧ j < 2 ^ 62 ∧ R (Itr 0 j.toNat) H1) : iRng1 ta σ H R := q
theorem len_terms : ∀ ns ∈ termLists, 0 < ns.length ∧ ns.length ≤ 5 := by decide
def spFirst (K : PySem.W.Frag) : Sp := fun vs H Q _ => ∃ (m c g : Addr) (r : Nat) (x : V) (h : House), vs = [.ref m, x] ∧ Dt K H x h.d ∧ h.ok ∧ MAt m c g H (r + 27) ∧ ∀ v H' s, Fits h s → Dt K H' v (standD s) → MAt m c g H' r → Kp m g H H' → Q v H'
theorem lc_letters {K : PySem.W.Frag} {J : It} {n : Nat} {G : Hp → Prop} {Y : Nat → Hp → V → Hp → Prop} (w : Walk J n G Y) (hY : ∀ i H x H', Y i H x H' → H' = H) {m c g L : Addr} {r i0 : Nat} {σ : Sg} {H : Hp} {Qd : Hp → Prop} (hG : ∀ H', KT H H' → G H') (hn : n ≤ 9)
    (hm : ∀ x, ((wipe σ [i0]).set i0 (some x))[0]? = some (some (.ref m))) (hw : ∀ x, wipe ((wipe σ [i0]).set i0 (some x)) [i0] = wipe σ [i0]) (M : MAt m c g H (r + n)) (nL : H L = none)
    (hd : ∀ H' (l : List Bool), l.length = n → H' L = some (.lst (l.map fun x => V.str (sideS [x]))) → MAt m c g H' r → Kp m g H H' → KT H H' → Qd H') :
    ∃ W : Nat → Nat → Hp → Prop, (∃ m, W 0 m (upd H L (.lst []))) ∧ ∀ i m H, W i m H →
      (J.stop i H ∧ Qd H) ∨ (J.go i H ∧ ∃ Nx : Hp → Prop, (∀ H', Nx H' → ∃ m', m' < m ∧ W (i + 1) m' H') ∧ ∀ x H', J.yld i H x H' → gName i0 x (wipe σ [i0]) H' fun σ2 H2 => wipe σ2 [i0] = wipe σ [i0] ∧ tYes σ2 H2 fun b H3 =>
        if b = true then tCall (spOf K) [] E0 (tCons (tVar 0) (tCons (tC (.str "ab")) tNil)) σ2 H3 fun y H4 => ∃ acc, H4 L = some (.lst acc) ∧ acc.length < sizeLine ∧ Nx (upd H4 L (.lst (acc ++ [y]))) else Nx H3) := by
  obtain ⟨Lm, Lc, Lg⟩ := new_m3 M nL
  refine lc_it w (fun j H' => ∃ l : List Bool, l.length = j ∧ H' L = some (.lst (l.map fun x => V.str (sideS [x]))) ∧ MAt m c g H' (r + (n - j)) ∧ Kp m g H H' ∧ KT H H') ⟨[], rfl, upd_same, M.same (same_new nL), Kp.of (same_new nL), KT.of (same_new nL)⟩ (fun j H' _ z => by obtain ⟨_, _, _, _, _, z⟩ := z; exact hG _ z) ?_ ?_
  · rintro j x H' H'' hj ⟨l, ll, hL, M', kp, kt⟩ y
    have := hY _ _ _ _ y
    subst this
    refine r_name ⟨hw x, r_yes ?_⟩
    refine r_call (r_cons (r_v (hm x) (r_cons (r_c (r_nil ?_)))))
    refine ⟨m, c, g, r + (n - (j + 1)), _, rfl, M'.less (by omega), Or.inr ⟨[true, false], by rw [show sideS [true, false] = Str.ofString "ab" by decide +kernel], by decide, by decide, fun b H3 _ M3 k3 => ?_⟩⟩
    have hL3 := k3 _ _ Lm Lg hL
    have kt3 : KT H'' H3 := KT.kp M' k3
    refine ⟨_, hL3, by rw [List.length_map, ll]; exact sz2 (by omega), l ++ [b], by rw [List.length_append, ll]; rfl, by rw [upd_same, List.map_append]; rfl, M3.upd' Lm Lc Lg, fun a o h1 h2 e => ?_, (kt.tr kt3).tr (KT.updL hL3)⟩
    rw [upd_ne (fun z => by rw [z, nL] at e; cases e)]
    exact k3 _ _ h1 h2 (kp _ _ h1 h2 e)
  · rintro H' ⟨l, ll, hL, M', kp, kt⟩
    exact hd H' l ll hL (M'.less (by omega)) kp kt
end TSx

/-! Own layer, part Z5: zip of a text and a tuple. -/
namespace TSx
open PySem L2 PySem.Spec PyProof.Rows
/-- the tuple at a and the text x, side by side -/
def ItzX (K : PySem.W.Frag) (x : Str) (a : Addr) : It :=
  ⟨fun i H => ∃ (xs : List V) (v : V) (c : Nat), SqT K H a xs ∧ xs[i]? = some v ∧ x.cps[i]? = some c,
    fun i H v H' => ∃ (T : Addr) (u : V) (c : Nat), v = .ref T ∧ H T = none ∧ H' = upd H T (.tup [.str ⟨#[c]⟩, u]) ∧ (∀ xs, SqT K H a xs → xs[i]? = some u) ∧ x.cps[i]? = some c,
    fun i H => ∃ xs : List V, SqT K H a xs ∧ i ≤ xs.length ∧ i ≤ x.cps.size ∧ (i = xs.length ∨ i = x.cps.size)⟩
theorem turn_zipX {P : Program} {w : World} {K : PySem.W.Frag} {elts : List Expr} {kk : Nat} {tpos : Pos} {a z TI TO i1 i2 : Addr} {x : Str} {t : Tok} (S : ZipSep2 z TI TO i1 i2 [i1] [i2, a]) :
    Turn P w K (.Tuple elts kk tpos) (ItzX K x a) [z, TI, TO, i1, i2] z (fun i h => IsZip h z TI TO .none ∧ IsTupOf2 h TI (.ref i1) (.ref i2) ∧ (∃ p q, IsTupOf2 h TO p q) ∧ h.IsStrIter i1 (strIterType x) x t i ∧ h.IsTupleIter i2 a i) where
  mem := by simp
  obj := fun i h st c hc => by
    obtain ⟨hz, hTI, ⟨p, q, hTO⟩, ⟨o1, e1, _, d1⟩, ⟨o2, e2, _, d2⟩⟩ := st
    have e' : c = z ∨ c = TI ∨ c = TO ∨ c = i1 ∨ c = i2 := by simpa using hc
    rcases e' with q | q | q | q | q
    · rw [q]; exact ⟨_, hz, fun v q => nomatch q⟩
    · rw [q]; exact ⟨_, hTI, fun v q => nomatch q⟩
    · rw [q]; exact ⟨_, hTO, fun v q => nomatch q⟩
    · rw [q]; exact ⟨o1, e1, fun v q => by rw [d1] at q; cases q⟩
    · rw [q]; exact ⟨o2, e2, fun v q => by rw [d2] at q; cases q⟩
  keep := fun i h h' st k => by
    obtain ⟨hz, hTI, ⟨p, q, hTO⟩, ⟨o1, e1, r1⟩, ⟨o2, e2, r2⟩⟩ := st
    exact ⟨k z (by simp) _ hz, k TI (by simp) _ hTI, ⟨p, q, k TO (by simp) _ hTO⟩, ⟨o1, k i1 (by simp) _ e1, r1⟩, ⟨o2, k i2 (by simp) _ e2, r2⟩⟩
  item := by
    intro X hP hw hK hc i pins s σ H E I hf st hg
    subst hP hw hK
    obtain ⟨hz, hTI, ⟨p0, q0, hTO⟩, h1, h2⟩ := st
    obtain ⟨xs, v, c, hq, hx, hc'⟩ := hg
    obtain ⟨its, rv, pt, _⟩ := I.tuple hq
    obtain ⟨u, hu, ru⟩ := rv.get hx
    have ne1 : a ≠ i2 := fun e => by
      obtain ⟨o, ho, hcl, _⟩ := pt
      obtain ⟨o1, e1, c1, _⟩ := h2
      rw [e] at ho
      rw [e1] at ho
      cases ho
      rw [hcl] at c1
      exact absurd (Value.type.inj c1) (by decide)
    have hzl : z < s.heap.objs.size := Heap.lt_size hz
    have li1 : i1 < s.heap.objs.size := by obtain ⟨_, e1, _⟩ := h1; exact Heap.lt_size e1
    have li2 : i2 < s.heap.objs.size := by obtain ⟨_, e2, _⟩ := h2; exact Heap.lt_size e2
    have lTI : TI < s.heap.objs.size := Heap.lt_size hTI
    have lTO : TO < s.heap.objs.size := Heap.lt_size hTO
    have D1 := Draws.text (prog := X.prog) (w := X.w) (A := X.A.in1) (I.ok.hd hc) i1 x t
    have D2 := Draws.tuple (prog := X.prog) (w := X.w) (A := X.A.in1) (I.ok.hd hc) i2 a ne1 its.toArray
    have l1 : i < its.toArray.size := by
      have : i < its.length := (List.getElem?_eq_some_iff.mp (by simpa using hu)).1
      simpa using this
    have l2 : i < x.cps.size := (Array.getElem?_eq_some_iff.mp hc').1
    refine wpAny_pyNext_zipD2_item S D1 D2 hz hTI hTO h1 ⟨h2, pt⟩ l2 l1 fun x2 x1 h' tk y2 y1 b1 b2 d1 d2 b5 b6 hk => ?_
    have e1 : x1 = u := by
      have hu' : its.toArray[i]? = some u := by simpa using hu
      rw [hu'] at y1
      exact (Option.some.inj y1).symm
    subst e1
    obtain ⟨c', u2, hc2, rfl⟩ := y2
    rw [hc'] at hc2
    cases hc2
    refine ⟨_, rfl, wpAny_letOwnedTupleGo_zip (s := { s with heap := h', toks := tk }) b1 fun h'' z'' sb => ?_⟩
    have T2 : h''.get? s.heap.objs.size = some { cls := .type "tuple", data := .seq #[.str ⟨#[c]⟩ u2, x1] } := (sb.2 _ (Nat.ne_of_gt hzl)).trans b5
    have new : ObjOk X.prog X.w (upd H s.heap.objs.size (.tup [.str ⟨#[c]⟩, v])) h'' s.heap.objs.size (.tup [.str ⟨#[c]⟩, v]) :=
      ⟨by show 2 ≤ sizeLine; decide, [.str ⟨#[c]⟩ u2, x1], .cons ⟨_, rfl⟩ (.cons ru .nil), ⟨_, T2, rfl, _, rfl⟩⟩
    have I1 : Inv X pins σ (upd H s.heap.objs.size (.tup [.str ⟨#[c]⟩, v])) { s with heap := h'', toks := tk } :=
      I.turnedNew (ch := [z, TI, TO, i1, i2]) (fun b o hb q => (sb.2 b (fun q' => hb (by simp [q']))).trans (hk b o (fun q' => hb (by simp [q'])) (fun q' => hb (by simp [q'])) (fun q' => hb (by simp [q'])) (fun q' => hb (by simp [q'])) q)) hf (Nat.le_refl _) new
    refine ⟨.ref s.heap.objs.size, _, I1, rfl, ⟨_, v, c, rfl, I.hok.fresh (Nat.le_refl _), rfl, fun l hl => by rw [I.tuple_inj hl hq]; exact hx, hc'⟩, ⟨z'', ?_, ⟨.str ⟨#[c]⟩ u2, x1, ?_⟩, ?_, ?_⟩, fun b hb => ?_⟩
    · exact (sb.2 _ S.TIz).trans (hk _ _ S.TIz S.TITO S.TIi1 S.TIi2 hTI)
    · exact (sb.2 _ S.TOz).trans b2
    · obtain ⟨o1, e1, r1⟩ := d1
      exact ⟨o1, (sb.2 _ (Ne.symm S.zi1)).trans e1, r1⟩
    · obtain ⟨⟨o2, e2, r2⟩, _⟩ := d2
      exact ⟨o2, (sb.2 _ (Ne.symm S.zi2)).trans e2, r2⟩
    · have lt : b < s.heap.objs.size := by
        have e' : b = z ∨ b = TI ∨ b = TO ∨ b = i1 ∨ b = i2 := by simpa using hb
        rcases e' with q | q | q | q | q <;> rw [q] <;> assumption
      rw [upd_ne (Nat.ne_of_lt lt)]
      exact (hf b hb).1
  done := by
    intro X hP hw hK hc i pins s σ H E I hf st hg
    subst hP hw hK
    obtain ⟨hz, hTI, ⟨p0, q0, hTO⟩, h1, h2⟩ := st
    obtain ⟨xs, hq, n1, n2, hend⟩ := hg
    obtain ⟨its, rv, pt, _⟩ := I.tuple hq
    have l1 := rv.length
    have ne1 : a ≠ i2 := fun e => by
      obtain ⟨o, ho, hcl, _⟩ := pt
      obtain ⟨o1, e1, c1, _⟩ := h2
      rw [e] at ho
      rw [e1] at ho
      cases ho
      rw [hcl] at c1
      exact absurd (Value.type.inj c1) (by decide)
    have D1 := Draws.text (prog := X.prog) (w := X.w) (A := X.A.in1) (I.ok.hd hc) i1 x t
    have D2 := Draws.tuple (prog := X.prog) (w := X.w) (A := X.A.in1) (I.ok.hd hc) i2 a ne1 its.toArray
    have sz : its.toArray.size = xs.length := by rw [List.size_toArray]; exact l1.symm
    refine wpAny_pyNext_zipD2_end S D1 D2 hz hTI hTO h1 ⟨h2, pt⟩ n2 (by omega) (by omega) fun h' tk hk => ⟨rfl, I.turnedL (t' := tk) (ch := [z, TI, TO, i1, i2]) (fun b o hb q =>
      hk b o (fun q' => hb (by simp [q'])) (fun q' => hb (by simp [q'])) (fun q' => hb (by simp [q'])) (fun q' => hb (by simp [q'])) q) hf⟩
  self := fun A i s Q E st h => wpAny_pyIter_zip st.1 h
def iZipX (K : PySem.W.Frag) (ta : TA) : TI := fun σ H R => ta σ H fun vs H1 => ∃ (a : Addr) (x : Str) (xs : List V), vs = [.str x, .ref a] ∧ SqT K H1 a xs ∧ R (ItzX K x a) H1
theorem pi_zipX {X : Cx} {e e2 : Expr} {ta : TA} {p pos tpos : Pos} {elts : List Expr} {kk : Nat} (hg : Gl X "zip") (hm : X.mg "zip" = none) (ha : PA X [e, e2] ta)
    (hs : starEach [e, e2] X.env = (false, eval e X.env) :: starEach [e2] X.env := by rfl) (hpl : (backTo pos (starEach [e2] X.env)).any (·.1) = false := by rfl) :
    PI X (.Tuple elts kk tpos) (.Call (.Name "zip" p) [e, e2] [] pos) (iZipX X.K ta) := by
  constructor
  intro pins s σ H R I h
  refine Call_ (ld_blt I hg hm PyProof.Rows.boot_zip (PyProof.Rows.callWith_type1 (thn (ha.run pos pins s σ H _ I h) fun us s1 z => ?_) hs hpl))
  obtain ⟨vs, H1, I1, r1, a, x, xs, ex, hq, q⟩ := z
  subst ex
  obtain ⟨u2, u1, rfl, rx, ra⟩ := vals2 r1
  cases (show u1 = Value.ref a from ra)
  obtain ⟨t, rfl⟩ := (show ∃ t, u2 = Value.str x t from rx)
  obtain ⟨its, rv, pt, _⟩ := I1.tuple hq
  have la : a < s1.heap.objs.size := by obtain ⟨o, ho, _⟩ := id pt; exact Heap.lt_size ho
  refine zip_begins2 (begins_text x t) (begins_tuple a its.toArray) trivial pt fun h' hz hTI hTO g1 g2 hsz hk => wpAny_pyIter_zip hz ?_
  have I2 : Inv X pins σ H1 { s1 with heap := h' } := I1.kept (t' := s1.toks) hk
  refine ⟨s1.heap.objs.size + 4, [s1.heap.objs.size + 4, s1.heap.objs.size + 2, s1.heap.objs.size + 3, s1.heap.objs.size, s1.heap.objs.size + 1], _, _, H1, rfl, I2,
    turn_zipX (t := t) (zip_sep2 (N := s1.heap.objs.size) (fp1 := []) (fp2 := [a]) (fun b hb => nomatch hb) (fun b hb => by rw [List.mem_singleton.mp hb]; exact la)), ⟨hz, hTI, ⟨_, _, hTO⟩, ⟨_, g1, rfl, rfl⟩, ⟨_, g2, rfl, rfl⟩⟩, fun c hc => ?_, q⟩
  have e' : c = s1.heap.objs.size + 4 ∨ c = s1.heap.objs.size + 2 ∨ c = s1.heap.objs.size + 3 ∨ c = s1.heap.objs.size ∨ c = s1.heap.objs.size + 1 := by simpa using hc
  have hle : s1.heap.objs.size ≤ c := by
    rcases e' with z | z | z | z | z <;> rw [z] <;> first | exact Nat.le_add_right _ _ | exact Nat.le_refl _
  exact I1.fpOk hle (I1.hok.fresh hle)
end TSx

/-! Own layer, part V0: comprehensions whose things are tuples; a few rules with K given; zip of a text and a tuple. -/
namespace TSx
open PySem L2
/-- a comprehension whose things are tuples, or have no parts: at turn k e k, or nothing -/
theorem lc_flatN {K : PySem.W.Frag} {σ : Sg} {te : TE} {g : TG} {J : It} {n : Nat} {G : Hp → Prop} {Y : Nat → Hp → V → Hp → Prop} (w : Walk J n G Y) {tt : TT} {vs : List Nat} {H1 : Hp} {L : Addr} {Qd : Hp → Prop} (e : Nat → Option D) (nl : ∀ k d, e k = some d → d.nl = true) (nL : H1 L = none) (hG : ∀ H', Same H1 H' → G H') (hn : n ≤ 1000)
    (step : ∀ k x H' H'', k < n → Same H1 H' → Y k H' x H'' → Same H' H'' ∧ ∀ R : Sg → Hp → Prop, (∀ σ2, wipe σ2 vs = wipe σ vs → (∀ d, e k = some d → MkT tt σ2 H'' true ∧ Mk K te σ2 H'' d) → (e k = none → MkT tt σ2 H'' false) → R σ2 H'') → g x (wipe σ vs) H'' R)
    (hd : ∀ H' xs, Same H1 H' → H' L = some (.lst xs) → DtA K H' xs ((List.range n).filterMap e) → Qd H') :
    ∃ W : Nat → Nat → Hp → Prop, (∃ m, W 0 m (upd H1 L (.lst []))) ∧ ∀ i m H, W i m H →
      (J.stop i H ∧ Qd H) ∨ (J.go i H ∧ ∃ Nx : Hp → Prop, (∀ H', Nx H' → ∃ m', m' < m ∧ W (i + 1) m' H') ∧ ∀ x H', J.yld i H x H' → g x (wipe σ vs) H' fun σ2 H2 => wipe σ2 vs = wipe σ vs ∧ tt σ2 H2 fun b H3 =>
        if b = true then te σ2 H3 fun y H4 => ∃ acc, H4 L = some (.lst acc) ∧ acc.length < sizeLine ∧ Nx (upd H4 L (.lst (acc ++ [y]))) else Nx H3) := by
  have flat : ∀ j, nlA ((List.range j).filterMap e) = true := fun j => by
    have gen : ∀ ks : List Nat, nlA (ks.filterMap e) = true := by
      intro ks
      induction ks with
      | nil => rfl
      | cons k ks ih =>
        rw [List.filterMap_cons]
        cases he : e k with
        | none => exact ih
        | some d =>
          show (d.nl && nlA (ks.filterMap e)) = true
          rw [nl k d he, ih]
          rfl
    exact gen _
  refine lc_it w (fun j H' => Same H1 H' ∧ ∃ xs : List V, H' L = some (.lst xs) ∧ xs.length ≤ j ∧ DtA K H' xs ((List.range j).filterMap e)) ⟨same_new nL, [], upd_same, Nat.le_refl _, .nil⟩ (fun j H' _ z => hG _ z.1) ?_ ?_
  · rintro k x H' H'' hk ⟨s', xs, ex, lx, ax⟩ y
    obtain ⟨s2, st⟩ := step k x H' H'' hk s' y
    refine st _ fun σ2 hw h1 h2 => ⟨hw, ?_⟩
    have rg : (List.range (k + 1)).filterMap e = (List.range k).filterMap e ++ (e k).toList := by
      rw [List.range_succ, List.filterMap_append]
      cases he : e k <;> simp [he]
    cases he : e k with
    | none =>
      refine h2 he H'' Gr.rfl' _ fun H3 s3 => ?_
      refine iteF ⟨s'.trans (s2.trans s3), xs, (s2.trans s3) _ _ ex, by omega, ?_⟩
      rw [rg, he]
      simpa using ax.gr (s2.trans s3)
    | some d =>
      obtain ⟨t1, m1⟩ := h1 d he
      refine t1 H'' Gr.rfl' _ fun H3 s3 => ?_
      refine iteT ?_
      refine m1 H3 s3 _ fun v H4 s4 av => ?_
      have sA := (s2.trans s3).trans s4
      have kt : KT H4 (upd H4 L (.lst (xs ++ [v]))) := KT.updL (sA _ _ ex)
      refine ⟨xs, sA _ _ ex, sz2 (by omega), same_mut (s'.trans sA) nL, xs ++ [v], upd_same, by rw [List.length_append]; simpa using lx, ?_⟩
      rw [rg, he]
      exact (DtA.kt kt (ax.gr sA) (flat k)).app (.cons (Dt.kt kt av (nl k d he)) .nil)
  · rintro H' ⟨s', xs, ex, lx, ax⟩
    exact hd H' xs s' ex ax
section
variable {K : PySem.W.Frag} {σ : Sg} {H H0 : Hp} {te ta tb tc ti : TE} {α : Type}
theorem mk_lcNM {i : Nat} {l : List α} {g f : α → D} (h : Mk K ti σ H (.tup (l.map g))) (hf : ∀ a, (f a).nl = true) (hl : l.length ≤ 1000) (step : ∀ a ∈ l, ∀ x H1, Same H H1 → Dt K H1 x (g a) → Mk K te ((σ.set i none).set i (some x)) H1 (f a)) :
    Mk K (tLc (iTup K ti) (gName i) tYes te [i]) σ H (.lst (l.map f)) := fun H0 s0 Q q => h H0 s0 _ fun v H1 s1 a => by
  have s := s0.trans s1
  cases a with
  | @tup p xs _ e aa =>
    have lx := aa.len
    rw [List.length_map] at lx
    refine ⟨p, rfl, ⟨xs, e⟩, fun L nL => lc_flatN (K := K) (walk_tup (K := K) (a := p) (xs := xs)) (fun k => (l[k]?).map f) (fun k d hk => ?_) nL (fun H' s' => gr_T s' e) (by omega) ?_ ?_⟩
    · cases hd : l[k]? with
      | none => rw [hd] at hk; cases hk
      | some y => rw [hd] at hk; cases hk; exact hf y
    · rintro k x H' H'' hk s' ⟨rfl, hx⟩
      obtain ⟨y, hy, ay⟩ := aa.at hx
      obtain ⟨b, hb, rfl⟩ := at_map hy
      refine ⟨Gr.rfl', fun R r => r_name (r _ ?_ (fun d hd => ⟨fun H2 s2 Q2 q2 => q2 H2 Gr.rfl', ?_⟩) fun hd => ?_)⟩
      · show ((σ.set i none).set i (some x)).set i none = σ.set i none
        rw [List.set_set, List.set_set]
      · rw [hb] at hd
        cases hd
        exact step b (List.mem_of_getElem? hb) x _ (s.trans s') (ay.gr s')
      · rw [hb] at hd; cases hd
    · intro H' ys s' e' a'
      refine q _ _ (s1.trans s') (.lst e' ?_)
      rw [lx, fm_get f l] at a'
      exact a'
end
theorem call_tuple_ofK {X : Cx} {K : PySem.W.Frag} (h : X.K = K) : CallR X (.type "tuple") (fun xs H Q => ∃ p ys, xs = [V.ref p] ∧ ((SqL K H p ys ∧ ∀ l, H l = none → Q (V.ref l) (upd H l (HO.tup ys))) ∨ (SqT K H p ys ∧ Q (V.ref p) H))) := by
  subst h
  exact call_tuple_of
theorem sl_tupAK {X : Cx} {K : PySem.W.Frag} (h : X.K = K) : SlR X (rSlA K) := by subst h; exact sl_tupA
theorem walk_zipX {K : PySem.W.Frag} {a : Addr} {xs : List V} {x : Str} (hl : xs.length = x.cps.size) : Walk (ItzX K x a) xs.length (fun H => SqT K H a xs) (YPair (fun i => x.cps[i]?.map fun c => .str ⟨#[c]⟩) (fun i => xs[i]?)) :=
  ⟨fun i H hi h => ⟨xs, xs[i], x.cps[i]'(by omega), h, List.getElem?_eq_getElem hi, Array.getElem?_eq_getElem _⟩, fun H h => ⟨xs, h, Nat.le_refl _, by omega, Or.inl rfl⟩, fun i H v H' hi h y => by
    obtain ⟨T, u, c, rfl, hT, rfl, f1, f2⟩ := y
    exact ⟨T, _, u, rfl, hT, rfl, by show (x.cps[i]?).map _ = _; rw [f2]; rfl, f1 xs h⟩⟩
end TSx

/-! Own layer, part Y0: readings over data alone. A def's own lists and the law's drawn state stand hidden (Vw.Z); each reading of the heap is tied to one over data (EV, TV, ..), draws being any value below their limit. -/
namespace TSx
open PySem L2
/-- what a slot holds -/
inductive Sl where
  | d (x : D) | own (xs : List D) | memo | scr (ns : List Int)
abbrev SD := List (Option Sl)
def Sl.no : Sl → Bool
  | .own _ => false
  | _ => true
structure Vw where
  Z : Addr → Bool
  mm : Option (Addr × Addr × Addr)
def Vw.mut (U : Vw) (b : Addr) : Prop := ∃ m c g, U.mm = some (m, c, g) ∧ (b = m ∨ b = g)
def Vw.see (U : Vw) (H : Hp) : Hp := wo U.Z H
def Step (U : Vw) (H H' : Hp) : Prop := ∀ b o, ¬ U.mut b → H b = some o → H' b = some o
structure Ok (U : Vw) (H : Hp) (r : Nat) : Prop where
  dom : ∀ b, U.Z b = true → H b ≠ none
  memo : ∀ m c g, U.mm = some (m, c, g) → U.Z m = true ∧ U.Z c = true ∧ U.Z g = true ∧ MAt m c g H r
section
variable {U : Vw} {H H' H1 H2 : Hp} {r : Nat} {K : PySem.W.Frag}
theorem Ok.mutZ (h : Ok U H r) {b : Addr} (m : U.mut b) : U.Z b = true := by
  obtain ⟨m, c, g, e, z⟩ := m
  obtain ⟨h1, h2, h3, _⟩ := h.memo _ _ _ e
  rcases z with rfl | rfl
  · exact h1
  · exact h3
theorem Step.rf : Step U H H := fun _ _ _ e => e
theorem Step.tr (a : Step U H H1) (b : Step U H1 H2) : Step U H H2 := fun x o n e => b x o n (a x o n e)
theorem Step.of (s : Same H H') : Step U H H' := fun b o _ e => s b o e
theorem see_at {b : Addr} (h : U.Z b = false) : U.see H b = H b := wo_at h
theorem see_of {b : Addr} {o : HO} (h : U.see H b = some o) : U.Z b = false ∧ H b = some o := by
  unfold Vw.see wo at h
  by_cases z : U.Z b = true
  · rw [if_pos z] at h; cases h
  · rw [if_neg z] at h; exact ⟨by simpa using z, h⟩
theorem see_le : Same (U.see H) H := wo_le
theorem Step.see (s : Step U H H') (ok : Ok U H r) : Same (U.see H) (U.see H') := fun b o e => by
  obtain ⟨z, e⟩ := see_of e
  rw [see_at z]
  exact s b o (fun m => by rw [ok.mutZ m] at z; cases z) e
theorem Ok.same (ok : Ok U H r) (s : Same H H') : Ok U H' r := ⟨fun b z n => ok.dom b z (gr_none s n), fun m c g e => by
  obtain ⟨a1, a2, a3, a4⟩ := ok.memo m c g e
  exact ⟨a1, a2, a3, a4.same s⟩⟩
theorem Ok.apart (ok : Ok U H r) {p : Addr} (n : H p = none) : U.Z p = false := by
  cases e : U.Z p with
  | false => rfl
  | true => exact absurd n (ok.dom p e)
theorem see_new (ok : Ok U H r) {p : Addr} {o : HO} (n : H p = none) : U.see (upd H p o) p = some o := by rw [see_at (ok.apart n), upd_same]
theorem see_same (s : Same H H') : Same (U.see H) (U.see H') := wo_same s
theorem see_hid {p : Addr} {o : HO} (h : U.Z p = true) : U.see (upd H p o) = U.see H := by
  funext b
  unfold Vw.see wo
  by_cases z : U.Z b = true
  · rw [if_pos z, if_pos z]
  · rw [if_neg z, if_neg z, upd_ne (fun e => z (by rw [e]; exact h))]
theorem gr_L {a : Addr} {xs : List V} (g : Gr H H') (h : SqL K H a xs) : SqL K H' a xs := by
  rcases h with (h | ⟨o, h⟩) | h
  · exact Or.inl (Or.inl (g _ _ h))
  · exact Or.inl (Or.inr ⟨o, g _ _ h⟩)
  · exact Or.inr h
end
def SlOk (K : PySem.W.Frag) (U : Vw) (H : Hp) : Sl → V → Prop
  | .d x, v => Dt K (U.see H) v x
  | .own xs, v => ∃ p vs, v = .ref p ∧ U.Z p = true ∧ ¬ U.mut p ∧ H p = some (.lst vs) ∧ DtA K (U.see H) vs xs
  | .memo, v => ∃ m c g, U.mm = some (m, c, g) ∧ v = .ref m
  | .scr ns, v => ∃ a, v = .ref a ∧ SqL K (U.see H) a (ns.map V.int)
/-- a wider view: more hidden, all that was seen stands -/
structure Wid (U : Vw) (H : Hp) (U' : Vw) (H' : Hp) : Prop where
  see : Same (U.see H) (U'.see H')
  z : ∀ b, U.Z b = true → U'.Z b = true
  mm : U'.mm = U.mm
  st : Step U H H'
theorem Wid.of {U : Vw} {H H' : Hp} {r : Nat} (ok : Ok U H r) (s : Step U H H') : Wid U H U H' := ⟨s.see ok, fun _ z => z, rfl, s⟩
theorem SlOk.wid {K : PySem.W.Frag} {U U' : Vw} {H H' : Hp} (w : Wid U H U' H') : ∀ {s : Sl} {v : V}, SlOk K U H s v → SlOk K U' H' s v
  | .d x, v, h => Dt.gr w.see h
  | .own xs, v, h => by
    obtain ⟨p, vs, e, z, n, hp, a⟩ := h
    refine ⟨p, vs, e, w.z p z, fun m => n ?_, w.st p _ n hp, a.gr w.see⟩
    obtain ⟨m, c, g, e, q⟩ := m
    exact ⟨m, c, g, by rw [← w.mm]; exact e, q⟩
  | .memo, v, h => by
    obtain ⟨m, c, g, e, q⟩ := h
    exact ⟨m, c, g, by rw [w.mm]; exact e, q⟩
  | .scr ns, v, h => by
    obtain ⟨a, e, q⟩ := h
    exact ⟨a, e, gr_L w.see q⟩
structure RelE (K : PySem.W.Frag) (U : Vw) (H : Hp) (σ : Sg) (δ : SD) : Prop where
  len : σ.length = δ.length
  at' : ∀ (i : Nat) (s : Sl), δ[i]? = some (some s) → ∃ v, σ[i]? = some (some v) ∧ SlOk K U H s v
theorem RelE.wid {K : PySem.W.Frag} {U U' : Vw} {H H' : Hp} {σ : Sg} {δ : SD} (h : RelE K U H σ δ) (w : Wid U H U' H') : RelE K U' H' σ δ := ⟨h.len, fun i s e => by
  obtain ⟨v, e1, a⟩ := h.at' i s e
  exact ⟨v, e1, a.wid w⟩⟩
theorem RelE.step {K : PySem.W.Frag} {U : Vw} {H H' : Hp} {σ : Sg} {δ : SD} {r : Nat} (h : RelE K U H σ δ) (ok : Ok U H r) (s : Step U H H') : RelE K U H' σ δ := h.wid (Wid.of ok s)
theorem RelE.set {K : PySem.W.Frag} {U : Vw} {H : Hp} {σ : Sg} {δ : SD} (h : RelE K U H σ δ) {i : Nat} {s : Sl} {v : V} (a : SlOk K U H s v) : RelE K U H (σ.set i (some v)) (δ.set i (some s)) := ⟨by rw [List.length_set, List.length_set]; exact h.len, fun j t e => by
  by_cases z : i = j
  · subst z
    rw [List.getElem?_set_self' ] at e
    cases q : δ[i]? with
    | none => rw [q] at e; cases e
    | some x =>
      rw [q] at e
      cases e
      have l : i < σ.length := by rw [h.len]; exact (List.getElem?_eq_some_iff.mp q).1
      exact ⟨v, by rw [List.getElem?_set_self l], a⟩
  · rw [List.getElem?_set_ne z] at e ⊢
    exact h.at' j t e⟩
def SlsOk (K : PySem.W.Frag) (U : Vw) (H : Hp) : List Sl → List V → Prop
  | [], [] => True
  | s :: ss, v :: vs => (SlOk K U H s v ∧ s.no = true) ∧ SlsOk K U H ss vs
  | _, _ => False
theorem SlsOk.wid {K : PySem.W.Frag} {U U' : Vw} {H H' : Hp} (w : Wid U H U' H') : ∀ {ss : List Sl} {vs : List V}, SlsOk K U H ss vs → SlsOk K U' H' ss vs
  | [], [], _ => trivial
  | s :: ss, v :: vs, h => ⟨⟨h.1.1.wid w, h.1.2⟩, SlsOk.wid w h.2⟩
  | [], _ :: _, h => h.elim
  | _ :: _, [], h => h.elim
theorem SlsOk.len {K : PySem.W.Frag} {U : Vw} {H : Hp} : ∀ {ss : List Sl} {vs : List V}, SlsOk K U H ss vs → vs.length = ss.length
  | [], [], _ => rfl
  | s :: ss, v :: vs, h => by rw [List.length_cons, List.length_cons, SlsOk.len h.2]
  | [], _ :: _, h => h.elim
  | _ :: _, [], h => h.elim
/-! ### readings over data -/
abbrev EV := SD → Nat → (D → Nat → Prop) → Prop
abbrev TV := SD → Nat → (Bool → Nat → Prop) → Prop
abbrev AV := SD → Nat → (List Sl → Nat → Prop) → Prop
abbrev IV := SD → Nat → (List D → Nat → Prop) → Prop
abbrev GV := D → SD → Option SD
abbrev SPEC := List Sl → Nat → (D → Nat → Prop) → Prop
def SndE (K : PySem.W.Frag) (te : TE) (ev : EV) : Prop := ∀ (U : Vw) (σ : Sg) (δ : SD) (H : Hp) (r : Nat) (P : D → Nat → Prop) (Q : VK), Ok U H r → RelE K U H σ δ → ev δ r P →
  (∀ d r' v H', P d r' → Step U H H' → Ok U H' r' → Dt K (U.see H') v d → Q v H') → te σ H Q
def SndT (K : PySem.W.Frag) (tt : TT) (tv : TV) : Prop := ∀ (U : Vw) (σ : Sg) (δ : SD) (H : Hp) (r : Nat) (P : Bool → Nat → Prop) (Q : Bool → Hp → Prop), Ok U H r → RelE K U H σ δ → tv δ r P →
  (∀ b r' H', P b r' → Step U H H' → Ok U H' r' → Q b H') → tt σ H Q
def SndA (K : PySem.W.Frag) (ta : TA) (av : AV) : Prop := ∀ (U : Vw) (σ : Sg) (δ : SD) (H : Hp) (r : Nat) (P : List Sl → Nat → Prop) (Q : List V → Hp → Prop), Ok U H r → RelE K U H σ δ → av δ r P →
  (∀ ss r' vs H', P ss r' → Step U H H' → Ok U H' r' → SlsOk K U H' ss vs → Q vs H') → ta σ H Q
/-- a def's promise -/
def spW (K : PySem.W.Frag) (S : SPEC) : Sp := fun vs H Q _ => ∃ (U : Vw) (r : Nat) (ss : List Sl) (P : D → Nat → Prop), Ok U H r ∧ SlsOk K U H ss vs ∧ S ss r P ∧
  ∀ d r' v H', P d r' → Step U H H' → Ok U H' r' → Dt K (U.see H') v d → Q v H'
/-! ### expressions -/
def eVar (n : Nat) : EV := fun δ r P => match δ[n]? with
  | some (some (.d x)) => P x r
  | _ => False
def eC (d : D) : EV := fun _ r P => P d r
def eOp (op : D → D → Option D) (a b : EV) : EV := fun δ r P => a δ r fun d r1 => b δ r1 fun e r2 => ∃ z, op d e = some z ∧ P z r2
def eUn (op : D → Option D) (a : EV) : EV := fun δ r P => a δ r fun d r1 => ∃ z, op d = some z ∧ P z r1
def eCB (f : List Sl → Option D) (a : AV) : EV := fun δ r P => a δ r fun ss r1 => ∃ z, f ss = some z ∧ P z r1
def eM1 (f : D → D → Option D) (a b : EV) : EV := fun δ r P => a δ r fun d r1 => (∃ s, d = .str s) ∧ b δ r1 fun e r2 => ∃ z, f d e = some z ∧ P z r2
def eCall (S : SPEC) (a : AV) : EV := fun δ r P => a δ r fun ss r1 => S ss r1 P
def eIf (t : TV) (a b : EV) : EV := fun δ r P => t δ r fun c r1 => cond c (a δ r1 P) (b δ r1 P)
def eAnd (a b : EV) : EV := fun δ r P => a δ r fun d r1 => ∃ c, d = .bl c ∧ cond c (b δ r1 P) (P (.bl false) r1)
def eOr (a b : EV) : EV := fun δ r P => a δ r fun d r1 => ∃ c, d = .bl c ∧ cond c (P (.bl true) r1) (b δ r1 P)
def eNot (a : EV) : EV := fun δ r P => a δ r fun d r1 => ∃ c, d = .bl c ∧ P (.bl (!c)) r1
def datas : List Sl → Option (List D)
  | [] => some []
  | .d x :: ss => (datas ss).map (x :: ·)
  | _ :: _ => none
def eTup (a : AV) : EV := eCB (fun ss => match datas ss with | some ds => if ds.length ≤ 100000 then some (.tup ds) else none | none => none) a
def eLst (a : AV) : EV := eCB (fun ss => match datas ss with | some ds => if ds.length ≤ 100000 then some (.lst ds) else none | none => none) a
def eChain (f g : D → D → Option D) (a b c : EV) : EV := fun δ r P => a δ r fun x r1 => b δ r1 fun y r2 => ∃ z, f x y = some z ∧ ∃ k, z = .bl k ∧ cond k (c δ r2 fun w r3 => ∃ z, g y w = some z ∧ P z r3) (P (.bl false) r2)
def aNil : AV := fun _ r P => P [] r
def aCons (e : EV) (a : AV) : AV := fun δ r P => e δ r fun d r1 => a δ r1 fun ss r2 => P (.d d :: ss) r2
def aMemo (n : Nat) (a : AV) : AV := fun δ r P => match δ[n]? with
  | some (some .memo) => a δ r fun ss r2 => P (.memo :: ss) r2
  | _ => False
def aScr (n : Nat) (a : AV) : AV := fun δ r P => match δ[n]? with
  | some (some (.scr ns)) => a δ r fun ss r2 => P (.scr ns :: ss) r2
  | _ => False
def vE (e : EV) : TV := fun δ r P => e δ r fun d r1 => ∃ b, d = .bl b ∧ P b r1
def vNot (t : TV) : TV := fun δ r P => t δ r fun b r1 => P (!b) r1
def vAnd (t u : TV) : TV := fun δ r P => t δ r fun b r1 => cond b (u δ r1 P) (P false r1)
def vOr (t u : TV) : TV := fun δ r P => t δ r fun b r1 => cond b (P true r1) (u δ r1 P)
def vYes : TV := fun _ r P => P true r
section
variable {K : PySem.W.Frag} {ta tb tc te : TE} {ea eb ec ee : EV} {t u : TT} {tv uv : TV} {tA : TA} {av : AV}
def OpS (K : PySem.W.Frag) (rd : R2) (op : D → D → Option D) : Prop := ∀ (U : Vw) (H : Hp) (r : Nat) (x y : V) (d e z : D) (Q : VK), Ok U H r → Dt K (U.see H) x d → Dt K (U.see H) y e → op d e = some z → (∀ v H', Same H H' → Dt K (U.see H') v z → Q v H') → rd x y H Q
def UnS (K : PySem.W.Frag) (rd : V → Hp → VK → Prop) (op : D → Option D) : Prop := ∀ (U : Vw) (H : Hp) (r : Nat) (x : V) (d z : D) (Q : VK), Ok U H r → Dt K (U.see H) x d → op d = some z → (∀ v H', Same H H' → Dt K (U.see H') v z → Q v H') → rd x H Q
def CbS (K : PySem.W.Frag) (rd : List V → Hp → VK → Prop) (f : List Sl → Option D) : Prop := ∀ (U : Vw) (H : Hp) (r : Nat) (ss : List Sl) (vs : List V) (z : D) (Q : VK), Ok U H r → SlsOk K U H ss vs → f ss = some z → (∀ v H', Same H H' → Dt K (U.see H') v z → Q v H') → rd vs H Q
theorem snd_var {n : Nat} : SndE K (tVar n) (eVar n) := fun U σ δ H r P Q ok rel h k => by
  unfold eVar at h
  split at h
  · rename_i x e
    obtain ⟨v, e1, a⟩ := rel.at' n _ e
    exact ⟨v, e1, k _ _ _ _ h Step.rf ok a⟩
  · exact h.elim
theorem snd_c {v : V} {d : D} (a : Dt K (fun _ => none) v d) : SndE K (tC v) (eC d) := fun U σ δ H r P Q ok rel h k => k _ _ _ _ h Step.rf ok (a.gr fun _ _ e => by cases e)
theorem snd_non : SndE K (tC .non) (eC .non) := snd_c .non
theorem snd_int {i : Int} : SndE K (tC (.int i)) (eC (.int i)) := snd_c (.int i)
theorem snd_str {x : Str} : SndE K (tC (.str x)) (eC (.str x)) := snd_c (.str x)
theorem snd_bl {b : Bool} : SndE K (tC (.bl b)) (eC (.bl b)) := snd_c (.bl b)
theorem snd_op {rd : R2} {op : D → D → Option D} (o : OpS K rd op) (ha : SndE K ta ea) (hb : SndE K tb eb) : SndE K (tOp rd ta tb) (eOp op ea eb) := fun U σ δ H r P Q ok rel h k =>
  ha U σ δ H r _ _ ok rel h fun d r1 x H1 h1 s1 ok1 a1 => hb U σ δ H1 r1 _ _ ok1 (rel.step ok s1) h1 fun e r2 y H2 h2 s2 ok2 a2 => by
    obtain ⟨z, hz, p⟩ := h2
    exact o U H2 r2 x y d e z Q ok2 (a1.gr (s2.see ok1)) a2 hz fun v H' s a => k z r2 v H' p ((s1.tr s2).tr (Step.of s)) (ok2.same s) a
theorem snd_un {rd : V → Hp → VK → Prop} {op : D → Option D} (o : UnS K rd op) (ha : SndE K ta ea) : SndE K (tUn rd ta) (eUn op ea) := fun U σ δ H r P Q ok rel h k =>
  ha U σ δ H r _ _ ok rel h fun d r1 x H1 h1 s1 ok1 a1 => by
    obtain ⟨z, hz, p⟩ := h1
    exact o U H1 r1 x d z Q ok1 a1 hz fun v H' s a => k z r1 v H' p (s1.tr (Step.of s)) (ok1.same s) a
theorem snd_cb {rd : List V → Hp → VK → Prop} {f : List Sl → Option D} (o : CbS K rd f) (ha : SndA K tA av) : SndE K (tCB rd tA) (eCB f av) := fun U σ δ H r P Q ok rel h k =>
  ha U σ δ H r _ _ ok rel h fun ss r1 vs H1 h1 s1 ok1 a1 => by
    obtain ⟨z, hz, p⟩ := h1
    exact o U H1 r1 ss vs z Q ok1 a1 hz fun v H' s a => k z r1 v H' p (s1.tr (Step.of s)) (ok1.same s) a
theorem snd_call {S : SPEC} (ha : SndA K tA av) : SndE K (tCall (spW K S) [] E0 tA) (eCall S av) := fun U σ δ H r P Q ok rel h k =>
  ha U σ δ H r _ _ ok rel h fun ss r1 vs H1 h1 s1 ok1 a1 => by
    show spW K S (vs ++ []) H1 Q E0
    rw [List.append_nil]
    exact ⟨U, r1, ss, P, ok1, a1, h1, fun d r' v H' p s o a => k d r' v H' p (s1.tr s) o a⟩
theorem snd_if (ht : SndT K t tv) (ha : SndE K ta ea) (hb : SndE K tb eb) : SndE K (tIf t ta tb) (eIf tv ea eb) := fun U σ δ H r P Q ok rel h k =>
  ht U σ δ H r _ _ ok rel h fun c r1 H1 h1 s1 ok1 => by
    cases c with
    | true => exact iteT (ha U σ δ H1 r1 P Q ok1 (rel.step ok s1) h1 fun d r' v H' p s o a => k d r' v H' p (s1.tr s) o a)
    | false => exact iteF (hb U σ δ H1 r1 P Q ok1 (rel.step ok s1) h1 fun d r' v H' p s o a => k d r' v H' p (s1.tr s) o a)
theorem snd_and (ha : SndE K ta ea) (hb : SndE K tb eb) : SndE K (tAndV ta tb) (eAnd ea eb) := fun U σ δ H r P Q ok rel h k =>
  ha U σ δ H r _ _ ok rel h fun d r1 x H1 h1 s1 ok1 a1 => by
    obtain ⟨c, rfl, h1⟩ := h1
    cases a1
    refine ⟨c, rfl, ?_⟩
    cases c with
    | true => exact iteT (hb U σ δ H1 r1 P Q ok1 (rel.step ok s1) h1 fun d r' v H' p s o a => k d r' v H' p (s1.tr s) o a)
    | false => exact iteF (k _ _ _ _ h1 s1 ok1 (.bl _))
theorem snd_or (ha : SndE K ta ea) (hb : SndE K tb eb) : SndE K (tOrV ta tb) (eOr ea eb) := fun U σ δ H r P Q ok rel h k =>
  ha U σ δ H r _ _ ok rel h fun d r1 x H1 h1 s1 ok1 a1 => by
    obtain ⟨c, rfl, h1⟩ := h1
    cases a1
    refine ⟨c, rfl, ?_⟩
    cases c with
    | true => exact iteT (k _ _ _ _ h1 s1 ok1 (.bl _))
    | false => exact iteF (hb U σ δ H1 r1 P Q ok1 (rel.step ok s1) h1 fun d r' v H' p s o a => k d r' v H' p (s1.tr s) o a)
theorem snd_not (ha : SndE K ta ea) : SndE K (tNotV ta) (eNot ea) := fun U σ δ H r P Q ok rel h k =>
  ha U σ δ H r _ _ ok rel h fun d r1 x H1 h1 s1 ok1 a1 => by
    obtain ⟨c, rfl, h1⟩ := h1
    cases a1
    exact ⟨c, rfl, k _ _ _ _ h1 s1 ok1 (.bl _)⟩
theorem datas_ok {U : Vw} {H : Hp} : ∀ {ss : List Sl} {vs : List V} {ds : List D}, SlsOk K U H ss vs → datas ss = some ds → DtA K (U.see H) vs ds
  | [], [], ds, _, e => by cases e; exact .nil
  | .d x :: ss, v :: vs, ds, h, e => by
    unfold datas at e
    cases q : datas ss with
    | none => rw [q] at e; cases e
    | some l => rw [q] at e; cases e; exact .cons h.1.1 (datas_ok h.2 q)
  | .own _ :: _, _ :: _, _, _, e => by cases e
  | .memo :: _, _ :: _, _, _, e => by cases e
  | .scr _ :: _, _ :: _, _, _, e => by cases e
  | [], _ :: _, _, h, _ => h.elim
  | _ :: _, [], _, h, _ => h.elim
theorem snd_tup (ha : SndA K tA av) : SndE K (tTup tA) (eTup av) := fun U σ δ H r P Q ok rel h k =>
  ha U σ δ H r _ _ ok rel h fun ss r1 vs H1 h1 s1 ok1 a1 => by
    obtain ⟨z, hz, p⟩ := h1
    dsimp only at hz
    split at hz
    · rename_i ds e
      split at hz
      · rename_i l
        cases hz
        have a := datas_ok a1 e
        refine ⟨by rw [a.len]; exact sz1 l, fun q nq => k _ _ _ _ p (s1.tr (Step.of (same_new nq))) (ok1.same (same_new nq)) (.tup (SqT.of (see_new ok1 nq)) (a.gr (see_same (same_new nq))))⟩
      · cases hz
    · cases hz
theorem snd_lst (ha : SndA K tA av) : SndE K (tLst tA) (eLst av) := fun U σ δ H r P Q ok rel h k =>
  ha U σ δ H r _ _ ok rel h fun ss r1 vs H1 h1 s1 ok1 a1 => by
    obtain ⟨z, hz, p⟩ := h1
    dsimp only at hz
    split at hz
    · rename_i ds e
      split at hz
      · rename_i l
        cases hz
        have a := datas_ok a1 e
        refine ⟨by rw [a.len]; exact sz1 l, fun q nq => k _ _ _ _ p (s1.tr (Step.of (same_new nq))) (ok1.same (same_new nq)) (.lst (see_new ok1 nq) (a.gr (see_same (same_new nq))))⟩
      · cases hz
    · cases hz
theorem snd_chain {rf rg : R2} {f g : D → D → Option D} (of : OpS K rf f) (og : OpS K rg g) (ha : SndE K ta ea) (hb : SndE K tb eb) (hc : SndE K tc ec) : SndE K (tChain rf rg ta tb tc) (eChain f g ea eb ec) := fun U σ δ H r P Q ok rel h k =>
  ha U σ δ H r _ _ ok rel h fun d r1 x H1 h1 s1 ok1 a1 => hb U σ δ H1 r1 _ _ ok1 (rel.step ok s1) h1 fun e r2 y H2 h2 s2 ok2 a2 => by
    obtain ⟨z, hz, c, rfl, p⟩ := h2
    refine of U H2 r2 x y d e _ _ ok2 (a1.gr (s2.see ok1)) a2 hz fun v H3 s a => ?_
    cases a
    refine ⟨c, rfl, ?_⟩
    have sA := (s1.tr s2).tr (Step.of s)
    cases c with
    | false => exact iteF (k _ _ _ _ p sA (ok2.same s) (.bl _))
    | true =>
      refine iteT ?_
      refine hc U σ δ H3 r2 _ _ (ok2.same s) (rel.step ok sA) p fun w r3 u H4 h4 s4 ok4 a4 => ?_
      obtain ⟨z, hz, p⟩ := h4
      exact og U H4 r3 y u e w z Q ok4 ((a2.gr (see_same s)).gr (s4.see (ok2.same s))) a4 hz fun v H' s5 a => k z r3 v H' p ((sA.tr s4).tr (Step.of s5)) (ok4.same s5) a
theorem snd_nil : SndA K tNil aNil := fun U σ δ H r P Q ok rel h k => k _ _ _ _ h Step.rf ok trivial
theorem snd_cons (ha : SndE K te ee) (hr : SndA K tA av) : SndA K (tCons te tA) (aCons ee av) := fun U σ δ H r P Q ok rel h k =>
  ha U σ δ H r _ _ ok rel h fun d r1 x H1 h1 s1 ok1 a1 => hr U σ δ H1 r1 _ _ ok1 (rel.step ok s1) h1 fun ss r2 vs H2 h2 s2 ok2 a2 =>
    k _ _ _ _ h2 (s1.tr s2) ok2 ⟨⟨Dt.gr (s2.see ok1) a1, rfl⟩, a2⟩
theorem snd_memo {n : Nat} (hr : SndA K tA av) : SndA K (tCons (tVar n) tA) (aMemo n av) := fun U σ δ H r P Q ok rel h k => by
  unfold aMemo at h
  split at h
  · rename_i e
    obtain ⟨v, e1, a⟩ := rel.at' n _ e
    exact ⟨v, e1, hr U σ δ H r _ _ ok rel h fun ss r2 vs H2 h2 s2 ok2 a2 => k _ _ _ _ h2 s2 ok2 ⟨⟨a.wid (Wid.of ok s2), rfl⟩, a2⟩⟩
  · exact h.elim
theorem snd_scr {n : Nat} (hr : SndA K tA av) : SndA K (tCons (tVar n) tA) (aScr n av) := fun U σ δ H r P Q ok rel h k => by
  unfold aScr at h
  split at h
  · rename_i e
    obtain ⟨v, e1, a⟩ := rel.at' n _ e
    exact ⟨v, e1, hr U σ δ H r _ _ ok rel h fun ss r2 vs H2 h2 s2 ok2 a2 => k _ _ _ _ h2 s2 ok2 ⟨⟨a.wid (Wid.of ok s2), rfl⟩, a2⟩⟩
  · exact h.elim
theorem snd_test (ha : SndE K te ee) : SndT K (tTest te) (vE ee) := fun U σ δ H r P Q ok rel h k =>
  ha U σ δ H r _ _ ok rel h fun d r1 x H1 h1 s1 ok1 a1 => by
    obtain ⟨b, rfl, p⟩ := h1
    cases a1
    exact ⟨b, rfl, k _ _ _ p s1 ok1⟩
theorem snd_tb (ha : SndE K te ee) : SndT K (tB te) (vE ee) := fun U σ δ H r P Q ok rel h k =>
  ha U σ δ H r _ _ ok rel h fun d r1 x H1 h1 s1 ok1 a1 => by
    obtain ⟨b, rfl, p⟩ := h1
    cases a1
    exact ⟨b, rfl, k _ _ _ p s1 ok1⟩
theorem snd_tnot (ht : SndT K t tv) : SndT K (tNot t) (vNot tv) := fun U σ δ H r P Q ok rel h k => ht U σ δ H r _ _ ok rel h fun b r1 H1 h1 s1 ok1 => k _ _ _ h1 s1 ok1
theorem snd_tand (ht : SndT K t tv) (hu : SndT K u uv) : SndT K (tAnd t u) (vAnd tv uv) := fun U σ δ H r P Q ok rel h k => ht U σ δ H r _ _ ok rel h fun b r1 H1 h1 s1 ok1 => by
  cases b with
  | true => exact iteT (hu U σ δ H1 r1 _ _ ok1 (rel.step ok s1) h1 fun b r' H' p s o => k b r' H' p (s1.tr s) o)
  | false => exact iteF (k _ _ _ h1 s1 ok1)
theorem snd_tor (ht : SndT K t tv) (hu : SndT K u uv) : SndT K (tOr t u) (vOr tv uv) := fun U σ δ H r P Q ok rel h k => ht U σ δ H r _ _ ok rel h fun b r1 H1 h1 s1 ok1 => by
  cases b with
  | true => exact iteT (k _ _ _ h1 s1 ok1)
  | false => exact iteF (hu U σ δ H1 r1 _ _ ok1 (rel.step ok s1) h1 fun b r' H' p s o => k b r' H' p (s1.tr s) o)
theorem snd_yes : SndT K tYes vYes := fun U σ δ H r P Q ok rel h k => k _ _ _ h Step.rf ok
end
end TSx

/-! Own layer, part Z2: zip of two, the pair kept by one name. -/
namespace TSx
open PySem PySem.Spec PyProof.Rows
theorem wpAny_alive {α : Type} {M : Model} {A : Around} {k : Option Obj → Sem α} {Q : α → Shared → Prop} {E : Value → Shared → Prop} {s : Shared} {a : Addr} {o : Option Obj} (h : s.heap.get? a = o) (hq : wpAny M A (k o) Q E s) : wpAny M A (Sem.loadIfAlive a k) Q E s := by
  unfold wpAny at *
  simp only [Sem.wp_loadIfAlive, h]
  exact hq
abbrev IsZipN (h : Heap) (z TI TO T : Addr) (b : Bool) : Prop := h.get? z = some { cls := .type "zip", data := .fields #[rawInt ↑T, .bool b, .bool false, .ref TI, .ref TO] }
section
variable {prog : Program} {w : World} {A : Around} {E : Value → Shared → Prop} {s : Shared} {z TI TO i1 i2 T : Addr} {fp1 fp2 : List Addr} {n1 n2 i : Nat} {P1 P2 : Nat → Value → Prop} {St1 St2 : Nat → Heap → Prop} {b : Bool}
theorem draw_item (D : Draws prog w A i1 fp1 n1 P1 St1) {Q : Option Value → Shared → Prop} {its : List Value} (h1 : St1 i s.heap) (l1 : i < n1)
    (k : ∀ (x : Value) (h' : Heap) (tk : Nat), P1 i x → St1 (i + 1) h' → Heap.SameBut i1 s.heap h' → Q (some x) { heap := h', gens := s.gens, drawn := s.drawn, toks := tk, os := s.os }) :
    wpAny (model prog w) A (holding its (do let v ← Builtin.SmallTypes.nextOf (.ref i1); pure (some v))) Q E s := by
  refine wpAny_holding (wpAny_bind (D.item i s _ _ l1 h1 fun x h' tk px st sb => ?_))
  exact wpAny_pure (k x h' tk px st sb)
theorem zipN_item {Q : Value → Shared → Prop}
    (S : ZipSep2 z TI TO i1 i2 fp1 fp2) (D1 : Draws prog w A i1 fp1 n1 P1 St1) (D2 : Draws prog w A i2 fp2 n2 P2 St2) (hz : IsZipN s.heap z TI TO T b) (hT : ∃ o, s.heap.get? T = some o) (hTI : IsTupOf2 s.heap TI (.ref i1) (.ref i2))
    (h1 : St1 i s.heap) (h2 : St2 i s.heap) (l1 : i < n1) (l2 : i < n2)
    (k : ∀ (x1 x2 : Value) (h' : Heap) (tk : Nat), P1 i x1 → P2 i x2 → IsZipN h' z TI TO T true → St1 (i + 1) h' → St2 (i + 1) h' → IsTupOf2 h' s.heap.objs.size x1 x2 → h'.objs.size = s.heap.objs.size + 1 →
      (∀ (c : Addr) (o : Obj), c ≠ z → c ≠ i1 → c ≠ i2 → s.heap.get? c = some o → h'.get? c = some o) → Q (.ref s.heap.objs.size) { heap := h', gens := s.gens, drawn := s.drawn, toks := tk, os := s.os }) :
    wpAny (model prog w) A (Builtin.«zip.__next__» { pos := [.ref z] }) (fun fin s' => ∃ v, fin = Fin.done (Flow.ret v) ∧ Q v s') E s := by
  obtain ⟨oT, hT⟩ := hT
  obtain ⟨h, g, d, t, os⟩ := s
  have nzT : z ≠ TI := S.TIz.symm
  -- what stands behind the draws
  have fin : ∀ (h1 : Heap) (x1 x2 : Value) (ha hb : Heap) (tk : Nat), IsZipN h1 z TI TO T true → h1.objs.size = h.objs.size → (∀ c o, c ≠ z → h.get? c = some o → h1.get? c = some o) → P1 i x1 → P2 i x2 → St1 (i + 1) ha → St2 (i + 1) hb → Heap.SameBut i1 h1 ha → Heap.SameBut i2 ha hb →
      Q (.ref hb.objs.size) { heap := hb.push { cls := .type "tuple", data := .seq #[x1, x2] }, gens := g, drawn := d, toks := tk, os := os } := by
    intro h1 x1 x2 ha hb tk z1 sz k1 p1 p2 st1 st2 sa sb
    have sz2 : hb.objs.size = h.objs.size := (sb.1.trans sa.1).trans sz
    have up : ∀ c o, c ≠ i1 → c ≠ i2 → h1.get? c = some o → (hb.push { cls := .type "tuple", data := .seq #[x1, x2] }).get? c = some o := fun c o c1 c2 e => Heap.get?_push_of_some _ (((sb.2 c c2).trans (sa.2 c c1)).trans e)
    have r := k x1 x2 (hb.push { cls := .type "tuple", data := .seq #[x1, x2] }) tk p1 p2 (up z _ S.zi1 S.zi2 z1)
      (D1.frame _ ha _ st1 fun b hb' o e => Heap.get?_push_of_some _ ((sb.2 b (fun q => S.sep2_1 (by rw [← q]; exact hb'))).trans e))
      (D2.frame _ hb _ st2 fun b hb' o e => Heap.get?_push_of_some _ e) (Heap.get?_push_at sz2.symm rfl) (by rw [Heap.size_push, sz2]) (fun c o c0 c1 c2 e => up c o c1 c2 (k1 c o c0 e))
    rw [sz2]
    exact r
  unfold Builtin.«zip.__next__»
  repeat wp_step
  refine wpAny_alive (o := some oT) hT ?_
  have hu : ∀ c o, c ≠ z → h.get? c = some o → (h.update z (Obj.mapFields fun x => x.setIfInBounds 1 (Value.bool true))).get? c = some o := fun c o hc e => (Heap.get?_update_ne _ _ _ _ hc).trans e
  cases b
  · iterate 32 wp_step
    refine D1.item i _ _ _ l1 (D1.frame _ h _ h1 fun b hb o e => hu b o (fun q => S.zf1 (by rw [← q]; exact hb)) e) fun x1 ha tk1 p1 q1 sa => ?_
    iterate 10 wp_step
    refine D2.item i _ _ _ l2 (D2.frame _ _ _ (D2.frame _ h _ h2 fun b hb o e => hu b o (fun q => S.zf2 (by rw [← q]; exact hb)) e) fun b hb o e => (sa.2 b (fun q => S.sep1_2 (by rw [← q]; exact hb))).trans e) fun x2 hb tk2 p2 q2 sb => ?_
    repeat wp_step
    exact ⟨_, rfl, fin _ x1 x2 ha hb tk2 ((Heap.get?_update_self _ hz rfl)) (by simp [Heap.update]) hu p1 p2 q1 q2 sa sb⟩
  · iterate 25 wp_step
    refine D1.item i _ _ _ l1 h1 fun x1 ha tk1 p1 q1 sa => ?_
    iterate 10 wp_step
    refine D2.item i _ _ _ l2 (D2.frame _ h _ h2 fun b hb o e => (sa.2 b (fun q => S.sep1_2 (by rw [← q]; exact hb))).trans e) fun x2 hb tk2 p2 q2 sb => ?_
    repeat wp_step
    exact ⟨_, rfl, fin h x1 x2 ha hb tk2 hz rfl (fun _ _ _ e => e) p1 p2 q1 q2 sa sb⟩
theorem zipN_end {Q : PySem.Fin → Shared → Prop}
    (S : ZipSep2 z TI TO i1 i2 fp1 fp2) (D1 : Draws prog w A i1 fp1 n1 P1 St1) (hz : IsZipN s.heap z TI TO T b) (hT : ∃ o, s.heap.get? T = some o) (hTI : IsTupOf2 s.heap TI (.ref i1) (.ref i2)) (h1 : St1 n1 s.heap)
    (k : ∀ (h' : Heap) (tk : Nat) (e : Addr), (∀ (c : Addr) (o : Obj), c ≠ z → c ≠ i1 → c ≠ i2 → s.heap.get? c = some o → h'.get? c = some o) → (∃ o, h'.get? e = some o ∧ o.cls = .type "StopIteration") → E (.ref e) { heap := h', gens := s.gens, drawn := s.drawn, toks := tk, os := s.os }) :
    wpAny (model prog w) A (Builtin.«zip.__next__» { pos := [.ref z] }) Q E s := by
  obtain ⟨oT, hT⟩ := hT
  obtain ⟨h, g, d, t, os⟩ := s
  unfold Builtin.«zip.__next__»
  repeat wp_step
  refine wpAny_alive (o := some oT) hT ?_
  have hu : ∀ c o, c ≠ z → h.get? c = some o → (h.update z (Obj.mapFields fun x => x.setIfInBounds 1 (Value.bool true))).get? c = some o := fun c o hc e => (Heap.get?_update_ne _ _ _ _ hc).trans e
  cases b
  · iterate 32 wp_step
    refine D1.done _ _ _ (D1.frame _ h _ h1 fun b hb o e => hu b o (fun q => S.zf1 (by rw [← q]; exact hb)) e) fun h' e sa st => ?_
    exact k h' t e (fun c o c0 c1 c2 e => sa c o c1 (hu c o c0 e)) st
  · iterate 25 wp_step
    refine D1.done _ _ _ h1 fun h' e sa st => ?_
    exact k h' t e (fun c o c0 c1 c2 e => sa c o c1 e) st
theorem pyNext_zipN_item {Q : Option Value → Shared → Prop}
    (S : ZipSep2 z TI TO i1 i2 fp1 fp2) (D1 : Draws prog w A.in1 i1 fp1 n1 P1 St1) (D2 : Draws prog w A.in1 i2 fp2 n2 P2 St2) (hz : IsZipN s.heap z TI TO T b) (hT : ∃ o, s.heap.get? T = some o) (hTI : IsTupOf2 s.heap TI (.ref i1) (.ref i2))
    (h1 : St1 i s.heap) (h2 : St2 i s.heap) (l1 : i < n1) (l2 : i < n2)
    (k : ∀ (x1 x2 : Value) (h' : Heap) (tk : Nat), P1 i x1 → P2 i x2 → IsZipN h' z TI TO T true → St1 (i + 1) h' → St2 (i + 1) h' → IsTupOf2 h' s.heap.objs.size x1 x2 → h'.objs.size = s.heap.objs.size + 1 →
      (∀ (c : Addr) (o : Obj), c ≠ z → c ≠ i1 → c ≠ i2 → s.heap.get? c = some o → h'.get? c = some o) → Q (some (.ref s.heap.objs.size)) { heap := h', gens := s.gens, drawn := s.drawn, toks := tk, os := s.os }) :
    wpAny (model prog w) A (pyNext (.ref z)) Q E s :=
  have hTy : s.TypeIs (.ref z) "zip" := ⟨_, hz, rfl⟩
  wpAny_bind (wpAny_attempt (wpAny_callSpecial?_slot hTy F.slot_zip_next (wpAny_call_entry F.slot_zip_next hTy F.entry_zip_next
    (zipN_item S D1 D2 hz hT hTI h1 h2 l1 l2 fun x1 x2 h' tk y1 y2 b1 b2 d1 d2 b5 b6 => wpAny_pure (k x1 x2 h' tk y1 y2 b1 b2 d1 d2 b5 b6)) (F.args_zip_next_1 (.ref z)))))
theorem pyNext_zipN_end {Q : Option Value → Shared → Prop}
    (S : ZipSep2 z TI TO i1 i2 fp1 fp2) (D1 : Draws prog w A.in1 i1 fp1 n1 P1 St1) (hz : IsZipN s.heap z TI TO T b) (hT : ∃ o, s.heap.get? T = some o) (hTI : IsTupOf2 s.heap TI (.ref i1) (.ref i2)) (h1 : St1 n1 s.heap)
    (k : ∀ (h' : Heap) (tk : Nat), (∀ (c : Addr) (o : Obj), c ≠ z → c ≠ i1 → c ≠ i2 → s.heap.get? c = some o → h'.get? c = some o) → Q none { heap := h', gens := s.gens, drawn := s.drawn, toks := tk, os := s.os }) :
    wpAny (model prog w) A (pyNext (.ref z)) Q E s :=
  have hTy : s.TypeIs (.ref z) "zip" := ⟨_, hz, rfl⟩
  wpAny_bind (wpAny_attempt (wpAny_callSpecial?_slot hTy F.slot_zip_next (wpAny_call_entry F.slot_zip_next hTy F.entry_zip_next
    (zipN_end S D1 hz hT hTI h1 fun h' tk e hk he => by
      obtain ⟨o, ho, hc⟩ := he
      exact wpAny_bind (wpAny_isInstance ⟨o, ho, hc⟩ isSubtype_stop (wpAny_pure (k h' tk hk)))) (F.args_zip_next_1 (.ref z)))))
end
end TSx

/-! Own layer, part Z2: zip of two, the pair kept by one name. -/
namespace TSx
open PySem PySem.Spec PyProof.Rows
section
variable {prog : Program} {w : World} {A : Around} {E : Value → Shared → Prop} {s : Shared} {z TI TO i1 i2 T : Addr} {fp1 fp2 : List Addr} {n1 n2 i : Nat} {P1 P2 : Nat → Value → Prop} {St1 St2 : Nat → Heap → Prop} {b : Bool} {a1 a2 : Value}
theorem zipM_item {Q : Value → Shared → Prop}
    (S : ZipSep2 z TI TO i1 i2 fp1 fp2) (D1 : Draws prog w A i1 fp1 n1 P1 St1) (D2 : Draws prog w A i2 fp2 n2 P2 St2) (hz : IsZipN s.heap z TI TO T b) (hT : s.heap.get? T = none) (hTI : IsTupOf2 s.heap TI (.ref i1) (.ref i2)) (hTO : IsTupOf2 s.heap TO a1 a2)
    (h1 : St1 i s.heap) (h2 : St2 i s.heap) (l1 : i < n1) (l2 : i < n2)
    (k : ∀ (x1 x2 : Value) (h' : Heap) (tk : Nat), P1 i x1 → P2 i x2 → IsZipN h' z TI TO s.heap.objs.size false → IsTupOf2 h' TO x1 x2 → St1 (i + 1) h' → St2 (i + 1) h' → IsTupOf2 h' s.heap.objs.size x1 x2 → h'.objs.size = s.heap.objs.size + 1 →
      (∀ (c : Addr) (o : Obj), c ≠ z → c ≠ TO → c ≠ i1 → c ≠ i2 → s.heap.get? c = some o → h'.get? c = some o) → Q (.ref s.heap.objs.size) { heap := h', gens := s.gens, drawn := s.drawn, toks := tk, os := s.os }) :
    wpAny (model prog w) A (Builtin.«zip.__next__» { pos := [.ref z] }) (fun fin s' => ∃ v, fin = Fin.done (Flow.ret v) ∧ Q v s') E s := by
  obtain ⟨h, g, d, t, os⟩ := s
  unfold Builtin.«zip.__next__»
  repeat wp_step
  refine wpAny_alive (o := none) hT ?_
  have hu : ∀ c o, c ≠ z → h.get? c = some o → (h.update z (Obj.mapFields fun x => x.setIfInBounds 0 Value.ellipsis)).get? c = some o := fun c o hc e => (Heap.get?_update_ne _ _ _ _ hc).trans e
  have nT1 : TO ≠ i1 := fun q => S.Tf1 (q ▸ S.mem1)
  have nT2 : TO ≠ i2 := fun q => S.Tf2 (q ▸ S.mem2)
  iterate 30 wp_step
  refine wpAny_onRaise ?_
  iterate 3 wp_step
  refine D1.item i _ _ _ l1 (D1.frame _ h _ h1 fun b hb o e => hu b o (fun q => S.zf1 (by rw [← q]; exact hb)) e) fun x1 ha tk1 p1 q1 sa => ?_
  have tO := (sa.2 TO nT1).trans (hu TO _ S.TOz hTO)
  have hv : ∀ c o, c ≠ TO → ha.get? c = some o → (ha.update TO (Obj.mapSeq fun x => x.setIfInBounds 0 x1)).get? c = some o := fun c o hc e => (Heap.get?_update_ne _ _ _ _ hc).trans e
  iterate 24 wp_step
  refine wpAny_onRaise ?_
  iterate 3 wp_step
  refine D2.item i _ _ _ l2 (D2.frame _ ha _ (D2.frame _ _ _ (D2.frame _ h _ h2 fun b hb o e => hu b o (fun q => S.zf2 (by rw [← q]; exact hb)) e) fun b hb o e => (sa.2 b (fun q => S.sep1_2 (by rw [← q]; exact hb))).trans e) fun b hb o e => hv b o (fun q => S.Tf2 (by rw [← q]; exact hb)) e) fun x2 hb tk2 p2 q2 sb => ?_
  have tO2 := (sb.2 TO nT2).trans (Heap.get?_update_self (Obj.mapSeq fun x => x.setIfInBounds 0 x1) tO rfl)
  have zi1 : z ≠ i1 := fun q => S.zf1 (q ▸ S.mem1)
  have zi2 : z ≠ i2 := fun q => S.zf2 (q ▸ S.mem2)
  have zz := Heap.get?_update_self (Obj.mapFields fun x => x.setIfInBounds 0 Value.ellipsis) hz rfl
  have zhb := (sb.2 z zi2).trans (hv z _ S.TOz.symm ((sa.2 z zi1).trans zz))
  have zhw := (show (hb.update TO (Obj.mapSeq fun x => x.setIfInBounds (0 + 1) x2)).get? z = hb.get? z from Heap.get?_update_ne _ _ _ _ S.TOz.symm).trans zhb
  iterate 46 wp_step
  refine wpAny_load (Heap.get?_push_of_some _ zhw) ?_
  iterate 12 wp_step
  have su : ∀ (q : Heap) (c : Addr) (f : Obj → Obj), (q.update c f).objs.size = q.objs.size := fun q c f => by simp [Heap.update]
  have sz : (hb.update TO (Obj.mapSeq fun x => x.setIfInBounds (0 + 1) x2)).objs.size = h.objs.size := by rw [su, sb.1, su, sa.1, su]
  have lz : z < (hb.update TO (Obj.mapSeq fun x => x.setIfInBounds (0 + 1) x2)).objs.size := Heap.lt_size zhw
  have nN : h.objs.size ≠ z := fun q => Nat.lt_irrefl z (by rw [sz, q] at lz; exact lz)
  refine ⟨_, rfl, ?_⟩
  have upd_ : ∀ (q : Heap) (f : Obj → Obj) (c : Addr) (o : Obj), c ≠ z → q.get? c = some o → (q.update z f).get? c = some o := fun q f c o hc e => (Heap.get?_update_ne _ _ _ _ hc).trans e
  have hw : ∀ c o, c ≠ TO → hb.get? c = some o → (hb.update TO (Obj.mapSeq fun x => x.setIfInBounds (0 + 1) x2)).get? c = some o := fun c o hc e => (Heap.get?_update_ne _ _ _ _ hc).trans e
  rw [sz]
  have r := k x1 x2 _ tk2 p1 p2 (Heap.get?_update_self (Obj.mapFields fun x => x.setIfInBounds 1 (Value.bool false)) (Heap.get?_update_self (Obj.mapFields fun x => x.setIfInBounds 0 (rawInt ↑h.objs.size)) (Heap.get?_push_of_some _ zhw) rfl) rfl) (upd_ _ _ _ _ S.TOz (upd_ _ _ _ _ S.TOz (Heap.get?_push_of_some _ (Heap.get?_update_self (Obj.mapSeq fun x => x.setIfInBounds (0 + 1) x2) tO2 rfl)))) (D1.frame _ ha _ q1 fun b hb' o e => upd_ _ _ _ _ (fun q => S.zf1 (by rw [← q]; exact hb')) (upd_ _ _ _ _ (fun q => S.zf1 (by rw [← q]; exact hb')) (Heap.get?_push_of_some _ (hw _ _ (fun q => S.Tf1 (by rw [← q]; exact hb')) ((sb.2 b (fun q => S.sep2_1 (by rw [← q]; exact hb'))).trans (hv _ _ (fun q => S.Tf1 (by rw [← q]; exact hb')) e)))))) (D2.frame _ hb _ q2 fun b hb' o e => upd_ _ _ _ _ (fun q => S.zf2 (by rw [← q]; exact hb')) (upd_ _ _ _ _ (fun q => S.zf2 (by rw [← q]; exact hb')) (Heap.get?_push_of_some _ (hw _ _ (fun q => S.Tf2 (by rw [← q]; exact hb')) e)))) (upd_ _ _ _ _ (fun q => nN q) (upd_ _ _ _ _ (fun q => nN q) (Heap.get?_push_at sz.symm rfl))) (by rw [su, su, Heap.size_push, sz]) (fun c o c0 cT c1 c2 e => upd_ _ _ _ _ c0 (upd_ _ _ _ _ c0 (Heap.get?_push_of_some _ (hw _ _ cT ((sb.2 c c2).trans (hv _ _ cT ((sa.2 c c1).trans (hu _ _ c0 e))))))))
  exact r
theorem zipM_end {Q : PySem.Fin → Shared → Prop}
    (S : ZipSep2 z TI TO i1 i2 fp1 fp2) (D1 : Draws prog w A i1 fp1 n1 P1 St1) (hz : IsZipN s.heap z TI TO T b) (hT : s.heap.get? T = none) (hTI : IsTupOf2 s.heap TI (.ref i1) (.ref i2)) (hTO : IsTupOf2 s.heap TO a1 a2) (h1 : St1 n1 s.heap)
    (k : ∀ (h' : Heap) (tk : Nat) (e : Addr), (∀ (c : Addr) (o : Obj), c ≠ z → c ≠ TO → c ≠ i1 → c ≠ i2 → s.heap.get? c = some o → h'.get? c = some o) → (∃ o, h'.get? e = some o ∧ o.cls = .type "StopIteration") → E (.ref e) { heap := h', gens := s.gens, drawn := s.drawn, toks := tk, os := s.os }) :
    wpAny (model prog w) A (Builtin.«zip.__next__» { pos := [.ref z] }) Q E s := by
  obtain ⟨h, g, d, t, os⟩ := s
  unfold Builtin.«zip.__next__»
  repeat wp_step
  refine wpAny_alive (o := none) hT ?_
  have hu : ∀ c o, c ≠ z → h.get? c = some o → (h.update z (Obj.mapFields fun x => x.setIfInBounds 0 Value.ellipsis)).get? c = some o := fun c o hc e => (Heap.get?_update_ne _ _ _ _ hc).trans e
  have zi1 : z ≠ i1 := fun q => S.zf1 (q ▸ S.mem1)
  iterate 30 wp_step
  refine wpAny_onRaise ?_
  iterate 3 wp_step
  refine D1.done _ _ _ (D1.frame _ h _ h1 fun b hb o e => hu b o (fun q => S.zf1 (by rw [← q]; exact hb)) e) fun h' e sa st => ?_
  have zz := Heap.get?_update_self (Obj.mapFields fun x => x.setIfInBounds 0 Value.ellipsis) hz rfl
  have zh := sa z _ zi1 zz
  have ez : e ≠ z := fun q => by
    obtain ⟨o, ho, hc⟩ := st
    rw [q, zh] at ho
    cases ho
    exact absurd (Value.type.inj hc) (by decide)
  repeat wp_step
  refine k _ t e (fun c o c0 cT c1 c2 e => (Heap.get?_update_ne _ _ _ _ c0).trans (sa c o c1 (hu c o c0 e))) ?_
  obtain ⟨o, ho, hc⟩ := st
  exact ⟨o, (Heap.get?_update_ne _ _ _ _ ez).trans ho, hc⟩
theorem pyNext_zipM_item {Q : Option Value → Shared → Prop}
    (S : ZipSep2 z TI TO i1 i2 fp1 fp2) (D1 : Draws prog w A.in1 i1 fp1 n1 P1 St1) (D2 : Draws prog w A.in1 i2 fp2 n2 P2 St2) (hz : IsZipN s.heap z TI TO T b) (hT : s.heap.get? T = none) (hTI : IsTupOf2 s.heap TI (.ref i1) (.ref i2)) (hTO : IsTupOf2 s.heap TO a1 a2)
    (h1 : St1 i s.heap) (h2 : St2 i s.heap) (l1 : i < n1) (l2 : i < n2)
    (k : ∀ (x1 x2 : Value) (h' : Heap) (tk : Nat), P1 i x1 → P2 i x2 → IsZipN h' z TI TO s.heap.objs.size false → IsTupOf2 h' TO x1 x2 → St1 (i + 1) h' → St2 (i + 1) h' → IsTupOf2 h' s.heap.objs.size x1 x2 → h'.objs.size = s.heap.objs.size + 1 →
      (∀ (c : Addr) (o : Obj), c ≠ z → c ≠ TO → c ≠ i1 → c ≠ i2 → s.heap.get? c = some o → h'.get? c = some o) → Q (some (.ref s.heap.objs.size)) { heap := h', gens := s.gens, drawn := s.drawn, toks := tk, os := s.os }) :
    wpAny (model prog w) A (pyNext (.ref z)) Q E s :=
  have hTy : s.TypeIs (.ref z) "zip" := ⟨_, hz, rfl⟩
  wpAny_bind (wpAny_attempt (wpAny_callSpecial?_slot hTy F.slot_zip_next (wpAny_call_entry F.slot_zip_next hTy F.entry_zip_next
    (zipM_item S D1 D2 hz hT hTI hTO h1 h2 l1 l2 fun x1 x2 h' tk y1 y2 b1 b2 d1 d2 b5 b6 b7 => wpAny_pure (k x1 x2 h' tk y1 y2 b1 b2 d1 d2 b5 b6 b7)) (F.args_zip_next_1 (.ref z)))))
theorem pyNext_zipM_end {Q : Option Value → Shared → Prop}
    (S : ZipSep2 z TI TO i1 i2 fp1 fp2) (D1 : Draws prog w A.in1 i1 fp1 n1 P1 St1) (hz : IsZipN s.heap z TI TO T b) (hT : s.heap.get? T = none) (hTI : IsTupOf2 s.heap TI (.ref i1) (.ref i2)) (hTO : IsTupOf2 s.heap TO a1 a2) (h1 : St1 n1 s.heap)
    (k : ∀ (h' : Heap) (tk : Nat), (∀ (c : Addr) (o : Obj), c ≠ z → c ≠ TO → c ≠ i1 → c ≠ i2 → s.heap.get? c = some o → h'.get? c = some o) → Q none { heap := h', gens := s.gens, drawn := s.drawn, toks := tk, os := s.os }) :
    wpAny (model prog w) A (pyNext (.ref z)) Q E s :=
  have hTy : s.TypeIs (.ref z) "zip" := ⟨_, hz, rfl⟩
  wpAny_bind (wpAny_attempt (wpAny_callSpecial?_slot hTy F.slot_zip_next (wpAny_call_entry F.slot_zip_next hTy F.entry_zip_next
    (zipM_end S D1 hz hT hTI hTO h1 fun h' tk e hk he => by
      obtain ⟨o, ho, hc⟩ := he
      exact wpAny_bind (wpAny_isInstance ⟨o, ho, hc⟩ isSubtype_stop (wpAny_pure (k h' tk hk)))) (F.args_zip_next_1 (.ref z)))))
end
end TSx

/-! Own layer, part Z3: zip of two texts (the pair by one name or two), of a list and a tuple. -/
namespace TSx
open PySem L2 PySem.Spec PyProof.Rows
/-- two texts, side by side -/
def ItSS (x y : Str) : It :=
  ⟨fun i _ => i < x.cps.size ∧ x.cps.size = y.cps.size,
    fun i H v H' => ∃ (T : Addr) (c1 c2 : Nat), v = .ref T ∧ H T = none ∧ H' = upd H T (.tup [.str ⟨#[c1]⟩, .str ⟨#[c2]⟩]) ∧ x.cps[i]? = some c1 ∧ y.cps[i]? = some c2,
    fun i _ => i = x.cps.size ∧ x.cps.size = y.cps.size⟩
theorem turn_zipSS {P : Program} {w : World} {K : PySem.W.Frag} {elts : List Expr} {kk : Nat} {tpos : Pos} {z TI TO i1 i2 : Addr} {x y : Str} {t t2 : Tok} (S : ZipSep2 z TI TO i1 i2 [i1] [i2]) :
    Turn P w K (.Tuple elts kk tpos) (ItSS x y) [z, TI, TO, i1, i2] z (fun i h => IsZip h z TI TO .none ∧ IsTupOf2 h TI (.ref i1) (.ref i2) ∧ (∃ p q, IsTupOf2 h TO p q) ∧ h.IsStrIter i1 (strIterType x) x t i ∧ h.IsStrIter i2 (strIterType y) y t2 i) where
  mem := by simp
  obj := fun i h st c hc => by
    obtain ⟨hz, hTI, ⟨p, q, hTO⟩, ⟨o1, e1, _, d1⟩, ⟨o2, e2, _, d2⟩⟩ := st
    have e' : c = z ∨ c = TI ∨ c = TO ∨ c = i1 ∨ c = i2 := by simpa using hc
    rcases e' with q | q | q | q | q
    · rw [q]; exact ⟨_, hz, fun v q => nomatch q⟩
    · rw [q]; exact ⟨_, hTI, fun v q => nomatch q⟩
    · rw [q]; exact ⟨_, hTO, fun v q => nomatch q⟩
    · rw [q]; exact ⟨o1, e1, fun v q => by rw [d1] at q; cases q⟩
    · rw [q]; exact ⟨o2, e2, fun v q => by rw [d2] at q; cases q⟩
  keep := fun i h h' st k => by
    obtain ⟨hz, hTI, ⟨p, q, hTO⟩, ⟨o1, e1, r1⟩, ⟨o2, e2, r2⟩⟩ := st
    exact ⟨k z (by simp) _ hz, k TI (by simp) _ hTI, ⟨p, q, k TO (by simp) _ hTO⟩, ⟨o1, k i1 (by simp) _ e1, r1⟩, ⟨o2, k i2 (by simp) _ e2, r2⟩⟩
  item := by
    intro X hP hw hK hc i pins s σ H E I hf st hg
    subst hP hw hK
    obtain ⟨hz, hTI, ⟨p0, q0, hTO⟩, h1, h2⟩ := st
    obtain ⟨l1, hsz⟩ := hg
    have hzl : z < s.heap.objs.size := Heap.lt_size hz
    have li1 : i1 < s.heap.objs.size := by obtain ⟨_, e1, _⟩ := h1; exact Heap.lt_size e1
    have li2 : i2 < s.heap.objs.size := by obtain ⟨_, e2, _⟩ := h2; exact Heap.lt_size e2
    have lTI : TI < s.heap.objs.size := Heap.lt_size hTI
    have lTO : TO < s.heap.objs.size := Heap.lt_size hTO
    have zi1 : z ≠ i1 := fun q => S.zf1 (q ▸ S.mem1)
    have zi2 : z ≠ i2 := fun q => S.zf2 (q ▸ S.mem2)
    have D1 := Draws.text (prog := X.prog) (w := X.w) (A := X.A.in1) (I.ok.hd hc) i1 x t
    have D2 := Draws.text (prog := X.prog) (w := X.w) (A := X.A.in1) (I.ok.hd hc) i2 y t2
    have l2 : i < y.cps.size := by omega
    refine wpAny_pyNext_zipD2_item S D1 D2 hz hTI hTO h1 h2 l1 l2 fun x1 x2 h' tk y1 y2 b1 b2 d1 d2 b5 b6 hk => ?_
    obtain ⟨c1, u1, hc1, rfl⟩ := y1
    obtain ⟨c2, u2, hc2, rfl⟩ := y2
    refine ⟨_, rfl, wpAny_letOwnedTupleGo_zip (s := { s with heap := h', toks := tk }) b1 fun h'' z'' sb => ?_⟩
    have T2 : h''.get? s.heap.objs.size = some { cls := .type "tuple", data := .seq #[.str ⟨#[c1]⟩ u1, .str ⟨#[c2]⟩ u2] } := (sb.2 _ (Nat.ne_of_gt hzl)).trans b5
    have new : ObjOk X.prog X.w (upd H s.heap.objs.size (.tup [.str ⟨#[c1]⟩, .str ⟨#[c2]⟩])) h'' s.heap.objs.size (.tup [.str ⟨#[c1]⟩, .str ⟨#[c2]⟩]) :=
      ⟨by show 2 ≤ sizeLine; decide, [.str ⟨#[c1]⟩ u1, .str ⟨#[c2]⟩ u2], .cons ⟨_, rfl⟩ (.cons ⟨_, rfl⟩ .nil), ⟨_, T2, rfl, _, rfl⟩⟩
    have I1 : Inv X pins σ (upd H s.heap.objs.size (.tup [.str ⟨#[c1]⟩, .str ⟨#[c2]⟩])) { s with heap := h'', toks := tk } :=
      I.turnedNew (ch := [z, TI, TO, i1, i2]) (fun b o hb q => (sb.2 b (fun q' => hb (by simp [q']))).trans (hk b o (fun q' => hb (by simp [q'])) (fun q' => hb (by simp [q'])) (fun q' => hb (by simp [q'])) (fun q' => hb (by simp [q'])) q)) hf (Nat.le_refl _) new
    refine ⟨.ref s.heap.objs.size, _, I1, rfl, ⟨_, c1, c2, rfl, I.hok.fresh (Nat.le_refl _), rfl, hc1, hc2⟩, ⟨z'', ?_, ⟨.str ⟨#[c1]⟩ u1, .str ⟨#[c2]⟩ u2, ?_⟩, ?_, ?_⟩, fun b hb => ?_⟩
    · exact (sb.2 _ S.TIz).trans (hk _ _ S.TIz S.TITO S.TIi1 S.TIi2 hTI)
    · exact (sb.2 _ S.TOz).trans b2
    · obtain ⟨o1, e1, r1⟩ := d1
      exact ⟨o1, (sb.2 _ (Ne.symm zi1)).trans e1, r1⟩
    · obtain ⟨o2, e2, r2⟩ := d2
      exact ⟨o2, (sb.2 _ (Ne.symm zi2)).trans e2, r2⟩
    · have lt : b < s.heap.objs.size := by
        have e' : b = z ∨ b = TI ∨ b = TO ∨ b = i1 ∨ b = i2 := by simpa using hb
        rcases e' with q | q | q | q | q <;> rw [q] <;> assumption
      rw [upd_ne (Nat.ne_of_lt lt)]
      exact (hf b hb).1
  done := by
    intro X hP hw hK hc i pins s σ H E I hf st hg
    subst hP hw hK
    obtain ⟨hz, hTI, ⟨p0, q0, hTO⟩, h1, h2⟩ := st
    obtain ⟨hi, hsz⟩ := hg
    have D1 := Draws.text (prog := X.prog) (w := X.w) (A := X.A.in1) (I.ok.hd hc) i1 x t
    have D2 := Draws.text (prog := X.prog) (w := X.w) (A := X.A.in1) (I.ok.hd hc) i2 y t2
    refine wpAny_pyNext_zipD2_end S D1 D2 hz hTI hTO h1 h2 (by omega) (by omega) (by omega) fun h' tk hk => ⟨rfl, I.turnedL (t' := tk) (ch := [z, TI, TO, i1, i2]) (fun b o hb q =>
      hk b o (fun q' => hb (by simp [q'])) (fun q' => hb (by simp [q'])) (fun q' => hb (by simp [q'])) (fun q' => hb (by simp [q'])) q) hf⟩
  self := fun A i s Q E st h => wpAny_pyIter_zip st.1 h
/-- the same, the pair kept by one name -/
def ZipSt (h : Heap) (z TI TO : Addr) : Prop := IsZip h z TI TO .none ∨ ∃ T b, IsZipN h z TI TO T b
theorem ZipSt.get {h : Heap} {z TI TO : Addr} (s : ZipSt h z TI TO) : ∃ f0 b, h.get? z = some { cls := .type "zip", data := .fields #[f0, .bool b, .bool false, .ref TI, .ref TO] } := by
  rcases s with s | ⟨T, b, s⟩
  · exact ⟨_, _, s⟩
  · exact ⟨_, _, s⟩
theorem turn_zipSSn {P : Program} {w : World} {K : PySem.W.Frag} {nm : Str} {tpos : Pos} {z TI TO i1 i2 : Addr} {x y : Str} {t t2 : Tok} (S : ZipSep2 z TI TO i1 i2 [i1] [i2]) :
    Turn P w K (.Name nm tpos) (ItSS x y) [z, TI, TO, i1, i2] z (fun i h => ZipSt h z TI TO ∧ IsTupOf2 h TI (.ref i1) (.ref i2) ∧ (∃ p q, IsTupOf2 h TO p q) ∧ h.IsStrIter i1 (strIterType x) x t i ∧ h.IsStrIter i2 (strIterType y) y t2 i) where
  mem := by simp
  obj := fun i h st c hc => by
    obtain ⟨hz, hTI, ⟨p, q, hTO⟩, ⟨o1, e1, _, d1⟩, ⟨o2, e2, _, d2⟩⟩ := st
    obtain ⟨f0, b, hz⟩ := hz.get
    have e' : c = z ∨ c = TI ∨ c = TO ∨ c = i1 ∨ c = i2 := by simpa using hc
    rcases e' with q | q | q | q | q
    · rw [q]; exact ⟨_, hz, fun v q => nomatch q⟩
    · rw [q]; exact ⟨_, hTI, fun v q => nomatch q⟩
    · rw [q]; exact ⟨_, hTO, fun v q => nomatch q⟩
    · rw [q]; exact ⟨o1, e1, fun v q => by rw [d1] at q; cases q⟩
    · rw [q]; exact ⟨o2, e2, fun v q => by rw [d2] at q; cases q⟩
  keep := fun i h h' st k => by
    obtain ⟨hz, hTI, ⟨p, q, hTO⟩, ⟨o1, e1, r1⟩, ⟨o2, e2, r2⟩⟩ := st
    refine ⟨?_, k TI (by simp) _ hTI, ⟨p, q, k TO (by simp) _ hTO⟩, ⟨o1, k i1 (by simp) _ e1, r1⟩, ⟨o2, k i2 (by simp) _ e2, r2⟩⟩
    rcases hz with hz | ⟨T, b, hz⟩
    · exact Or.inl (k z (by simp) _ hz)
    · exact Or.inr ⟨T, b, k z (by simp) _ hz⟩
  item := by
    intro X hP hw hK hc i pins s σ H E I hf st hg
    subst hP hw hK
    obtain ⟨hz, hTI, ⟨p0, q0, hTO⟩, h1, h2⟩ := st
    obtain ⟨l1, hsz⟩ := hg
    obtain ⟨f0, b0, hz0⟩ := hz.get
    have hzl : z < s.heap.objs.size := Heap.lt_size hz0
    have li1 : i1 < s.heap.objs.size := by obtain ⟨_, e1, _⟩ := h1; exact Heap.lt_size e1
    have li2 : i2 < s.heap.objs.size := by obtain ⟨_, e2, _⟩ := h2; exact Heap.lt_size e2
    have lTI : TI < s.heap.objs.size := Heap.lt_size hTI
    have lTO : TO < s.heap.objs.size := Heap.lt_size hTO
    have nT1 : TO ≠ i1 := fun q => S.Tf1 (q ▸ S.mem1)
    have nT2 : TO ≠ i2 := fun q => S.Tf2 (q ▸ S.mem2)
    have D1 := Draws.text (prog := X.prog) (w := X.w) (A := X.A.in1) (I.ok.hd hc) i1 x t
    have D2 := Draws.text (prog := X.prog) (w := X.w) (A := X.A.in1) (I.ok.hd hc) i2 y t2
    have l2 : i < y.cps.size := by omega
    have fin : ∀ (c1 c2 : Nat) (u1 u2 : Tok) (h' : Heap) (tk : Nat), x.cps[i]? = some c1 → y.cps[i]? = some c2 → ZipSt h' z TI TO → (∃ p q, IsTupOf2 h' TO p q) → h'.IsStrIter i1 (strIterType x) x t (i + 1) → h'.IsStrIter i2 (strIterType y) y t2 (i + 1) →
        IsTupOf2 h' s.heap.objs.size (.str ⟨#[c1]⟩ u1) (.str ⟨#[c2]⟩ u2) → (∀ (c : Addr) (o : Obj), c ≠ z → c ≠ TO → c ≠ i1 → c ≠ i2 → s.heap.get? c = some o → h'.get? c = some o) →
        ∃ u, some (Value.ref s.heap.objs.size) = some u ∧ wpAny (model X.prog X.w) X.A (letOwnedTupleGo (.Name nm tpos) (.ref z) u) (fun _ s2 => ∃ x' H', L2.Inv X pins σ H' s2 ∧ RelV x' u ∧ (ItSS x y).yld i H x' H' ∧ (ZipSt s2.heap z TI TO ∧ IsTupOf2 s2.heap TI (.ref i1) (.ref i2) ∧ (∃ p q, IsTupOf2 s2.heap TO p q) ∧ s2.heap.IsStrIter i1 (strIterType x) x t (i + 1) ∧ s2.heap.IsStrIter i2 (strIterType y) y t2 (i + 1)) ∧ ∀ b, b ∈ [z, TI, TO, i1, i2] → H' b = none) E { s with heap := h', toks := tk } := by
      intro c1 c2 u1 u2 h' tk hc1 hc2 zs to d1 d2 b5 hk
      refine ⟨_, rfl, ?_⟩
      show wpAny _ _ (pure ()) _ _ _
      refine wpAny_pure ?_
      have new : ObjOk X.prog X.w (upd H s.heap.objs.size (.tup [.str ⟨#[c1]⟩, .str ⟨#[c2]⟩])) h' s.heap.objs.size (.tup [.str ⟨#[c1]⟩, .str ⟨#[c2]⟩]) :=
        ⟨by show 2 ≤ sizeLine; decide, [.str ⟨#[c1]⟩ u1, .str ⟨#[c2]⟩ u2], .cons ⟨_, rfl⟩ (.cons ⟨_, rfl⟩ .nil), ⟨_, b5, rfl, _, rfl⟩⟩
      have I1 : Inv X pins σ (upd H s.heap.objs.size (.tup [.str ⟨#[c1]⟩, .str ⟨#[c2]⟩])) { s with heap := h', toks := tk } :=
        I.turnedNew (ch := [z, TI, TO, i1, i2]) (fun b o hb q => hk b o (fun q' => hb (by simp [q'])) (fun q' => hb (by simp [q'])) (fun q' => hb (by simp [q'])) (fun q' => hb (by simp [q'])) q) hf (Nat.le_refl _) new
      refine ⟨.ref s.heap.objs.size, _, I1, rfl, ⟨_, c1, c2, rfl, I.hok.fresh (Nat.le_refl _), rfl, hc1, hc2⟩, ⟨zs, hk _ _ S.TIz S.TITO S.TIi1 S.TIi2 hTI, to, d1, d2⟩, fun b hb => ?_⟩
      have lt : b < s.heap.objs.size := by
        have e' : b = z ∨ b = TI ∨ b = TO ∨ b = i1 ∨ b = i2 := by simpa using hb
        rcases e' with q | q | q | q | q <;> rw [q] <;> assumption
      rw [upd_ne (Nat.ne_of_lt lt)]
      exact (hf b hb).1
    rcases hz with hz | ⟨T, b, hz⟩
    · refine wpAny_pyNext_zipD2_item S D1 D2 hz hTI hTO h1 h2 l1 l2 fun x1 x2 h' tk y1 y2 b1 b2 d1 d2 b5 b6 hk => ?_
      obtain ⟨c1, u1, hc1, rfl⟩ := y1
      obtain ⟨c2, u2, hc2, rfl⟩ := y2
      exact fin c1 c2 u1 u2 h' tk hc1 hc2 (Or.inr ⟨_, _, b1⟩) ⟨_, _, b2⟩ d1 d2 b5 hk
    · cases hT : s.heap.get? T with
      | none =>
        refine pyNext_zipM_item S D1 D2 hz hT hTI hTO h1 h2 l1 l2 fun x1 x2 h' tk y1 y2 b1 b2 d1 d2 b5 b6 hk => ?_
        obtain ⟨c1, u1, hc1, rfl⟩ := y1
        obtain ⟨c2, u2, hc2, rfl⟩ := y2
        exact fin c1 c2 u1 u2 h' tk hc1 hc2 (Or.inr ⟨_, _, b1⟩) ⟨_, _, b2⟩ d1 d2 b5 hk
      | some oT =>
        refine pyNext_zipN_item S D1 D2 hz ⟨oT, hT⟩ hTI h1 h2 l1 l2 fun x1 x2 h' tk y1 y2 b1 d1 d2 b5 b6 hk => ?_
        obtain ⟨c1, u1, hc1, rfl⟩ := y1
        obtain ⟨c2, u2, hc2, rfl⟩ := y2
        exact fin c1 c2 u1 u2 h' tk hc1 hc2 (Or.inr ⟨_, _, b1⟩) ⟨_, _, hk _ _ S.TOz nT1 nT2 hTO⟩ d1 d2 b5 (fun c o c0 cT c1 c2 e => hk c o c0 c1 c2 e)
  done := by
    intro X hP hw hK hc i pins s σ H E I hf st hg
    subst hP hw hK
    obtain ⟨hz, hTI, ⟨p0, q0, hTO⟩, h1, h2⟩ := st
    obtain ⟨hi, hsz⟩ := hg
    have D1 := Draws.text (prog := X.prog) (w := X.w) (A := X.A.in1) (I.ok.hd hc) i1 x t
    have D2 := Draws.text (prog := X.prog) (w := X.w) (A := X.A.in1) (I.ok.hd hc) i2 y t2
    have fin : ∀ (h' : Heap) (tk : Nat), (∀ (c : Addr) (o : Obj), c ≠ z → c ≠ TO → c ≠ i1 → c ≠ i2 → s.heap.get? c = some o → h'.get? c = some o) → (none : Option Value) = none ∧ L2.Inv X pins σ H { heap := h', gens := s.gens, drawn := s.drawn, toks := tk, os := s.os } := fun h' tk hk => ⟨rfl, I.turnedL (t' := tk) (ch := [z, TI, TO, i1, i2]) (fun b o hb q =>
      hk b o (fun q' => hb (by simp [q'])) (fun q' => hb (by simp [q'])) (fun q' => hb (by simp [q'])) (fun q' => hb (by simp [q'])) q) hf⟩
    rcases hz with hz | ⟨T, b, hz⟩
    · exact wpAny_pyNext_zipD2_end S D1 D2 hz hTI hTO h1 h2 (by omega) (by omega) (by omega) fin
    · subst hi
      cases hT : s.heap.get? T with
      | none => exact pyNext_zipM_end S D1 hz hT hTI hTO h1 fin
      | some oT => exact pyNext_zipN_end S D1 hz ⟨oT, hT⟩ hTI h1 fun h' tk hk => fin h' tk fun c o c0 cT c1 c2 e => hk c o c0 c1 c2 e
  self := fun A i s Q E st h => by
    obtain ⟨f0, b, hz⟩ := st.1.get
    have hT : s.TypeIs (.ref z) "zip" := ⟨_, hz, rfl⟩
    exact wpAny_pyIter_slot hT PySem.F.slot_zip_iter (wpAny_call_entry PySem.F.slot_zip_iter hT PySem.F.entry_zip_iter (wpAny_pure ⟨.ref z, rfl, "zip", .builtin "zip.__next__", hT, PySem.F.slot_zip_next.lookup, h⟩) (PySem.F.args_zip_iter_1 (.ref z)))
def iZipSS (ta : TA) : TI := fun σ H R => ta σ H fun vs H1 => ∃ x y : Str, vs = [.str x, .str y] ∧ R (ItSS x y) H1
section
variable {X : Cx} {e e2 : Expr} {ta : TA} {p pos tpos : Pos} {elts : List Expr} {kk : Nat}
theorem zip_fp {N : Nat} {c : Addr} {pins : List (Addr × Obj)} {σ : Sg} {H1 : Hp} {s1 : Shared} (I1 : L2.Inv X pins σ H1 s1) (hc : c ∈ [s1.heap.objs.size + 4, s1.heap.objs.size + 2, s1.heap.objs.size + 3, s1.heap.objs.size, s1.heap.objs.size + 1]) : s1.heap.objs.size ≤ c := by
  have e' : c = s1.heap.objs.size + 4 ∨ c = s1.heap.objs.size + 2 ∨ c = s1.heap.objs.size + 3 ∨ c = s1.heap.objs.size ∨ c = s1.heap.objs.size + 1 := by simpa using hc
  rcases e' with z | z | z | z | z <;> rw [z] <;> first | exact Nat.le_add_right _ _ | exact Nat.le_refl _
theorem pi_zipSS (hg : Gl X "zip") (hm : X.mg "zip" = none) (ha : PA X [e, e2] ta)
    (hs : starEach [e, e2] X.env = (false, eval e X.env) :: starEach [e2] X.env := by rfl) (hpl : (backTo pos (starEach [e2] X.env)).any (·.1) = false := by rfl) :
    PI X (.Tuple elts kk tpos) (.Call (.Name "zip" p) [e, e2] [] pos) (iZipSS ta) := by
  constructor
  intro pins s σ H R I h
  refine Call_ (ld_blt I hg hm PyProof.Rows.boot_zip (PyProof.Rows.callWith_type1 (thn (ha.run pos pins s σ H _ I h) fun us s1 z => ?_) hs hpl))
  obtain ⟨vs, H1, I1, r1, x, y, ex, q⟩ := z
  subst ex
  obtain ⟨u1, u2, rfl, rx, ry⟩ := vals2 r1
  obtain ⟨t, rfl⟩ := (show ∃ t, u1 = Value.str x t from rx)
  obtain ⟨t2, rfl⟩ := (show ∃ t, u2 = Value.str y t from ry)
  refine zip_begins2 (begins_text x t) (begins_text y t2) trivial trivial fun h' hz hTI hTO g1 g2 hsz hk => wpAny_pyIter_zip hz ?_
  have I2 : Inv X pins σ H1 { s1 with heap := h' } := I1.kept (t' := s1.toks) hk
  exact ⟨s1.heap.objs.size + 4, [s1.heap.objs.size + 4, s1.heap.objs.size + 2, s1.heap.objs.size + 3, s1.heap.objs.size, s1.heap.objs.size + 1], _, _, H1, rfl, I2,
    turn_zipSS (t := t) (t2 := t2) (zip_sep2 (N := s1.heap.objs.size) (fp1 := []) (fp2 := []) (fun b hb => nomatch hb) (fun b hb => nomatch hb)), ⟨hz, hTI, ⟨_, _, hTO⟩, ⟨_, g1, rfl, rfl⟩, ⟨_, g2, rfl, rfl⟩⟩, fun c hc => I1.fpOk (zip_fp (N := 0) I1 hc) (I1.hok.fresh (zip_fp (N := 0) I1 hc)), q⟩
theorem pi_zipSSn {nm : Str} (hg : Gl X "zip") (hm : X.mg "zip" = none) (ha : PA X [e, e2] ta)
    (hs : starEach [e, e2] X.env = (false, eval e X.env) :: starEach [e2] X.env := by rfl) (hpl : (backTo pos (starEach [e2] X.env)).any (·.1) = false := by rfl) :
    PI X (.Name nm tpos) (.Call (.Name "zip" p) [e, e2] [] pos) (iZipSS ta) := by
  constructor
  intro pins s σ H R I h
  refine Call_ (ld_blt I hg hm PyProof.Rows.boot_zip (PyProof.Rows.callWith_type1 (thn (ha.run pos pins s σ H _ I h) fun us s1 z => ?_) hs hpl))
  obtain ⟨vs, H1, I1, r1, x, y, ex, q⟩ := z
  subst ex
  obtain ⟨u1, u2, rfl, rx, ry⟩ := vals2 r1
  obtain ⟨t, rfl⟩ := (show ∃ t, u1 = Value.str x t from rx)
  obtain ⟨t2, rfl⟩ := (show ∃ t, u2 = Value.str y t from ry)
  refine zip_begins2 (begins_text x t) (begins_text y t2) trivial trivial fun h' hz hTI hTO g1 g2 hsz hk => wpAny_pyIter_zip hz ?_
  have I2 : Inv X pins σ H1 { s1 with heap := h' } := I1.kept (t' := s1.toks) hk
  exact ⟨s1.heap.objs.size + 4, [s1.heap.objs.size + 4, s1.heap.objs.size + 2, s1.heap.objs.size + 3, s1.heap.objs.size, s1.heap.objs.size + 1], _, _, H1, rfl, I2,
    turn_zipSSn (t := t) (t2 := t2) (zip_sep2 (N := s1.heap.objs.size) (fp1 := []) (fp2 := []) (fun b hb => nomatch hb) (fun b hb => nomatch hb)), ⟨Or.inl hz, hTI, ⟨_, _, hTO⟩, ⟨_, g1, rfl, rfl⟩, ⟨_, g2, rfl, rfl⟩⟩, fun c hc => I1.fpOk (zip_fp (N := 0) I1 hc) (I1.hok.fresh (zip_fp (N := 0) I1 hc)), q⟩
end
end TSx

/-! Own layer, part Z4: zip of a list and a tuple. -/
namespace TSx
open PySem L2 PySem.Spec PyProof.Rows
theorem plainL_is {h : Heap} {a : Addr} {its : Array Value} (pl : PlainL h a its) : h.IsList a its := by
  obtain ⟨o, n, ho, hc, _, hd⟩ := pl
  exact ⟨o, ho, hc, n, hd⟩
def ItLT (K : PySem.W.Frag) (a b : Addr) : It :=
  ⟨fun i H => ∃ (xs ys : List V) (v u : V), SqL K H a xs ∧ SqT K H b ys ∧ xs[i]? = some v ∧ ys[i]? = some u,
    fun i H v H' => ∃ (T : Addr) (u1 u2 : V), v = .ref T ∧ H T = none ∧ H' = upd H T (.tup [u1, u2]) ∧ (∀ xs, SqL K H a xs → xs[i]? = some u1) ∧ (∀ ys, SqT K H b ys → ys[i]? = some u2),
    fun i H => ∃ xs ys : List V, SqL K H a xs ∧ SqT K H b ys ∧ i = xs.length ∧ i = ys.length⟩
theorem turn_zipLT {P : Program} {w : World} {K : PySem.W.Frag} {elts : List Expr} {kk : Nat} {tpos : Pos} {a b z TI TO i1 i2 : Addr} (S : ZipSep2 z TI TO i1 i2 [i1, a] [i2, b]) :
    Turn P w K (.Tuple elts kk tpos) (ItLT K a b) [z, TI, TO, i1, i2] z (fun i h => IsZip h z TI TO .none ∧ IsTupOf2 h TI (.ref i1) (.ref i2) ∧ (∃ p q, IsTupOf2 h TO p q) ∧ h.IsListIter i1 a i ∧ h.IsTupleIter i2 b i) where
  mem := by simp
  obj := fun i h st c hc => by
    obtain ⟨hz, hTI, ⟨p, q, hTO⟩, ⟨o1, e1, _, d1⟩, ⟨o2, e2, _, d2⟩⟩ := st
    have e' : c = z ∨ c = TI ∨ c = TO ∨ c = i1 ∨ c = i2 := by simpa using hc
    rcases e' with q | q | q | q | q
    · rw [q]; exact ⟨_, hz, fun v q => nomatch q⟩
    · rw [q]; exact ⟨_, hTI, fun v q => nomatch q⟩
    · rw [q]; exact ⟨_, hTO, fun v q => nomatch q⟩
    · rw [q]; exact ⟨o1, e1, fun v q => by rw [d1] at q; cases q⟩
    · rw [q]; exact ⟨o2, e2, fun v q => by rw [d2] at q; cases q⟩
  keep := fun i h h' st k => by
    obtain ⟨hz, hTI, ⟨p, q, hTO⟩, ⟨o1, e1, r1⟩, ⟨o2, e2, r2⟩⟩ := st
    exact ⟨k z (by simp) _ hz, k TI (by simp) _ hTI, ⟨p, q, k TO (by simp) _ hTO⟩, ⟨o1, k i1 (by simp) _ e1, r1⟩, ⟨o2, k i2 (by simp) _ e2, r2⟩⟩
  item := by
    intro X hP hw hK hc i pins s σ H E I hf st hg
    subst hP hw hK
    obtain ⟨hz, hTI, ⟨p0, q0, hTO⟩, h1, h2⟩ := st
    obtain ⟨xs, ys, v, v2, hl, hq, hx, hy⟩ := hg
    obtain ⟨its1, rv1, pl, _⟩ := I.list hl
    obtain ⟨u1, hu1, ru1⟩ := rv1.get hx
    obtain ⟨its, rv, pt, _⟩ := I.tuple hq
    obtain ⟨u, hu, ru⟩ := rv.get hy
    have ne1 : a ≠ i1 := fun e => by
      obtain ⟨o, _, ho, hcl, _⟩ := pl
      obtain ⟨o1, e1, c1, _⟩ := h1
      rw [e] at ho
      rw [e1] at ho
      cases ho
      rw [hcl] at c1
      exact absurd (Value.type.inj c1) (by decide)
    have ne2 : b ≠ i2 := fun e => by
      obtain ⟨o, ho, hcl, _⟩ := pt
      obtain ⟨o1, e1, c1, _⟩ := h2
      rw [e] at ho
      rw [e1] at ho
      cases ho
      rw [hcl] at c1
      exact absurd (Value.type.inj c1) (by decide)
    have hzl : z < s.heap.objs.size := Heap.lt_size hz
    have li1 : i1 < s.heap.objs.size := by obtain ⟨_, e1, _⟩ := h1; exact Heap.lt_size e1
    have li2 : i2 < s.heap.objs.size := by obtain ⟨_, e2, _⟩ := h2; exact Heap.lt_size e2
    have lTI : TI < s.heap.objs.size := Heap.lt_size hTI
    have lTO : TO < s.heap.objs.size := Heap.lt_size hTO
    have zi1 : z ≠ i1 := fun q => S.zf1 (q ▸ S.mem1)
    have zi2 : z ≠ i2 := fun q => S.zf2 (q ▸ S.mem2)
    have D1 := Draws.list (prog := X.prog) (w := X.w) (A := X.A.in1) (I.ok.hd hc) i1 a ne1 its1.toArray
    have D2 := Draws.tuple (prog := X.prog) (w := X.w) (A := X.A.in1) (I.ok.hd hc) i2 b ne2 its.toArray
    have l1 : i < its1.toArray.size := by
      have : i < its1.length := (List.getElem?_eq_some_iff.mp (by simpa using hu1)).1
      simpa using this
    have l2 : i < its.toArray.size := by
      have : i < its.length := (List.getElem?_eq_some_iff.mp (by simpa using hu)).1
      simpa using this
    refine wpAny_pyNext_zipD2_item S D1 D2 hz hTI hTO ⟨h1, plainL_is pl⟩ ⟨h2, pt⟩ l1 l2 fun x1 x2 h' tk y1 y2 b1 b2 d1 d2 b5 b6 hk => ?_
    have e1 : x1 = u1 := by
      have hu' : its1.toArray[i]? = some u1 := by simpa using hu1
      rw [hu'] at y1
      exact (Option.some.inj y1).symm
    have e2 : x2 = u := by
      have hu' : its.toArray[i]? = some u := by simpa using hu
      rw [hu'] at y2
      exact (Option.some.inj y2).symm
    subst e1 e2
    refine ⟨_, rfl, wpAny_letOwnedTupleGo_zip (s := { s with heap := h', toks := tk }) b1 fun h'' z'' sb => ?_⟩
    have T2 : h''.get? s.heap.objs.size = some { cls := .type "tuple", data := .seq #[x1, x2] } := (sb.2 _ (Nat.ne_of_gt hzl)).trans b5
    have new : ObjOk X.prog X.w (upd H s.heap.objs.size (.tup [v, v2])) h'' s.heap.objs.size (.tup [v, v2]) :=
      ⟨by show 2 ≤ sizeLine; decide, [x1, x2], .cons ru1 (.cons ru .nil), ⟨_, T2, rfl, _, rfl⟩⟩
    have I1 : Inv X pins σ (upd H s.heap.objs.size (.tup [v, v2])) { s with heap := h'', toks := tk } :=
      I.turnedNew (ch := [z, TI, TO, i1, i2]) (fun b o hb q => (sb.2 b (fun q' => hb (by simp [q']))).trans (hk b o (fun q' => hb (by simp [q'])) (fun q' => hb (by simp [q'])) (fun q' => hb (by simp [q'])) (fun q' => hb (by simp [q'])) q)) hf (Nat.le_refl _) new
    refine ⟨.ref s.heap.objs.size, _, I1, rfl, ⟨_, v, v2, rfl, I.hok.fresh (Nat.le_refl _), rfl, fun l hl' => by rw [I.list_inj hl' hl]; exact hx, fun l hl' => by rw [I.tuple_inj hl' hq]; exact hy⟩, ⟨z'', ?_, ⟨x1, x2, ?_⟩, ?_, ?_⟩, fun b hb => ?_⟩
    · exact (sb.2 _ S.TIz).trans (hk _ _ S.TIz S.TITO S.TIi1 S.TIi2 hTI)
    · exact (sb.2 _ S.TOz).trans b2
    · obtain ⟨⟨o1, e1, r1⟩, _⟩ := d1
      exact ⟨o1, (sb.2 _ (Ne.symm zi1)).trans e1, r1⟩
    · obtain ⟨⟨o2, e2, r2⟩, _⟩ := d2
      exact ⟨o2, (sb.2 _ (Ne.symm zi2)).trans e2, r2⟩
    · have lt : b < s.heap.objs.size := by
        have e' : b = z ∨ b = TI ∨ b = TO ∨ b = i1 ∨ b = i2 := by simpa using hb
        rcases e' with q | q | q | q | q <;> rw [q] <;> assumption
      rw [upd_ne (Nat.ne_of_lt lt)]
      exact (hf b hb).1
  done := by
    intro X hP hw hK hc i pins s σ H E I hf st hg
    subst hP hw hK
    obtain ⟨hz, hTI, ⟨p0, q0, hTO⟩, h1, h2⟩ := st
    obtain ⟨xs, ys, hl, hq, hi, hi2⟩ := hg
    obtain ⟨its1, rv1, pl, _⟩ := I.list hl
    obtain ⟨its, rv, pt, _⟩ := I.tuple hq
    have ln1 := rv1.length
    have ln2 := rv.length
    have ne1 : a ≠ i1 := fun e => by
      obtain ⟨o, _, ho, hcl, _⟩ := pl
      obtain ⟨o1, e1, c1, _⟩ := h1
      rw [e] at ho
      rw [e1] at ho
      cases ho
      rw [hcl] at c1
      exact absurd (Value.type.inj c1) (by decide)
    have ne2 : b ≠ i2 := fun e => by
      obtain ⟨o, ho, hcl, _⟩ := pt
      obtain ⟨o1, e1, c1, _⟩ := h2
      rw [e] at ho
      rw [e1] at ho
      cases ho
      rw [hcl] at c1
      exact absurd (Value.type.inj c1) (by decide)
    have D1 := Draws.list (prog := X.prog) (w := X.w) (A := X.A.in1) (I.ok.hd hc) i1 a ne1 its1.toArray
    have D2 := Draws.tuple (prog := X.prog) (w := X.w) (A := X.A.in1) (I.ok.hd hc) i2 b ne2 its.toArray
    have sz1 : its1.toArray.size = xs.length := by rw [List.size_toArray]; exact ln1.symm
    have sz2 : its.toArray.size = ys.length := by rw [List.size_toArray]; exact ln2.symm
    refine wpAny_pyNext_zipD2_end S D1 D2 hz hTI hTO ⟨h1, plainL_is pl⟩ ⟨h2, pt⟩ (by omega) (by omega) (by omega) fun h' tk hk => ⟨rfl, I.turnedL (t' := tk) (ch := [z, TI, TO, i1, i2]) (fun b o hb q =>
      hk b o (fun q' => hb (by simp [q'])) (fun q' => hb (by simp [q'])) (fun q' => hb (by simp [q'])) (fun q' => hb (by simp [q'])) q) hf⟩
  self := fun A i s Q E st h => wpAny_pyIter_zip st.1 h
def iZipLT (K : PySem.W.Frag) (ta : TA) : TI := fun σ H R => ta σ H fun vs H1 => ∃ (a b : Addr) (xs ys : List V), vs = [.ref a, .ref b] ∧ SqL K H1 a xs ∧ SqT K H1 b ys ∧ R (ItLT K a b) H1
theorem pi_zipLT {X : Cx} {e e2 : Expr} {ta : TA} {p pos tpos : Pos} {elts : List Expr} {kk : Nat} (hg : Gl X "zip") (hm : X.mg "zip" = none) (ha : PA X [e, e2] ta)
    (hs : starEach [e, e2] X.env = (false, eval e X.env) :: starEach [e2] X.env := by rfl) (hpl : (backTo pos (starEach [e2] X.env)).any (·.1) = false := by rfl) :
    PI X (.Tuple elts kk tpos) (.Call (.Name "zip" p) [e, e2] [] pos) (iZipLT X.K ta) := by
  constructor
  intro pins s σ H R I h
  refine Call_ (ld_blt I hg hm PyProof.Rows.boot_zip (PyProof.Rows.callWith_type1 (thn (ha.run pos pins s σ H _ I h) fun us s1 z => ?_) hs hpl))
  obtain ⟨vs, H1, I1, r1, a, b, xs, ys, ex, hl, hq, q⟩ := z
  subst ex
  obtain ⟨u1, u2, rfl, ra, rb⟩ := vals2 r1
  cases (show u1 = Value.ref a from ra)
  cases (show u2 = Value.ref b from rb)
  obtain ⟨its1, rv1, pl, _⟩ := I1.list hl
  obtain ⟨its, rv, pt, _⟩ := I1.tuple hq
  have la : a < s1.heap.objs.size := by obtain ⟨o, _, ho, _⟩ := id pl; exact Heap.lt_size ho
  have lb : b < s1.heap.objs.size := by obtain ⟨o, ho, _⟩ := id pt; exact Heap.lt_size ho
  refine zip_begins2 (begins_list a its1.toArray) (begins_tuple b its.toArray) (plainL_is pl) pt fun h' hz hTI hTO g1 g2 hsz hk => wpAny_pyIter_zip hz ?_
  have I2 : Inv X pins σ H1 { s1 with heap := h' } := I1.kept (t' := s1.toks) hk
  exact ⟨s1.heap.objs.size + 4, [s1.heap.objs.size + 4, s1.heap.objs.size + 2, s1.heap.objs.size + 3, s1.heap.objs.size, s1.heap.objs.size + 1], _, _, H1, rfl, I2,
    turn_zipLT (zip_sep2 (N := s1.heap.objs.size) (fp1 := [a]) (fp2 := [b]) (fun c hb => by rw [List.mem_singleton.mp hb]; exact la) (fun c hb => by rw [List.mem_singleton.mp hb]; exact lb)), ⟨hz, hTI, ⟨_, _, hTO⟩, ⟨_, g1, rfl, rfl⟩, ⟨_, g2, rfl, rfl⟩⟩, fun c hc => I1.fpOk (zip_fp (N := 0) I1 hc) (I1.hok.fresh (zip_fp (N := 0) I1 hc)), q⟩
end TSx

/-! Own layer, part Y1: what is gone through, what is stored to, comprehensions, over data. -/
namespace TSx
open PySem L2
theorem yw_SS {x y : Str} (h : x.cps.size = y.cps.size) : Walk (ItSS x y) x.cps.size (fun _ => True) (fun i H v H' => ∃ (T : Addr) (c1 c2 : Nat), v = .ref T ∧ H T = none ∧ H' = upd H T (.tup [.str ⟨#[c1]⟩, .str ⟨#[c2]⟩]) ∧ x.cps[i]? = some c1 ∧ y.cps[i]? = some c2) :=
  ⟨fun i H hi _ => ⟨hi, h⟩, fun H _ => ⟨rfl, h⟩, fun i H v H' hi _ y => y⟩
theorem yw_LT {K : PySem.W.Frag} {a c : Addr} {xs ys : List V} (hl : xs.length = ys.length) : Walk (ItLT K a c) xs.length (fun H => SqL K H a xs ∧ SqT K H c ys) (YPair (fun i => xs[i]?) (fun i => ys[i]?)) :=
  ⟨fun i H hi h => ⟨xs, ys, xs[i], ys[i]'(by omega), h.1, h.2, List.getElem?_eq_getElem hi, List.getElem?_eq_getElem _⟩, fun H h => ⟨xs, ys, h.1, h.2, rfl, hl⟩, fun i H x H' hi h y => by
    obtain ⟨T, u, w, rfl, hT, rfl, f1, f2⟩ := y
    exact ⟨T, u, w, rfl, hT, rfl, f1 xs h.1, f2 ys h.2⟩⟩
def YD (K : PySem.W.Frag) (G H : Hp) (x : V) (H' : Hp) (d : D) : Prop := (H' = H ∧ Dt K G x d) ∨ ∃ (T : Addr) (v1 v2 : V) (d1 d2 : D), x = .ref T ∧ H T = none ∧ H' = upd H T (.tup [v1, v2]) ∧ d = .tup [d1, d2] ∧ Dt K G v1 d1 ∧ Dt K G v2 d2
structure ItD (K : PySem.W.Frag) (G : Hp) (J : It) (ds : List D) : Prop where
  go : ∀ i H, i < ds.length → Same G H → J.go i H
  stop : ∀ H, Same G H → J.stop ds.length H
  yld : ∀ i H x H', i < ds.length → Same G H → J.yld i H x H' → ∃ d, ds[i]? = some d ∧ YD K G H x H' d
theorem YD.use {K : PySem.W.Frag} {G H H' : Hp} {x : V} {d : D} {U : Vw} {r : Nat} (y : YD K G H x H' d) (ok : Ok U H r) (s : Same G (U.see H)) : Same H H' ∧ Dt K (U.see H') x d := by
  rcases y with ⟨rfl, a⟩ | ⟨T, v1, v2, d1, d2, rfl, nT, rfl, rfl, a, b⟩
  · exact ⟨Gr.rfl', a.gr s⟩
  · have s2 : Same H (upd H T (.tup [v1, v2])) := same_new nT
    exact ⟨s2, .tup (SqT.of (see_new ok nT)) (.cons ((a.gr s).gr (see_same s2)) (.cons ((b.gr s).gr (see_same s2)) .nil))⟩
theorem ItD.of {K : PySem.W.Frag} {G : Hp} {J : It} {ds : List D} {n : Nat} {G' : Hp → Prop} {Y : Nat → Hp → V → Hp → Prop} (w : Walk J n G' Y) (hn : n = ds.length) (hG : ∀ H, Same G H → G' H) (hY : ∀ i H x H', i < n → Y i H x H' → ∃ d, ds[i]? = some d ∧ YD K G H x H' d) : ItD K G J ds :=
  ⟨fun i H hi s => w.goes i H (by omega) (hG H s), fun H s => hn ▸ w.stops H (hG H s), fun i H x H' hi s y => hY i H x H' (by omega) (w.yields i H x H' (by omega) (hG H s) y)⟩
def SndI (K : PySem.W.Frag) (wi : TI) (iv : IV) : Prop := ∀ (U : Vw) (σ : Sg) (δ : SD) (H : Hp) (r : Nat) (P : List D → Nat → Prop) (R : It → Hp → Prop), Ok U H r → RelE K U H σ δ → iv δ r P →
  (∀ ds r' J H', P ds r' → Step U H H' → Ok U H' r' → ItD K (U.see H') J ds → R J H') → wi σ H R
def chars (x : Str) : List D := x.cps.toList.map fun c => .str ⟨#[c]⟩
def pairsD (xs ys : List D) : List D := (xs.zip ys).map fun p => .tup [p.1, p.2]
def enumD (xs : List D) : List D := xs.zipIdx.map fun p => .tup [.int (p.2 : Nat), p.1]
def rangeD (a : Int) (n : Nat) : List D := (List.range n).map fun k => .int (a + (k : Nat))
def iTupD (e : EV) : IV := fun δ r P => e δ r fun d r1 => ∃ ds, d = .tup ds ∧ P ds r1
def iLstD (e : EV) : IV := fun δ r P => e δ r fun d r1 => ∃ ds, d = .lst ds ∧ P ds r1
def iStrD (e : EV) : IV := fun δ r P => e δ r fun d r1 => ∃ x, d = .str x ∧ P (chars x) r1
def iR1 (a : AV) : IV := fun δ r P => a δ r fun ss r1 => ∃ j : Int, ss = [.d (.int j)] ∧ (-(2 ^ 62) ≤ j ∧ j < 2 ^ 62) ∧ P (rangeD 0 j.toNat) r1
def iR2 (a : AV) : IV := fun δ r P => a δ r fun ss r1 => ∃ i j : Int, ss = [.d (.int i), .d (.int j)] ∧ (-(2 ^ 62) ≤ i ∧ i < 2 ^ 62 ∧ -(2 ^ 62) ≤ j ∧ j < 2 ^ 62) ∧ P (rangeD i (j - i).toNat) r1
def iEnD (a : AV) : IV := fun δ r P => a δ r fun ss r1 => ∃ xs, ss = [.d (.tup xs)] ∧ P (enumD xs) r1
def iEnL (a : AV) : IV := fun δ r P => a δ r fun ss r1 => ∃ xs, ss = [.d (.lst xs)] ∧ P (enumD xs) r1
def iZTT (a : AV) : IV := fun δ r P => a δ r fun ss r1 => ∃ xs ys, ss = [.d (.tup xs), .d (.tup ys)] ∧ xs.length = ys.length ∧ P (pairsD xs ys) r1
def iZLL (a : AV) : IV := fun δ r P => a δ r fun ss r1 => ∃ xs ys, ss = [.d (.lst xs), .d (.lst ys)] ∧ xs.length = ys.length ∧ P (pairsD xs ys) r1
def iZLT (a : AV) : IV := fun δ r P => a δ r fun ss r1 => ∃ xs ys, ss = [.d (.lst xs), .d (.tup ys)] ∧ xs.length = ys.length ∧ P (pairsD xs ys) r1
def iZST (a : AV) : IV := fun δ r P => a δ r fun ss r1 => ∃ x ys, ss = [.d (.str x), .d (.tup ys)] ∧ x.cps.size = ys.length ∧ P (pairsD (chars x) ys) r1
def iZTS (a : AV) : IV := fun δ r P => a δ r fun ss r1 => ∃ xs y, ss = [.d (.tup xs), .d (.str y)] ∧ xs.length = y.cps.size ∧ P (pairsD xs (chars y)) r1
def iZSS (a : AV) : IV := fun δ r P => a δ r fun ss r1 => ∃ x y, ss = [.d (.str x), .d (.str y)] ∧ x.cps.size = y.cps.size ∧ P (pairsD (chars x) (chars y)) r1
section
variable {K : PySem.W.Frag} {te : TE} {ee : EV} {tA : TA} {av : AV} {U : Vw} {H : Hp}
theorem SlsOk.one {s : Sl} {vs : List V} (h : SlsOk K U H [s] vs) : ∃ v, vs = [v] ∧ SlOk K U H s v := by
  match vs, h with
  | [v], h => exact ⟨v, rfl, h.1.1⟩
  | v :: w :: vs, h => exact h.2.elim
theorem SlsOk.two {s t : Sl} {vs : List V} (h : SlsOk K U H [s, t] vs) : ∃ v w, vs = [v, w] ∧ SlOk K U H s v ∧ SlOk K U H t w := by
  match vs, h with
  | v :: vs, h =>
    obtain ⟨w, rfl, a⟩ := SlsOk.one h.2
    exact ⟨v, w, rfl, h.1.1, a⟩
theorem SlsOk.three {s t u : Sl} {vs : List V} (h : SlsOk K U H [s, t, u] vs) : ∃ v w x, vs = [v, w, x] ∧ SlOk K U H s v ∧ SlOk K U H t w ∧ SlOk K U H u x := by
  match vs, h with
  | v :: vs, h =>
    obtain ⟨w, x, rfl, a, b⟩ := SlsOk.two h.2
    exact ⟨v, w, x, rfl, h.1.1, a, b⟩
theorem chars_at {x : Str} {i c : Nat} (h : x.cps[i]? = some c) : (chars x)[i]? = some (.str ⟨#[c]⟩) := by
  unfold chars
  rw [List.getElem?_map, Array.getElem?_toList, h]
  rfl
theorem chars_len (x : Str) : (chars x).length = x.cps.size := by
  unfold chars
  rw [List.length_map, Array.length_toList]
theorem pairs_at {xs ys : List D} {i : Nat} {x y : D} (h : xs[i]? = some x) (h2 : ys[i]? = some y) : (pairsD xs ys)[i]? = some (.tup [x, y]) := by
  unfold pairsD
  rw [List.getElem?_map, (List.getElem?_zip_eq_some (z := (x, y))).mpr ⟨h, h2⟩]
  rfl
theorem pairs_len {xs ys : List D} (h : xs.length = ys.length) : (pairsD xs ys).length = xs.length := by
  unfold pairsD
  rw [List.length_map, List.length_zip, h, Nat.min_self]
theorem enum_at {xs : List D} {i : Nat} {x : D} (h : xs[i]? = some x) : (enumD xs)[i]? = some (.tup [.int (i : Nat), x]) := by
  unfold enumD
  rw [List.getElem?_map, List.getElem?_zipIdx, h]
  simp
theorem enum_len (xs : List D) : (enumD xs).length = xs.length := by
  unfold enumD
  rw [List.length_map, List.length_zipIdx]
theorem range_at {a : Int} {n i : Nat} (h : i < n) : (rangeD a n)[i]? = some (.int (a + (i : Nat))) := by
  unfold rangeD
  rw [List.getElem?_map, List.getElem?_range h]
  rfl
theorem range_len {a : Int} {n : Nat} : (rangeD a n).length = n := by
  unfold rangeD
  rw [List.length_map, List.length_range]
theorem snd_iTup (h : SndE K te ee) : SndI K (iTup K te) (iTupD ee) := fun U σ δ H r P R ok rel h0 k => h U σ δ H r _ _ ok rel h0 fun d r1 v H1 h1 s1 ok1 a1 => by
  obtain ⟨ds, rfl, p⟩ := h1
  cases a1 with
  | @tup q xs _ e aa =>
    exact ⟨q, rfl, ⟨xs, gr_T see_le e⟩, k _ _ _ _ p s1 ok1 (ItD.of walk_tup aa.len (fun H' s => gr_T s e) fun i H' x H'' hi y => by
      obtain ⟨rfl, hx⟩ := y
      obtain ⟨z, hz, az⟩ := aa.at hx
      exact ⟨z, hz, Or.inl ⟨rfl, az⟩⟩)⟩
theorem snd_iLst (h : SndE K te ee) : SndI K (iList K te) (iLstD ee) := fun U σ δ H r P R ok rel h0 k => h U σ δ H r _ _ ok rel h0 fun d r1 v H1 h1 s1 ok1 a1 => by
  obtain ⟨ds, rfl, p⟩ := h1
  cases a1 with
  | @lst q xs _ e aa =>
    have e' := see_le _ _ e
    exact ⟨q, rfl, ⟨xs, SqL.of e'⟩, k _ _ _ _ p s1 ok1 (ItD.of walk_list aa.len (fun H' s => SqL.of (s _ _ e)) fun i H' x H'' hi y => by
      obtain ⟨rfl, hx⟩ := y
      obtain ⟨z, hz, az⟩ := aa.at hx
      exact ⟨z, hz, Or.inl ⟨rfl, az⟩⟩)⟩
theorem snd_iStr (h : SndE K te ee) : SndI K (iStr te) (iStrD ee) := fun U σ δ H r P R ok rel h0 k => h U σ δ H r _ _ ok rel h0 fun d r1 v H1 h1 s1 ok1 a1 => by
  obtain ⟨x, rfl, p⟩ := h1
  cases a1
  exact ⟨x, rfl, k _ _ _ _ p s1 ok1 (ItD.of walk_str (chars_len x).symm (fun _ _ => trivial) fun i H' v H'' hi y => by
    obtain ⟨rfl, c, hc, rfl⟩ := y
    exact ⟨_, chars_at hc, Or.inl ⟨rfl, .str _⟩⟩)⟩
theorem it_range {G : Hp} {a : Int} {n : Nat} : ItD K G (Itr a n) (rangeD a n) := ItD.of walk_range range_len.symm (fun _ _ => trivial) fun i H' v H'' hi y => by
  obtain ⟨rfl, rfl⟩ := y
  exact ⟨_, range_at hi, Or.inl ⟨rfl, .int _⟩⟩
theorem snd_iR1 (h : SndA K tA av) : SndI K (iRng1 tA) (iR1 av) := fun U σ δ H r P R ok rel h0 k => h U σ δ H r _ _ ok rel h0 fun ss r1 vs H1 h1 s1 ok1 a1 => by
  obtain ⟨j, rfl, ⟨l1, l2⟩, p⟩ := h1
  obtain ⟨v, rfl, a⟩ := a1.one
  cases a
  exact ⟨j, rfl, l1, l2, k _ _ _ _ p s1 ok1 it_range⟩
theorem snd_iR2 (h : SndA K tA av) : SndI K (iRng2 tA) (iR2 av) := fun U σ δ H r P R ok rel h0 k => h U σ δ H r _ _ ok rel h0 fun ss r1 vs H1 h1 s1 ok1 a1 => by
  obtain ⟨i, j, rfl, l, p⟩ := h1
  obtain ⟨v, w, rfl, a, b⟩ := a1.two
  cases a
  cases b
  exact ⟨i, j, rfl, l, k _ _ _ _ p s1 ok1 it_range⟩
theorem snd_iEnT (h : SndA K tA av) : SndI K (iEnumT K tA) (iEnD av) := fun U σ δ H r P R ok rel h0 k => h U σ δ H r _ _ ok rel h0 fun ss r1 vs H1 h1 s1 ok1 a1 => by
  obtain ⟨ds, rfl, p⟩ := h1
  obtain ⟨v, rfl, a⟩ := a1.one
  cases (show Dt K (U.see H1) v (.tup ds) from a) with
  | @tup q xs _ e aa =>
    refine ⟨q, xs, rfl, gr_T see_le e, k _ _ _ _ p s1 ok1 (ItD.of walk_enumT (by rw [enum_len]; exact aa.len) (fun H' s => gr_T s e) fun i H' x H'' hi y => ?_)⟩
    obtain ⟨T, u1, u2, rfl, nT, rfl, e1, e2⟩ := y
    cases e1
    obtain ⟨z, hz, az⟩ := aa.at e2
    exact ⟨_, enum_at hz, Or.inr ⟨T, _, _, _, _, rfl, nT, rfl, rfl, .int _, az⟩⟩
theorem snd_iEnL (h : SndA K tA av) : SndI K (iEnum K tA) (iEnL av) := fun U σ δ H r P R ok rel h0 k => h U σ δ H r _ _ ok rel h0 fun ss r1 vs H1 h1 s1 ok1 a1 => by
  obtain ⟨ds, rfl, p⟩ := h1
  obtain ⟨v, rfl, a⟩ := a1.one
  cases (show Dt K (U.see H1) v (.lst ds) from a) with
  | @lst q xs _ e aa =>
    refine ⟨q, xs, rfl, SqL.of (see_le _ _ e), k _ _ _ _ p s1 ok1 (ItD.of walk_enum (by rw [enum_len]; exact aa.len) (fun H' s => SqL.of (s _ _ e)) fun i H' x H'' hi y => ?_)⟩
    obtain ⟨T, u1, u2, rfl, nT, rfl, e1, e2⟩ := y
    cases e1
    obtain ⟨z, hz, az⟩ := aa.at e2
    exact ⟨_, enum_at hz, Or.inr ⟨T, _, _, _, _, rfl, nT, rfl, rfl, .int _, az⟩⟩
theorem snd_iZTT (h : SndA K tA av) : SndI K (RZ.iZipA K tA) (iZTT av) := fun U σ δ H r P R ok rel h0 k => h U σ δ H r _ _ ok rel h0 fun ss r1 vs H1 h1 s1 ok1 a1 => by
  obtain ⟨ds, es, rfl, hl, p⟩ := h1
  obtain ⟨v, w, rfl, a, b⟩ := a1.two
  cases (show Dt K (U.see H1) v (.tup ds) from a) with
  | @tup q xs _ e aa =>
  cases (show Dt K (U.see H1) w (.tup es) from b) with
  | @tup q2 ys _ e2 bb =>
    have lx := aa.len
    have ly := bb.len
    refine ⟨q, q2, xs, ys, rfl, Or.inr ⟨gr_T see_le e, gr_T see_le e2, k _ _ _ _ p s1 ok1 (ItD.of (walk_zipT (by omega)) (by rw [pairs_len hl]; exact lx) (fun H' s => ⟨gr_T s e, gr_T s e2⟩) fun i H' x H'' hi y => ?_)⟩⟩
    obtain ⟨T, u1, u2, rfl, nT, rfl, e1, e2⟩ := y
    obtain ⟨z, hz, az⟩ := aa.at e1
    obtain ⟨z2, hz2, az2⟩ := bb.at e2
    exact ⟨_, pairs_at hz hz2, Or.inr ⟨T, _, _, _, _, rfl, nT, rfl, rfl, az, az2⟩⟩
theorem snd_iZLL (h : SndA K tA av) : SndI K (RZ.iZipA K tA) (iZLL av) := fun U σ δ H r P R ok rel h0 k => h U σ δ H r _ _ ok rel h0 fun ss r1 vs H1 h1 s1 ok1 a1 => by
  obtain ⟨ds, es, rfl, hl, p⟩ := h1
  obtain ⟨v, w, rfl, a, b⟩ := a1.two
  cases (show Dt K (U.see H1) v (.lst ds) from a) with
  | @lst q xs _ e aa =>
  cases (show Dt K (U.see H1) w (.lst es) from b) with
  | @lst q2 ys _ e2 bb =>
    have lx := aa.len
    have ly := bb.len
    refine ⟨q, q2, xs, ys, rfl, Or.inl ⟨SqL.of (see_le _ _ e), SqL.of (see_le _ _ e2), k _ _ _ _ p s1 ok1 (ItD.of (walk_zip (n := xs.length) (by omega)) (by rw [pairs_len hl]; exact lx) (fun H' s => ⟨SqL.of (s _ _ e), SqL.of (s _ _ e2)⟩) fun i H' x H'' hi y => ?_)⟩⟩
    obtain ⟨T, u1, u2, rfl, nT, rfl, e1, e2⟩ := y
    obtain ⟨z, hz, az⟩ := aa.at e1
    obtain ⟨z2, hz2, az2⟩ := bb.at e2
    exact ⟨_, pairs_at hz hz2, Or.inr ⟨T, _, _, _, _, rfl, nT, rfl, rfl, az, az2⟩⟩
theorem snd_iZLT (h : SndA K tA av) : SndI K (iZipLT K tA) (iZLT av) := fun U σ δ H r P R ok rel h0 k => h U σ δ H r _ _ ok rel h0 fun ss r1 vs H1 h1 s1 ok1 a1 => by
  obtain ⟨ds, es, rfl, hl, p⟩ := h1
  obtain ⟨v, w, rfl, a, b⟩ := a1.two
  cases (show Dt K (U.see H1) v (.lst ds) from a) with
  | @lst q xs _ e aa =>
  cases (show Dt K (U.see H1) w (.tup es) from b) with
  | @tup q2 ys _ e2 bb =>
    have lx := aa.len
    have ly := bb.len
    refine ⟨q, q2, xs, ys, rfl, SqL.of (see_le _ _ e), gr_T see_le e2, k _ _ _ _ p s1 ok1 (ItD.of (yw_LT (by omega)) (by rw [pairs_len hl]; exact lx) (fun H' s => ⟨SqL.of (s _ _ e), gr_T s e2⟩) fun i H' x H'' hi y => ?_)⟩
    obtain ⟨T, u1, u2, rfl, nT, rfl, e1, e2⟩ := y
    obtain ⟨z, hz, az⟩ := aa.at e1
    obtain ⟨z2, hz2, az2⟩ := bb.at e2
    exact ⟨_, pairs_at hz hz2, Or.inr ⟨T, _, _, _, _, rfl, nT, rfl, rfl, az, az2⟩⟩
theorem snd_iZST (h : SndA K tA av) : SndI K (iZipX K tA) (iZST av) := fun U σ δ H r P R ok rel h0 k => h U σ δ H r _ _ ok rel h0 fun ss r1 vs H1 h1 s1 ok1 a1 => by
  obtain ⟨x, es, rfl, hl, p⟩ := h1
  obtain ⟨v, w, rfl, a, b⟩ := a1.two
  cases (show Dt K (U.see H1) v (.str x) from a)
  cases (show Dt K (U.see H1) w (.tup es) from b) with
  | @tup q2 ys _ e2 bb =>
    have ly := bb.len
    refine ⟨q2, x, ys, rfl, gr_T see_le e2, k _ _ _ _ p s1 ok1 (ItD.of (walk_zipX (by omega)) (by rw [pairs_len (by rw [chars_len]; exact hl), chars_len]; omega) (fun H' s => gr_T s e2) fun i H' v H'' hi y => ?_)⟩
    obtain ⟨T, u1, u2, rfl, nT, rfl, e1, e2⟩ := y
    obtain ⟨c, hc, rfl⟩ := Option.map_eq_some_iff.mp e1
    obtain ⟨z2, hz2, az2⟩ := bb.at e2
    exact ⟨_, pairs_at (chars_at hc) hz2, Or.inr ⟨T, _, _, _, _, rfl, nT, rfl, rfl, .str _, az2⟩⟩
theorem snd_iZTS (h : SndA K tA av) : SndI K (iZipS K tA) (iZTS av) := fun U σ δ H r P R ok rel h0 k => h U σ δ H r _ _ ok rel h0 fun ss r1 vs H1 h1 s1 ok1 a1 => by
  obtain ⟨ds, y, rfl, hl, p⟩ := h1
  obtain ⟨v, w, rfl, a, b⟩ := a1.two
  cases (show Dt K (U.see H1) w (.str y) from b)
  cases (show Dt K (U.see H1) v (.tup ds) from a) with
  | @tup q xs _ e aa =>
    have lx := aa.len
    refine ⟨q, y, xs, rfl, gr_T see_le e, k _ _ _ _ p s1 ok1 (ItD.of (walk_zipS (by omega)) (by rw [pairs_len (by rw [chars_len]; exact hl)]; omega) (fun H' s => gr_T s e) fun i H' v H'' hi yy => ?_)⟩
    obtain ⟨T, u1, u2, rfl, nT, rfl, e1, e2⟩ := yy
    obtain ⟨c, hc, rfl⟩ := Option.map_eq_some_iff.mp e2
    obtain ⟨z2, hz2, az2⟩ := aa.at e1
    exact ⟨_, pairs_at hz2 (chars_at hc), Or.inr ⟨T, _, _, _, _, rfl, nT, rfl, rfl, az2, .str _⟩⟩
theorem snd_iZSS (h : SndA K tA av) : SndI K (iZipSS tA) (iZSS av) := fun U σ δ H r P R ok rel h0 k => h U σ δ H r _ _ ok rel h0 fun ss r1 vs H1 h1 s1 ok1 a1 => by
  obtain ⟨x, y, rfl, hl, p⟩ := h1
  obtain ⟨v, w, rfl, a, b⟩ := a1.two
  cases (show Dt K (U.see H1) v (.str x) from a)
  cases (show Dt K (U.see H1) w (.str y) from b)
  refine ⟨x, y, rfl, k _ _ _ _ p s1 ok1 (ItD.of (yw_SS hl) (by rw [pairs_len (by rw [chars_len, chars_len]; exact hl), chars_len]) (fun _ _ => trivial) fun i H' v H'' hi yy => ?_)⟩
  obtain ⟨T, c1, c2, rfl, nT, rfl, e1, e2⟩ := yy
  exact ⟨_, pairs_at (chars_at e1) (chars_at e2), Or.inr ⟨T, _, _, _, _, rfl, nT, rfl, rfl, .str _, .str _⟩⟩
end
/-! ### what is stored to -/
def Off (ns : List Nat) (σ' σ : Sg) : Prop := σ'.length = σ.length ∧ ∀ i : Nat, i ∉ ns → σ'[i]? = σ[i]?
def OwnK (σ : Sg) (δ : SD) (σ' : Sg) (δ' : SD) : Prop := ∀ (i : Nat) (xs : List D), δ'[i]? = some (some (.own xs)) → δ[i]? = some (some (.own xs)) ∧ σ'[i]? = σ[i]?
def SndG (K : PySem.W.Frag) (g : TG) (gv : GV) (ns : List Nat) : Prop := ∀ (U : Vw) (σ : Sg) (δ : SD) (H : Hp) (r : Nat) (v : V) (d : D) (δ' : SD) (Q : Sg → Hp → Prop), Ok U H r → RelE K U H σ δ → Dt K (U.see H) v d → gv d δ = some δ' →
  (∀ σ', RelE K U H σ' δ' → Off ns σ' σ → OwnK σ δ σ' δ' → Q σ' H) → g v σ H Q
def SndGs (K : PySem.W.Frag) (g : TGs) (gv : List D → SD → Option SD) (ns : List Nat) : Prop := ∀ (U : Vw) (σ : Sg) (δ : SD) (H : Hp) (r : Nat) (vs : List V) (ds : List D) (δ' : SD) (Q : Sg → Hp → Prop), Ok U H r → RelE K U H σ δ → DtA K (U.see H) vs ds → gv ds δ = some δ' →
  (∀ σ', RelE K U H σ' δ' → Off ns σ' σ → OwnK σ δ σ' δ' → Q σ' H) → g vs σ H Q
def gvName (n : Nat) : GV := fun d δ => some (δ.set n (some (.d d)))
def gvNil : List D → SD → Option SD := fun ds δ => match ds with
  | [] => some δ
  | _ => none
def gvCons (g : GV) (gs : List D → SD → Option SD) : List D → SD → Option SD := fun ds δ => match ds with
  | d :: ds => (g d δ).bind (gs ds)
  | [] => none
def gvTup (n : Nat) (gs : List D → SD → Option SD) : GV := fun d δ => match d with
  | .tup ds => if ds.length = n then gs ds δ else none
  | _ => none
section
variable {K : PySem.W.Frag} {g : TG} {gs : TGs} {gv : GV} {gvs : List D → SD → Option SD} {ns ms : List Nat}
theorem Off.rf {σ : Sg} : Off ns σ σ := ⟨rfl, fun _ _ => rfl⟩
theorem Off.tr {σ σ1 σ2 : Sg} (a : Off ms σ2 σ1) (b : Off ns σ1 σ) : Off (ns ++ ms) σ2 σ := ⟨a.1.trans b.1, fun i h => by
  rw [a.2 i fun z => h (List.mem_append_right _ z), b.2 i fun z => h (List.mem_append_left _ z)]⟩
theorem OwnK.tr {σ σ1 σ2 : Sg} {δ δ1 δ2 : SD} (a : OwnK σ δ σ1 δ1) (b : OwnK σ1 δ1 σ2 δ2) : OwnK σ δ σ2 δ2 := fun i xs h => by
  obtain ⟨h1, e1⟩ := b i xs h
  obtain ⟨h2, e2⟩ := a i xs h1
  exact ⟨h2, e1.trans e2⟩
theorem own_set {σ : Sg} {δ : SD} {n : Nat} {v : V} {s : Sl} (hs : s.no = true) : OwnK σ δ (σ.set n (some v)) (δ.set n (some s)) := fun i xs h => by
  by_cases z : n = i
  · subst z
    rw [List.getElem?_set_self'] at h
    cases q : δ[n]? with
    | none => rw [q] at h; cases h
    | some x => rw [q] at h; cases h; cases hs
  · rw [List.getElem?_set_ne z] at h ⊢
    exact ⟨h, rfl⟩
theorem sndg_name {n : Nat} : SndG K (gName n) (gvName n) [n] := fun U σ δ H r v d δ' Q ok rel a e k => by
  cases e
  refine k _ (rel.set a) ⟨List.length_set .., fun i h => ?_⟩ (own_set rfl)
  rw [List.getElem?_set_ne (fun z => h (by rw [z]; exact List.mem_singleton_self _))]
theorem sndg_nil : SndGs K gNil gvNil [] := fun U σ δ H r vs ds δ' Q ok rel a e k => by
  cases a with
  | nil => cases e; exact ⟨rfl, k _ rel Off.rf fun i xs h => ⟨h, rfl⟩⟩
  | cons _ _ => cases e
theorem sndg_cons (h : SndG K g gv ns) (hs : SndGs K gs gvs ms) : SndGs K (gCons g gs) (gvCons gv gvs) (ns ++ ms) := fun U σ δ H r vs ds δ' Q ok rel a e k => by
  cases a with
  | nil => cases e
  | @cons v vs d ds a b =>
    obtain ⟨δ1, h1, h2⟩ := Option.bind_eq_some_iff.mp e
    exact ⟨v, vs, rfl, h U σ δ H r v d δ1 _ ok rel a h1 fun σ1 rel1 o1 w1 => hs U σ1 δ1 H r vs ds δ' _ ok rel1 b h2 fun σ2 rel2 o2 w2 => k σ2 rel2 (o2.tr o1) (w1.tr w2)⟩
theorem sndg_tup {n : Nat} (hs : SndGs K gs gvs ns) : SndG K (gTup K n gs) (gvTup n gvs) ns := fun U σ δ H r v d δ' Q ok rel a e k => by
  unfold gvTup at e
  split at e
  · rename_i ds
    split at e
    · rename_i l
      cases a with
      | @tup p xs _ et aa => exact ⟨p, xs, rfl, gr_T see_le et, by rw [aa.len]; exact l, hs U σ δ H r xs ds δ' Q ok rel aa e k⟩
    · cases e
  · cases e
end
def wipeD (δ : SD) : List Nat → SD
  | [] => δ
  | v :: vs => (wipeD δ vs).set v none
theorem RelE.wipe {K : PySem.W.Frag} {U : Vw} {H : Hp} {σ : Sg} {δ : SD} (h : RelE K U H σ δ) : ∀ vs : List Nat, RelE K U H (wipe σ vs) (wipeD δ vs)
  | [] => h
  | v :: vs => by
    have ih := RelE.wipe h vs
    refine ⟨by show ((L2.wipe σ vs).set v none).length = ((wipeD δ vs).set v none).length; rw [List.length_set, List.length_set]; exact ih.len, fun i s e => ?_⟩
    have e' : ((wipeD δ vs).set v none)[i]? = some (some s) := e
    show ∃ w, ((L2.wipe σ vs).set v none)[i]? = some (some w) ∧ _
    by_cases z : v = i
    · subst z
      rw [List.getElem?_set_self'] at e'
      cases q : (wipeD δ vs)[v]? with
      | none => rw [q] at e'; cases e'
      | some x => rw [q] at e'; cases e'
    · rw [List.getElem?_set_ne z] at e' ⊢
      exact ih.at' i s e'
theorem wipe_in {σ : Sg} {i : Nat} : ∀ {vs : List Nat}, i ∈ vs → (wipe σ vs)[i]? = (σ[i]?).map fun _ => none
  | v :: vs, h => by
    show ((wipe σ vs).set v none)[i]? = _
    by_cases z : v = i
    · subst z
      rw [List.getElem?_set_self']
      have l : (wipe σ vs).length = σ.length := wipe_length σ vs
      by_cases hv : v < σ.length
      · rw [List.getElem?_eq_getElem hv, List.getElem?_eq_getElem (by omega)]
        rfl
      · rw [List.getElem?_eq_none (by omega), List.getElem?_eq_none (by omega)]
        rfl
    · rw [List.getElem?_set_ne z]
      refine wipe_in ?_
      rcases List.mem_cons.mp h with q | q
      · exact absurd q.symm z
      · exact q
theorem wipe_off {ns vs : List Nat} {σ σ2 : Sg} (o : Off ns σ2 (wipe σ vs)) (h : ∀ i ∈ ns, i ∈ vs) : wipe σ2 vs = wipe σ vs := by
  refine List.ext_getElem? fun i => ?_
  by_cases z : i ∈ vs
  · rw [wipe_in z, wipe_in z]
    have l1 : σ2.length = σ.length := by rw [o.1, wipe_length]
    by_cases hv : i < σ.length
    · rw [List.getElem?_eq_getElem hv, List.getElem?_eq_getElem (by omega)]
      rfl
    · rw [List.getElem?_eq_none (by omega), List.getElem?_eq_none (by omega)]
  · rw [wipe_out z, o.2 i fun q => z (h i q)]
end TSx

/-! Own layer, part Y2: comprehensions over data. -/
namespace TSx
open PySem L2
def compD (g : GV) (t : TV) (e : EV) (δ0 : SD) : List D → List D → Nat → (D → Nat → Prop) → Prop
  | [], acc, r, P => P (.lst acc) r
  | x :: xs, acc, r, P => ∃ δ', g x δ0 = some δ' ∧ t δ' r fun b r1 => cond b (e δ' r1 fun y r2 => acc.length < 100000 ∧ compD g t e δ0 xs (acc ++ [y]) r2 P) (compD g t e δ0 xs acc r1 P)
def eLc (i : IV) (g : GV) (t : TV) (e : EV) (vs : List Nat) : EV := fun δ r P => i δ r fun ds r1 => compD g t e (wipeD δ vs) ds [] r1 P
def compD2 (g : GV) (t : TV) (i1 : IV) (g1 : GV) (t1 : TV) (e : EV) (vs1 : List Nat) (δ0 : SD) : List D → List D → Nat → (D → Nat → Prop) → Prop
  | [], acc, r, P => P (.lst acc) r
  | x :: xs, acc, r, P => ∃ δ', g x δ0 = some δ' ∧ t δ' r fun b r1 => cond b (i1 δ' r1 fun ds r2 => compD g1 t1 e (wipeD δ' vs1) ds acc r2 fun d r3 => ∃ acc', d = .lst acc' ∧ compD2 g t i1 g1 t1 e vs1 δ0 xs acc' r3 P) (compD2 g t i1 g1 t1 e vs1 δ0 xs acc r1 P)
def eLc2 (i : IV) (g : GV) (t : TV) (i1 : IV) (g1 : GV) (t1 : TV) (e : EV) (vs vs1 : List Nat) : EV := fun δ r P => i δ r fun ds r1 => compD2 g t i1 g1 t1 e vs1 (wipeD δ vs) ds [] r1 P
/-- all but what may change, and L, stays -/
def StepL (U : Vw) (L : Addr) (H H' : Hp) : Prop := ∀ b o, ¬ U.mut b → b ≠ L → H b = some o → H' b = some o
/-- L is hidden, and none of the drawn state's -/
structure Apt (U : Vw) (L : Addr) : Prop where
  z : U.Z L = true
  n : ¬ U.mut L
  c : ∀ m c g, U.mm = some (m, c, g) → c ≠ L
def NoL (L : Addr) (σ : Sg) (δ : SD) : Prop := ∀ (i : Nat) (xs : List D), δ[i]? = some (some (.own xs)) → σ[i]? ≠ some (some (.ref L))
section
variable {K : PySem.W.Frag} {U : Vw} {L : Addr} {H H' H1 : Hp} {r : Nat} {σ : Sg} {δ : SD}
theorem StepL.tr {H2 : Hp} (a : StepL U L H H1) (b : StepL U L H1 H2) : StepL U L H H2 := fun x o n e h => b x o n e (a x o n e h)
theorem StepL.of (s : Step U H H') : StepL U L H H' := fun b o n _ e => s b o n e
theorem StepL.see (s : StepL U L H H') (ok : Ok U H r) (a : Apt U L) : Same (U.see H) (U.see H') := fun b o e => by
  obtain ⟨z, e⟩ := see_of e
  rw [see_at z]
  exact s b o (fun m => by rw [ok.mutZ m] at z; cases z) (fun q => by rw [q, a.z] at z; cases z) e
theorem RelE.stepL (h : RelE K U H σ δ) (ok : Ok U H r) (a : Apt U L) (n : NoL L σ δ) (s : StepL U L H H') : RelE K U H' σ δ := ⟨h.len, fun i x e => by
  obtain ⟨v, e1, w⟩ := h.at' i x e
  refine ⟨v, e1, ?_⟩
  have ss := s.see ok a
  match x, w with
  | .d x, w => exact Dt.gr ss w
  | .own xs, w =>
    obtain ⟨p, vs, rfl, z, m, hp, aa⟩ := w
    exact ⟨p, vs, rfl, z, m, s p _ m (fun q => n i xs e (by rw [e1, q])) hp, aa.gr ss⟩
  | .memo, w => exact w
  | .scr ns, w =>
    obtain ⟨b, e2, q⟩ := w
    exact ⟨b, e2, gr_L ss q⟩⟩
theorem Ok.upd (ok : Ok U H r) (a : Apt U L) {o : HO} : Ok U (upd H L o) r := ⟨fun b z => by
  by_cases q : b = L
  · rw [q, upd_same]; simp
  · rw [upd_ne q]; exact ok.dom b z, fun m c g e => by
  obtain ⟨a1, a2, a3, M⟩ := ok.memo m c g e
  refine ⟨a1, a2, a3, ?_⟩
  have n1 : m ≠ L := fun q => a.n ⟨m, c, g, e, Or.inl q.symm⟩
  have n2 : c ≠ L := a.c m c g e
  have n3 : g ≠ L := fun q => a.n ⟨m, c, g, e, Or.inr q.symm⟩
  obtain ⟨⟨n, cs, gs, h1, h2, h3, h4⟩, ne⟩ := M
  exact ⟨⟨n, cs, gs, by rw [upd_ne n1]; exact h1, by rw [upd_ne n2]; exact h2, by rw [upd_ne n3]; exact h3, h4⟩, ne⟩⟩
theorem YD.up {G G' : Hp} {x : V} {d : D} (s : Same G G') (y : YD K G H x H' d) : YD K G' H x H' d := by
  rcases y with ⟨e, a⟩ | ⟨T, v1, v2, d1, d2, e, nT, e2, e3, a, b⟩
  · exact Or.inl ⟨e, a.gr s⟩
  · exact Or.inr ⟨T, v1, v2, d1, d2, e, nT, e2, e3, a.gr s, b.gr s⟩
theorem ItD.up {G G' : Hp} {J : It} {ds : List D} (it : ItD K G J ds) (s : Same G G') : ItD K G' J ds := ⟨fun i H hi z => it.go i H hi (Gr.tr s z), fun H z => it.stop H (Gr.tr s z), fun i H x H' hi z y => by
  obtain ⟨d, hd, yd⟩ := it.yld i H x H' hi (Gr.tr s z) y
  exact ⟨d, hd, yd.up s⟩⟩
/-- one clause's loop: from the list acc at L to what P is told of -/
theorem comp_core {g : TG} {gv : GV} {ns vs : List Nat} {tt : TT} {tv : TV} {te : TE} {ev : EV} {J : It} {ds : List D} (hg : SndG K g gv ns) (hns : ∀ i ∈ ns, i ∈ vs) (ht : SndT K tt tv) (he : SndE K te ev)
    (a : Apt U L) (ok : Ok U H1 r) (it : ItD K (U.see H1) J ds) (rel : RelE K U H1 σ δ) (nL : NoL L (wipe σ vs) (wipeD δ vs)) {acc : List V} {accD : List D} (hL : H1 L = some (.lst acc)) (aa : DtA K (U.see H1) acc accD) {P : D → Nat → Prop}
    (h : compD gv tv ev (wipeD δ vs) ds accD r P) {Qd : Hp → Prop}
    (hd : ∀ H' r' acc' accD', P (.lst accD') r' → StepL U L H1 H' → Ok U H' r' → H' L = some (.lst acc') → DtA K (U.see H') acc' accD' → Qd H') :
    ∃ W : Nat → Nat → Hp → Prop, (∃ m, W 0 m H1) ∧ ∀ i m H, W i m H →
      (J.stop i H ∧ Qd H) ∨ (J.go i H ∧ ∃ Nx : Hp → Prop, (∀ H', Nx H' → ∃ m', m' < m ∧ W (i + 1) m' H') ∧ ∀ x H', J.yld i H x H' → g x (wipe σ vs) H' fun σ2 H2 => wipe σ2 vs = wipe σ vs ∧ tt σ2 H2 fun b H3 =>
        if b = true then te σ2 H3 fun y H4 => ∃ acc, H4 L = some (.lst acc) ∧ acc.length < sizeLine ∧ Nx (upd H4 L (.lst (acc ++ [y]))) else Nx H3) := by
  refine ⟨fun i m H' => m = ds.length - i ∧ i ≤ ds.length ∧ ∃ r' acc accD, StepL U L H1 H' ∧ Ok U H' r' ∧ H' L = some (.lst acc) ∧ DtA K (U.see H') acc accD ∧ compD gv tv ev (wipeD δ vs) (ds.drop i) accD r' P,
    ⟨ds.length, by omega, Nat.zero_le _, r, acc, accD, fun _ _ _ _ e => e, ok, hL, aa, h⟩, ?_⟩
  rintro i m H' ⟨rfl, hi, r', acc, accD, st, ok', hL', aa', hc⟩
  have sm : Same (U.see H1) (U.see H') := st.see ok a
  have sm' : Same (U.see H1) H' := Gr.tr sm see_le
  by_cases hlt : i < ds.length
  · refine Or.inr ⟨it.go i H' hlt sm', fun H3 => (fun m H' => m = ds.length - (i + 1) ∧ (i + 1) ≤ ds.length ∧ ∃ r' acc accD, StepL U L H1 H' ∧ Ok U H' r' ∧ H' L = some (.lst acc) ∧ DtA K (U.see H') acc accD ∧ compD gv tv ev (wipeD δ vs) (ds.drop (i + 1)) accD r' P) (ds.length - (i + 1)) H3, fun H3 h3 => ⟨ds.length - (i + 1), by omega, h3⟩, fun x H'' y => ?_⟩
    obtain ⟨d, hd', y⟩ := it.yld i H' x H'' hlt sm' y
    obtain ⟨s2, ax⟩ := y.use ok' sm
    have ok2 := ok'.same s2
    have rel2 : RelE K U H'' (wipe σ vs) (wipeD δ vs) := (rel.wipe vs).stepL ok a nL (st.tr (StepL.of (Step.of s2)))
    have dr : ds.drop i = d :: ds.drop (i + 1) := by
      rw [List.drop_eq_getElem_cons hlt]
      rw [List.getElem?_eq_getElem hlt] at hd'
      cases hd'
      rfl
    rw [dr] at hc
    obtain ⟨δ', hg', hc⟩ := hc
    refine hg U _ _ H'' r' x d δ' _ ok2 rel2 ax hg' fun σ2 rel3 off ow => ⟨wipe_off off hns, ?_⟩
    refine ht U σ2 δ' H'' r' _ _ ok2 rel3 hc fun b r1 H3 h3 st3 ok3 => ?_
    have nm : ¬ U.mut L := a.n
    have hL3 : H3 L = some (.lst acc) := st3 L _ nm (s2 _ _ hL')
    have aa3 := (aa'.gr (see_same s2)).gr (st3.see ok2)
    have stA : StepL U L H1 H3 := (st.tr (StepL.of (Step.of s2))).tr (StepL.of st3)
    cases b with
    | false => exact iteF ⟨rfl, by omega, r1, acc, accD, stA, ok3, hL3, aa3, h3⟩
    | true =>
      refine iteT ?_
      refine he U σ2 δ' H3 r1 _ _ ok3 (rel3.step ok2 st3) h3 fun y r2 v H4 h4 st4 ok4 av => ?_
      obtain ⟨l4, h4⟩ := h4
      refine ⟨acc, st4 L _ nm hL3, sz2 (by rw [aa'.len]; exact l4), rfl, by omega, r2, acc ++ [v], accD ++ [y], ?_, ok4.upd a, upd_same, ?_, h4⟩
      · exact (stA.tr (StepL.of st4)).tr fun b o _ n e => by rw [upd_ne n]; exact e
      · rw [see_hid a.z]
        exact (aa3.gr (st4.see ok3)).app (.cons av .nil)
  · have e : i = ds.length := by omega
    subst e
    rw [List.drop_length] at hc
    exact Or.inl ⟨it.stop H' sm', hd H' r' acc accD hc st ok' hL' aa'⟩
/-- the view with one more hidden -/
def Vw.hide (U : Vw) (L : Addr) : Vw := ⟨fun b => U.Z b || decide (b = L), U.mm⟩
theorem hide_L : (U.hide L).Z L = true := by simp [Vw.hide]
theorem hide_of {b : Addr} (h : U.Z b = true) : (U.hide L).Z b = true := by simp [Vw.hide, h]
theorem hide_ne {b : Addr} (h : U.Z b = false) (n : b ≠ L) : (U.hide L).Z b = false := by simp [Vw.hide, h, n]
theorem hide_mut {b : Addr} : (U.hide L).mut b ↔ U.mut b := Iff.rfl
theorem hide_no {b : Addr} (h : (U.hide L).Z b = false) : U.Z b = false := by
  cases e : U.Z b with
  | false => rfl
  | true => rw [hide_of e] at h; cases h
/-- a new thing at L, hidden -/
theorem hide_new (ok : Ok U H r) (n : H L = none) {o : HO} : Ok (U.hide L) (upd H L o) r ∧ Apt (U.hide L) L ∧ Same (U.see H) ((U.hide L).see (upd H L o)) := by
  have zL := ok.apart n
  have nm : ¬ U.mut L := fun m => by rw [ok.mutZ m] at zL; cases zL
  have nc : ∀ m c g, U.mm = some (m, c, g) → c ≠ L := fun m c g e q => by
    obtain ⟨_, a2, _, _⟩ := ok.memo m c g e
    rw [q, zL] at a2
    cases a2
  refine ⟨⟨fun b z => ?_, fun m c g e => ?_⟩, ⟨hide_L, nm, nc⟩, fun b o e => ?_⟩
  · by_cases q : b = L
    · rw [q, upd_same]; simp
    · rw [upd_ne q]
      refine ok.dom b ?_
      simpa [Vw.hide, q] using z
  · obtain ⟨a1, a2, a3, M⟩ := ok.memo m c g e
    exact ⟨hide_of a1, hide_of a2, hide_of a3, M.same (same_new n)⟩
  · obtain ⟨z, e⟩ := see_of e
    have q : b ≠ L := ne_of_none e n
    rw [see_at (hide_ne z q), upd_ne q]
    exact e
theorem hide_back {H' : Hp} {r' : Nat} (ok1 : Ok U H r) (n : H L = none) (s : StepL (U.hide L) L H H') (ok : Ok (U.hide L) H' r') : Step U H H' ∧ Ok U H' r' ∧ Same ((U.hide L).see H') (U.see H') := by
  refine ⟨fun b o m e => s b o m (ne_of_none e n) e, ⟨fun b z => ok.dom b (hide_of z), fun m c g e => ?_⟩, fun b o e => ?_⟩
  · obtain ⟨a1, a2, a3, _⟩ := ok1.memo m c g e
    obtain ⟨_, _, _, M⟩ := ok.memo m c g e
    exact ⟨a1, a2, a3, M⟩
  · obtain ⟨z, e⟩ := see_of e
    rw [see_at (hide_no z)]
    exact e
theorem hide_wid (ok : Ok U H r) (n : H L = none) {o : HO} : Wid U H (U.hide L) (upd H L o) := ⟨(hide_new ok n).2.2, fun _ z => hide_of z, rfl, Step.of (same_new n)⟩
theorem noL_new (rel : RelE K U H σ δ) (n : H L = none) (ok : Ok U H r) (vs : List Nat) : NoL L (wipe σ vs) (wipeD δ vs) := fun i xs e q => by
  obtain ⟨v, e1, p, ws, rfl, z, _, _, _⟩ := (rel.wipe vs).at' i _ e
  rw [e1] at q
  cases q
  rw [ok.apart n] at z
  cases z
theorem snd_lc {wi : TI} {iv : IV} {g : TG} {gv : GV} {ns vs : List Nat} {tt : TT} {tv : TV} {te : TE} {ev : EV} (hi : SndI K wi iv) (hg : SndG K g gv ns) (ht : SndT K tt tv) (he : SndE K te ev) (hns : ∀ i ∈ ns, i ∈ vs) : SndE K (tLc wi g tt te vs) (eLc iv gv tv ev vs) := fun U σ δ H r P Q ok rel h k =>
  hi U σ δ H r _ _ ok rel h fun ds r1 J H1 h1 s1 ok1 it L nL => by
    obtain ⟨okh, apt, sm⟩ := hide_new (o := .lst []) ok1 nL
    refine comp_core (U := U.hide L) (r := r1) hg hns ht he apt okh (it.up sm) ((rel.step ok s1).wid (hide_wid ok1 nL)) (noL_new (rel.step ok s1) nL ok1 vs) (upd_same) .nil h1 ?_
    intro H' r' acc' accD' p st ok' hL' aa'
    have st2 : StepL (U.hide L) L H1 H' := StepL.tr (fun b o _ n e => by rw [upd_ne n]; exact e) st
    obtain ⟨q1, q2, q3⟩ := hide_back ok1 nL st2 ok'
    exact k _ _ _ _ p (s1.tr q1) q2 (.lst (by rw [see_at (ok1.apart nL)]; exact hL') (aa'.gr q3))
theorem snd_lc2 {wi wi1 : TI} {iv iv1 : IV} {g g1 : TG} {gv gv1 : GV} {ns ns1 vs vs1 : List Nat} {tt tt1 : TT} {tv tv1 : TV} {te : TE} {ev : EV} (hi : SndI K wi iv) (hg : SndG K g gv ns) (ht : SndT K tt tv) (hi1 : SndI K wi1 iv1) (hg1 : SndG K g1 gv1 ns1) (ht1 : SndT K tt1 tv1) (he : SndE K te ev) (hns : ∀ i ∈ ns, i ∈ vs) (hns1 : ∀ i ∈ ns1, i ∈ vs1) :
    SndE K (tLc2 wi g tt wi1 g1 tt1 te vs vs1) (eLc2 iv gv tv iv1 gv1 tv1 ev vs vs1) := fun U σ δ H r P Q ok rel h k =>
  hi U σ δ H r _ _ ok rel h fun ds r1 J H1 h1 s1 ok1 it L nL => by
    obtain ⟨okh, apt, sm⟩ := hide_new (o := .lst []) ok1 nL
    have itu := it.up sm
    have relh := (rel.step ok s1).wid (hide_wid (o := .lst []) ok1 nL)
    have nLh := noL_new (rel.step ok s1) nL ok1 vs
    refine ⟨fun i m H' => m = ds.length - i ∧ i ≤ ds.length ∧ ∃ r' acc accD, StepL (U.hide L) L (upd H1 L (.lst [])) H' ∧ Ok (U.hide L) H' r' ∧ H' L = some (.lst acc) ∧ DtA K ((U.hide L).see H') acc accD ∧ compD2 gv tv iv1 gv1 tv1 ev vs1 (wipeD δ vs) (ds.drop i) accD r' P,
      ⟨ds.length, by omega, Nat.zero_le _, r1, [], [], fun _ _ _ _ e => e, okh, upd_same, .nil, h1⟩, ?_⟩
    rintro i m H' ⟨rfl, hil, r', acc, accD, st, ok', hL', aa', hc⟩
    have sm1 : Same ((U.hide L).see (upd H1 L (.lst []))) ((U.hide L).see H') := st.see okh apt
    have sm' : Same ((U.hide L).see (upd H1 L (.lst []))) H' := Gr.tr sm1 see_le
    by_cases hlt : i < ds.length
    · refine Or.inr ⟨itu.go i H' hlt sm', fun H3 => (fun m H' => m = ds.length - (i + 1) ∧ (i + 1) ≤ ds.length ∧ ∃ r' acc accD, StepL (U.hide L) L (upd H1 L (.lst [])) H' ∧ Ok (U.hide L) H' r' ∧ H' L = some (.lst acc) ∧ DtA K ((U.hide L).see H') acc accD ∧ compD2 gv tv iv1 gv1 tv1 ev vs1 (wipeD δ vs) (ds.drop (i + 1)) accD r' P) (ds.length - (i + 1)) H3, fun H3 h3 => ⟨ds.length - (i + 1), by omega, h3⟩, fun x H'' y => ?_⟩
      obtain ⟨d, hd', y⟩ := itu.yld i H' x H'' hlt sm' y
      obtain ⟨s2, ax⟩ := y.use ok' sm1
      have ok2 := ok'.same s2
      have rel2 := (relh.wipe vs).stepL okh apt nLh (st.tr (StepL.of (Step.of s2)))
      have dr : ds.drop i = d :: ds.drop (i + 1) := by
        rw [List.drop_eq_getElem_cons hlt]
        rw [List.getElem?_eq_getElem hlt] at hd'
        cases hd'
        rfl
      rw [dr] at hc
      obtain ⟨δ', hg', hc⟩ := hc
      refine hg _ _ _ H'' r' x d δ' _ ok2 rel2 ax hg' fun σ2 rel3 off ow => ⟨wipe_off off hns, ?_⟩
      refine ht _ σ2 δ' H'' r' _ _ ok2 rel3 hc fun b r1 H3 h3 st3 ok3 => ?_
      have nm : ¬ (U.hide L).mut L := apt.n
      have hL3 : H3 L = some (.lst acc) := st3 L _ nm (s2 _ _ hL')
      have aa3 := (aa'.gr (see_same s2)).gr (st3.see ok2)
      have stA : StepL (U.hide L) L (upd H1 L (.lst [])) H3 := (st.tr (StepL.of (Step.of s2))).tr (StepL.of st3)
      cases b with
      | false => exact iteF ⟨rfl, by omega, r1, acc, accD, stA, ok3, hL3, aa3, h3⟩
      | true =>
        refine iteT ?_
        have rel4 := rel3.step ok2 st3
        have nL2 : NoL L σ2 δ' := fun j xs e => by
          obtain ⟨e0, e1⟩ := ow j xs e
          rw [e1]
          exact nLh j xs e0
        refine hi1 _ σ2 δ' H3 r1 _ _ ok3 rel4 h3 fun ds1 r2 J1 H4 h4 st4 ok4 it1 => ?_
        have nL3 : NoL L (wipe σ2 vs1) (wipeD δ' vs1) := fun j xs e q => by
          have e1 := (wipe_some q)
          have wd : ∀ vs : List Nat, (wipeD δ' vs)[j]? = some (some (.own xs)) → δ'[j]? = some (some (.own xs)) := by
            intro vs
            induction vs with
            | nil => exact id
            | cons v vs ih =>
              intro e
              have e' : ((wipeD δ' vs).set v none)[j]? = some (some (.own xs)) := e
              by_cases z : v = j
              · subst z
                rw [List.getElem?_set_self'] at e'
                cases q : (wipeD δ' vs)[v]? with
                | none => rw [q] at e'; cases e'
                | some x => rw [q] at e'; cases e'
              · rw [List.getElem?_set_ne z] at e'
                exact ih e'
          exact nL2 j xs (wd vs1 e) e1.1
        refine comp_core (U := U.hide L) (r := r2) hg1 hns1 ht1 he apt ok4 it1 (rel4.step ok3 st4) nL3 (st4 L _ nm hL3) (aa3.gr (st4.see ok3)) h4 ?_
        intro H5 r5 acc5 accD5 p5 st5 ok5 hL5 aa5
        obtain ⟨acc6, e6, p6⟩ := p5
        cases e6
        exact ⟨rfl, by omega, r5, acc5, accD5, (stA.tr (StepL.of st4)).tr st5, ok5, hL5, aa5, p6⟩
    · have e : i = ds.length := by omega
      subst e
      rw [List.drop_length] at hc
      have st2 : StepL (U.hide L) L H1 H' := StepL.tr (fun b o _ n e => by rw [upd_ne n]; exact e) st
      obtain ⟨q1, q2, q3⟩ := hide_back ok1 nL st2 ok'
      exact Or.inl ⟨itu.stop H' sm', k _ _ _ _ hc (s1.tr q1) q2 (.lst (by rw [see_at (ok1.apart nL)]; exact hL') (aa'.gr q3))⟩
end
end TSx

/-! Own layer, part Y3: statements over data. -/
namespace TSx
open PySem L2
structure EndsD where
  nx : SD → Nat → Prop
  rt : D → Nat → Prop
  bk : SD → Nat → Prop := fun _ _ => False
  ct : SD → Nat → Prop := fun _ _ => False
abbrev SV := EndsD → SD → Nat → Prop
/-- from the entry (U0, H0) on -/
structure InvS (K : PySem.W.Frag) (U0 : Vw) (H0 : Hp) (U : Vw) (H : Hp) (r : Nat) (σ : Sg) (δ : SD) : Prop where
  ok : Ok U H r
  rel : RelE K U H σ δ
  st : Step U0 H0 H
  mm : U.mm = U0.mm
  z1 : ∀ b, U0.Z b = true → U.Z b = true
  z2 : ∀ b, U.Z b = true → U0.Z b = true ∨ H0 b = none
  d0 : ∀ b, U0.Z b = true → H0 b ≠ none
  m0 : ∀ m c g, U0.mm = some (m, c, g) → U0.Z m = true ∧ U0.Z c = true ∧ U0.Z g = true
  own : ∀ (i : Nat) (xs : List D) (p : Addr), δ[i]? = some (some (.own xs)) → σ[i]? = some (some (.ref p)) → H0 p = none
  dis : ∀ (i j : Nat) (xs ys : List D) (p : Addr), i ≠ j → δ[i]? = some (some (.own xs)) → δ[j]? = some (some (.own ys)) → σ[i]? = some (some (.ref p)) → σ[j]? ≠ some (some (.ref p))
structure EndR (K : PySem.W.Frag) (U0 : Vw) (H0 : Hp) (ED : EndsD) (E : Ends) : Prop where
  nx : ∀ U σ δ H r, InvS K U0 H0 U H r σ δ → ED.nx δ r → E.nx σ H
  bk : ∀ U σ δ H r, InvS K U0 H0 U H r σ δ → ED.bk δ r → E.bk σ H
  ct : ∀ U σ δ H r, InvS K U0 H0 U H r σ δ → ED.ct δ r → E.ct σ H
  rt : ∀ H r v d, Step U0 H0 H → Ok U0 H r → Dt K (U0.see H) v d → ED.rt d r → E.rt v H
def SndS (K : PySem.W.Frag) (ts : TS) (sv : SV) : Prop := ∀ (U0 : Vw) (H0 : Hp) (U : Vw) (σ : Sg) (δ : SD) (H : Hp) (r : Nat) (E : Ends) (ED : EndsD), InvS K U0 H0 U H r σ δ → EndR K U0 H0 ED E → sv ED δ r → ts E σ H
def sSeq (a b : SV) : SV := fun E => a { E with nx := b E }
def sNext : SV := fun E δ r => E.nx δ r
def sBrk : SV := fun E δ r => E.bk δ r
def sCnt : SV := fun E δ r => E.ct δ r
def sAsg (e : EV) (g : GV) : SV := fun E δ r => e δ r fun d r1 => ∃ δ', g d δ = some δ' ∧ E.nx δ' r1
def sRet (e : EV) : SV := fun E δ r => e δ r E.rt
def sRetN : SV := fun E _ r => E.rt .non r
def sDrop (e : EV) : SV := fun E δ r => e δ r fun _ r1 => E.nx δ r1
def sIf (t : TV) (a b : SV) : SV := fun E δ r => t δ r fun c r1 => cond c (a E δ r1) (b E δ r1)
def sNever : SV := fun _ _ _ => False
def forD (g : GV) (b : SV) (E : EndsD) : List D → SD → Nat → Prop
  | [], δ, r => E.nx δ r
  | x :: xs, δ, r => ∃ δ', g x δ = some δ' ∧ b { E with nx := fun δ r => forD g b E xs δ r, ct := fun δ r => forD g b E xs δ r, bk := E.nx } δ' r
def sFor (i : IV) (g : GV) (b : SV) : SV := fun E δ r => i δ r fun ds r1 => forD g b E ds δ r1
/-- x = [], x the def's own -/
def sNew (n : Nat) : SV := fun E δ r => E.nx (δ.set n (some (.own []))) r
def sApp (n : Nat) (e : EV) : SV := fun E δ r => ∃ xs, δ[n]? = some (some (.own xs)) ∧ e δ r fun d r1 => xs.length < 100000 ∧ E.nx (δ.set n (some (.own (xs ++ [d])))) r1
/-- the own list in slot n is one's own no more -/
def sFrz (n : Nat) (s : SV) : SV := fun E δ r => match δ[n]? with
  | some (some (.own xs)) => s E (δ.set n (some (.d (.lst xs)))) r
  | _ => s E δ r
def sPar (i j : Nat) (a : AV) : SV := fun E δ r => a δ r fun ss r1 => ∃ s t, ss = [s, t] ∧ E.nx ((δ.set i (some s)).set j (some t)) r1
def sAugD (i : Nat) (op : D → D → Option D) (e : EV) : SV := fun E δ r => ∃ x, δ[i]? = some (some (.d x)) ∧ e δ r fun y r1 => ∃ z, op x y = some z ∧ E.nx (δ.set i (some (.d z))) r1
section
variable {K : PySem.W.Frag} {U0 U : Vw} {H0 H H' : Hp} {r r' : Nat} {σ σ' : Sg} {δ δ' : SD} {te : TE} {ee : EV} {ta tb : TS} {sa sb : SV} {E : Ends} {ED : EndsD}
theorem InvS.step (I : InvS K U0 H0 U H r σ δ) (s : Step U H H') (ok : Ok U H' r') : InvS K U0 H0 U H' r' σ δ :=
  { ok := ok, rel := I.rel.step I.ok s, st := I.st.tr fun b o n e => s b o (fun m => n (by obtain ⟨m, c, g, e, q⟩ := m; exact ⟨m, c, g, by rw [← I.mm]; exact e, q⟩)) e, mm := I.mm, z1 := I.z1, z2 := I.z2, d0 := I.d0, m0 := I.m0, own := I.own, dis := I.dis }
theorem InvS.to (I : InvS K U0 H0 U H r σ δ) (rel : RelE K U H σ' δ') (ow : OwnK σ δ σ' δ') : InvS K U0 H0 U H r σ' δ' :=
  ⟨I.ok, rel, I.st, I.mm, I.z1, I.z2, I.d0, I.m0, fun i xs p e q => by
      obtain ⟨e1, e2⟩ := ow i xs e
      rw [e2] at q
      exact I.own i xs p e1 q, fun i j xs ys p n e e' q => by
      obtain ⟨e1, e2⟩ := ow i xs e
      obtain ⟨e3, e4⟩ := ow j ys e'
      rw [e2] at q
      rw [e4]
      exact I.dis i j xs ys p n e1 e3 q⟩
theorem sett {α : Type} {l : List (Option α)} {n i : Nat} {a b : α} (h : (l.set n (some a))[i]? = some (some b)) : (i = n ∧ b = a) ∨ (i ≠ n ∧ l[i]? = some (some b)) := by
  by_cases z : n = i
  · subst z
    have l1 : n < l.length := by
      have := (List.getElem?_eq_some_iff.mp h).1
      rwa [List.length_set] at this
    rw [List.getElem?_set_self l1] at h
    cases h
    exact Or.inl ⟨rfl, rfl⟩
  · rw [List.getElem?_set_ne z] at h
    exact Or.inr ⟨fun q => z q.symm, h⟩
theorem InvS.mut (I : InvS K U0 H0 U H r σ δ) {b : Addr} : U.mut b ↔ U0.mut b := by
  unfold Vw.mut
  rw [I.mm]
theorem InvS.back (I : InvS K U0 H0 U H r σ δ) : Ok U0 H r ∧ Same (U.see H) (U0.see H) := by
  refine ⟨⟨fun b z => I.ok.dom b (I.z1 b z), fun m c g e => ?_⟩, fun b o e => ?_⟩
  · obtain ⟨a1, a2, a3⟩ := I.m0 m c g e
    obtain ⟨_, _, _, M⟩ := I.ok.memo m c g (by rw [I.mm]; exact e)
    exact ⟨a1, a2, a3, M⟩
  · obtain ⟨z, e⟩ := see_of e
    rw [see_at]
    · exact e
    · cases q : U0.Z b with
      | false => rfl
      | true => rw [I.z1 b q] at z; cases z
theorem EndR.nxOf {f : SD → Nat → Prop} {g : Sg → Hp → Prop} (R : EndR K U0 H0 ED E) (h : ∀ U σ δ H r, InvS K U0 H0 U H r σ δ → f δ r → g σ H) : EndR K U0 H0 { ED with nx := f } { E with nx := g } := ⟨h, R.bk, R.ct, R.rt⟩
theorem snd_next : SndS K tNext sNext := fun U0 H0 U σ δ H r E ED I R h => R.nx _ _ _ _ _ I h
theorem snd_brk : SndS K tBreak sBrk := fun U0 H0 U σ δ H r E ED I R h => R.bk _ _ _ _ _ I h
theorem snd_cnt : SndS K tCont sCnt := fun U0 H0 U σ δ H r E ED I R h => R.ct _ _ _ _ _ I h
theorem snd_never : SndS K tNever sNever := fun U0 H0 U σ δ H r E ED I R h => h
theorem snd_seq (ha : SndS K ta sa) (hb : SndS K tb sb) : SndS K (tSeq ta tb) (sSeq sa sb) := fun U0 H0 U σ δ H r E ED I R h =>
  ha U0 H0 U σ δ H r _ _ I (R.nxOf fun U σ δ H r I h => hb U0 H0 U σ δ H r E ED I R h) h
theorem snd_asg {g : TG} {gv : GV} {ns : List Nat} (he : SndE K te ee) (hg : SndG K g gv ns) : SndS K (tAsg te g) (sAsg ee gv) := fun U0 H0 U σ δ H r E ED I R h =>
  he U σ δ H r _ _ I.ok I.rel h fun d r1 v H1 h1 s1 ok1 a1 => by
    obtain ⟨δ', e, h1⟩ := h1
    have I1 := I.step s1 ok1
    exact hg U σ δ H1 r1 v d δ' _ ok1 I1.rel a1 e fun σ' rel' off ow => R.nx _ _ _ _ _ (I1.to rel' ow) h1
theorem snd_ret (he : SndE K te ee) : SndS K (tRet te) (sRet ee) := fun U0 H0 U σ δ H r E ED I R h =>
  he U σ δ H r _ _ I.ok I.rel h fun d r1 v H1 h1 s1 ok1 a1 => by
    have I1 := I.step s1 ok1
    exact R.rt _ _ _ _ I1.st I1.back.1 (a1.gr I1.back.2) h1
theorem snd_retN : SndS K tRetN sRetN := fun U0 H0 U σ δ H r E ED I R h => R.rt _ _ _ _ I.st I.back.1 .non h
theorem snd_drop (he : SndE K te ee) : SndS K (tDrop te) (sDrop ee) := fun U0 H0 U σ δ H r E ED I R h =>
  he U σ δ H r _ _ I.ok I.rel h fun d r1 v H1 h1 s1 ok1 a1 => R.nx _ _ _ _ _ (I.step s1 ok1) h1
theorem snd_ifS {t : TT} {tv : TV} (ht : SndT K t tv) (ha : SndS K ta sa) (hb : SndS K tb sb) : SndS K (tIfS t ta tb) (sIf tv sa sb) := fun U0 H0 U σ δ H r E ED I R h =>
  ht U σ δ H r _ _ I.ok I.rel h fun c r1 H1 h1 s1 ok1 => by
    have I1 := I.step s1 ok1
    cases c with
    | true => exact iteT (ha U0 H0 U σ δ H1 r1 E ED I1 R h1)
    | false => exact iteF (hb U0 H0 U σ δ H1 r1 E ED I1 R h1)
theorem snd_new {n : Nat} : SndS K (tAsg (tLst tNil) (gName n)) (sNew n) := fun U0 H0 U σ δ H r E ED I R h => by
  refine ⟨Nat.zero_le _, fun p np => ?_⟩
  have I1 := I.step (Step.of (same_new (o := .lst []) np)) (I.ok.same (same_new np))
  have np0 : H0 p = none := by
    cases e : H0 p with
    | none => rfl
    | some o =>
      by_cases m : U0.mut p
      · exact absurd np (I.ok.dom p (I.z1 p (by
          obtain ⟨m', c, g, e, q⟩ := m
          obtain ⟨a1, a2, a3⟩ := I.m0 m' c g e
          rcases q with rfl | rfl
          · exact a1
          · exact a3)))
      · rw [I.st p o m e] at np; cases np
  obtain ⟨okh, apt, sm⟩ := hide_new (o := .lst []) I.ok np
  have relh := I.rel.wid (hide_wid (o := .lst []) I.ok np)
  refine R.nx (U.hide p) _ _ _ r ?_ h
  have old : ∀ (i : Nat) (xs : List D), δ[i]? = some (some (.own xs)) → σ[i]? ≠ some (some (.ref p)) := fun i xs e q => by
    obtain ⟨v, e1, p', ws, rfl, z, _, _, _⟩ := I.rel.at' i _ e
    rw [e1] at q
    cases q
    rw [I.ok.apart np] at z
    cases z
  refine ⟨okh, relh.set (s := .own []) ⟨p, [], rfl, apt.z, apt.n, upd_same, .nil⟩, I1.st, I.mm, fun b z => hide_of (I.z1 b z), fun b z => ?_, I.d0, I.m0, fun i xs q e e2 => ?_, fun i j xs ys q ij e1 e2 e3 e4 => ?_⟩
  · by_cases q : b = p
    · rw [q]; exact Or.inr np0
    · exact I.z2 b (by simpa [Vw.hide, q] using z)
  · rcases sett e2 with ⟨rfl, z⟩ | ⟨z, e2⟩
    · cases z; exact np0
    · rw [List.getElem?_set_ne (Ne.symm z)] at e
      exact I.own i xs q e e2
  · rcases sett e3 with ⟨rfl, z⟩ | ⟨z, e5⟩
    · cases z
      rcases sett e4 with ⟨z, _⟩ | ⟨z, e4⟩
      · exact ij z.symm
      · rw [List.getElem?_set_ne (Ne.symm z)] at e2
        exact old j ys e2 e4
    · rw [List.getElem?_set_ne (Ne.symm z)] at e1
      rcases sett e4 with ⟨rfl, z2⟩ | ⟨z2, e4⟩
      · cases z2; exact old i xs e1 e5
      · rw [List.getElem?_set_ne (Ne.symm z2)] at e2
        exact I.dis i j xs ys q ij e1 e2 e5 e4
/-- what an own list's place is not -/
theorem InvS.apt (I : InvS K U0 H0 U H r σ δ) {n : Nat} {xs : List D} {p : Addr} (e : δ[n]? = some (some (.own xs))) (q : σ[n]? = some (some (.ref p))) : Apt U p := by
  obtain ⟨v, e1, p', ws, rfl, z, m, _, _⟩ := I.rel.at' n _ e
  rw [e1] at q
  cases q
  refine ⟨z, m, fun m' c g e2 q => ?_⟩
  obtain ⟨a1, a2, a3⟩ := I.m0 m' c g (by rw [← I.mm]; exact e2)
  exact I.d0 c a2 (by rw [q]; exact I.own n xs p e e1)
theorem snd_app {n : Nat} (he : SndE K te ee) : SndS K (tDrop (tBM K "list" rAppend (tVar n) (tCons te tNil))) (sApp n ee) := fun U0 H0 U σ δ H r E ED I R h => by
  obtain ⟨xs, e, h⟩ := h
  obtain ⟨v, e1, p, ws, rfl, z, m, hp, aa⟩ := I.rel.at' n _ e
  refine ⟨_, e1, Or.inl ⟨rfl, ws, SqL.of hp⟩, ?_⟩
  refine he U σ δ H r _ _ I.ok I.rel h fun d r1 w H1 h1 s1 ok1 a1 => ?_
  obtain ⟨l, h1⟩ := h1
  have I1 := I.step s1 ok1
  have hp1 := s1 p _ m hp
  have aa1 := aa.gr (s1.see I.ok)
  refine ⟨p, ws, w, rfl, rfl, hp1, sz2 (by rw [aa.len]; exact l), ?_⟩
  have apt := I1.apt e e1
  have ok2 : Ok U (upd H1 p (.lst (ws ++ [w]))) r1 := ok1.upd apt
  have p0 := I.own n xs p e e1
  have sL : StepL U p H1 (upd H1 p (.lst (ws ++ [w]))) := fun b o _ n e => by rw [upd_ne n]; exact e
  refine R.nx U σ (δ.set n (some (.own (xs ++ [d])))) _ r1 ⟨ok2, ?_, fun b o m' e' => ?_, I.mm, I.z1, I.z2, I.d0, I.m0, fun i ys q e' q' => ?_, fun i j ys zs q ij e2 e3 q2 q3 => ?_⟩ h1
  · refine ⟨by rw [List.length_set]; exact I.rel.len, fun i s e' => ?_⟩
    rcases sett e' with ⟨rfl, rfl⟩ | ⟨z', e'⟩
    · exact ⟨_, e1, p, ws ++ [w], rfl, z, m, upd_same, by rw [see_hid z]; exact aa1.app (.cons a1 .nil)⟩
    · obtain ⟨v, e4, w4⟩ := I1.rel.at' i s e'
      refine ⟨v, e4, ?_⟩
      match s, w4, e' with
      | .d x, w4, _ => show Dt K _ _ _; rw [see_hid z]; exact w4
      | .own ys, w4, e' =>
        obtain ⟨p', vs', rfl, z3, m3, hp3, aa3⟩ := w4
        refine ⟨p', vs', rfl, z3, m3, ?_, by rw [see_hid z]; exact aa3⟩
        rw [upd_ne (fun q => I1.dis i n ys xs p' z' e' e e4 (by rw [e1, q]))]
        exact hp3
      | .memo, w4, _ => exact w4
      | .scr ns, w4, _ =>
        obtain ⟨a, q, w5⟩ := w4
        exact ⟨a, q, by rw [see_hid z]; exact w5⟩
  · have nb : b ≠ p := ne_of_none e' p0
    rw [upd_ne nb]
    exact I1.st b o m' e'
  · rcases sett e' with ⟨rfl, _⟩ | ⟨z', e'⟩
    · rw [e1] at q'; cases q'; exact p0
    · exact I.own i ys q e' q'
  · rcases sett e2 with ⟨rfl, _⟩ | ⟨z1, e2'⟩
    · rcases sett e3 with ⟨rfl, _⟩ | ⟨z2, e3'⟩
      · exact ij rfl
      · exact I.dis i j xs zs q ij e e3' q2 q3
    · rcases sett e3 with ⟨rfl, _⟩ | ⟨z2, e3'⟩
      · exact I.dis i j ys xs q ij e2' e q2 q3
      · exact I.dis i j ys zs q ij e2' e3' q2 q3
theorem snd_frz {n : Nat} {t : TS} {s : SV} (h : SndS K t s) : SndS K t (sFrz n s) := fun U0 H0 U σ δ H r E ED I R h0 => by
  unfold sFrz at h0
  split at h0
  · rename_i xs e
    obtain ⟨v, e1, p, ws, rfl, z, m, hp, aa⟩ := I.rel.at' n _ e
    have apt := I.apt e e1
    have p0 := I.own n xs p e e1
    -- p is seen from now on
    have U'0 : ∃ U' : Vw, U'.mm = U.mm ∧ U'.Z p = false ∧ (∀ b, b ≠ p → U'.Z b = U.Z b) := ⟨⟨fun b => U.Z b && !decide (b = p), U.mm⟩, rfl, by simp, fun b hb => by simp [hb]⟩
    obtain ⟨U', emm, ep, eb⟩ := U'0
    have zU : ∀ b, U'.Z b = true → U.Z b = true ∧ b ≠ p := fun b hb => by
      have : b ≠ p := fun q => by rw [q, ep] at hb; cases hb
      exact ⟨by rw [← eb b this]; exact hb, this⟩
    have sm : Same (U.see H) (U'.see H) := fun b o e => by
      obtain ⟨z, e⟩ := see_of e
      rw [see_at]
      · exact e
      · cases q : U'.Z b with
        | false => rfl
        | true => rw [(zU b q).1] at z; cases z
    have mut' : ∀ b, U'.mut b ↔ U.mut b := fun b => by unfold Vw.mut; rw [emm]
    have nz : ∀ b, U.Z b = true → b ≠ p → U'.Z b = true := fun b hb n => by rw [eb b n]; exact hb
    have ok' : Ok U' H r := ⟨fun b hb => I.ok.dom b (zU b hb).1, fun m' c g e2 => by
      rw [emm] at e2
      obtain ⟨a1, a2, a3, M⟩ := I.ok.memo m' c g e2
      exact ⟨nz _ a1 fun q => apt.n ⟨m', c, g, e2, Or.inl q.symm⟩, nz _ a2 (apt.c _ _ _ e2), nz _ a3 fun q => apt.n ⟨m', c, g, e2, Or.inr q.symm⟩, M⟩⟩
    refine h U0 H0 U' σ _ H r E ED ⟨ok', ?_, I.st, emm.trans I.mm, fun b hb => nz b (I.z1 b hb) fun q => I.d0 b hb (by rw [q]; exact p0), fun b hb => I.z2 b (zU b hb).1, I.d0, I.m0, fun i ys q e' q' => ?_, fun i j ys zs q ij e2 e3 q2 q3 => ?_⟩ R h0
    · refine ⟨by rw [List.length_set]; exact I.rel.len, fun i s e' => ?_⟩
      rcases sett e' with ⟨rfl, rfl⟩ | ⟨z', e'⟩
      · exact ⟨_, e1, .lst (by rw [see_at ep]; exact hp) (aa.gr sm)⟩
      · obtain ⟨v, e4, w4⟩ := I.rel.at' i s e'
        refine ⟨v, e4, ?_⟩
        match s, w4, e' with
        | .d x, w4, _ => exact Dt.gr sm w4
        | .own ys, w4, e' =>
          obtain ⟨p', vs', rfl, z3, m3, hp3, aa3⟩ := w4
          exact ⟨p', vs', rfl, nz _ z3 (fun q => I.dis i n ys xs p' z' e' e e4 (by rw [e1, q])), fun q => m3 ((mut' _).mp q), hp3, aa3.gr sm⟩
        | .memo, w4, _ =>
          obtain ⟨m', c, g, e2, q⟩ := w4
          exact ⟨m', c, g, by rw [emm]; exact e2, q⟩
        | .scr ns, w4, _ =>
          obtain ⟨a, q, w5⟩ := w4
          exact ⟨a, q, gr_L sm w5⟩
    · rcases sett e' with ⟨rfl, z'⟩ | ⟨z', e'⟩
      · cases z'
      · exact I.own i ys q e' q'
    · rcases sett e2 with ⟨rfl, z1⟩ | ⟨z1, e2'⟩
      · cases z1
      · rcases sett e3 with ⟨rfl, z3⟩ | ⟨z2, e3'⟩
        · cases z3
        · exact I.dis i j ys zs q ij e2' e3' q2 q3
  · exact h U0 H0 U σ δ H r E ED I R h0
/-- from here on: all that is seen now stays -/
theorem InvS.rebase (I : InvS K U0 H0 U H r σ δ) : ∃ HB : Hp, InvS K U0 HB U H r σ δ ∧ Same (U.see H) HB ∧ (∀ b o, HB b = some o → U0.Z b = true ∨ U.Z b = false) ∧ ∀ {ED : EndsD} {E : Ends}, EndR K U0 H0 ED E → EndR K U0 HB ED E := by
  let HB : Hp := fun b => if U.Z b = true ∧ U0.Z b = false then none else H b
  have hB : ∀ b o, HB b = some o → H b = some o ∧ (U.Z b = true → U0.Z b = true) := fun b o e => by
    by_cases q : U.Z b = true ∧ U0.Z b = false
    · have : HB b = none := if_pos q
      rw [this] at e; cases e
    · have : HB b = H b := if_neg q
      rw [this] at e
      refine ⟨e, fun z => ?_⟩
      cases q2 : U0.Z b with
      | true => rfl
      | false => exact absurd ⟨z, q2⟩ q
  have hN : ∀ b, U.Z b = true → U0.Z b = false → HB b = none := fun b z z2 => if_pos ⟨z, z2⟩
  have own0 : ∀ p, H0 p = none → U.Z p = true → HB p = none := fun p e z => hN p z (by
    cases q : U0.Z p with
    | false => rfl
    | true => exact absurd e (I.d0 p q))
  -- what was there at the entry is there now, and none of the def's own
  have from0 : ∀ b o, ¬ U0.mut b → H0 b = some o → HB b = some o := fun b o m e => by
    have e1 := I.st b o m e
    have : HB b = H b := if_neg fun ⟨z, z2⟩ => by
      rcases I.z2 b z with q | q
      · rw [q] at z2; cases z2
      · rw [q] at e; cases e
    rw [this]; exact e1
  refine ⟨HB, ⟨I.ok, I.rel, fun b o _ e => (hB b o e).1, I.mm, I.z1, fun b z => ?_, fun b z => ?_, I.m0, fun i xs p e q => ?_, I.dis⟩, fun b o e => ?_, fun b o e => ?_, fun {ED E} R => ?_⟩
  · cases q : U0.Z b with
    | true => exact Or.inl rfl
    | false => exact Or.inr (hN b z q)
  · have : HB b = H b := if_neg fun ⟨_, z2⟩ => by rw [z] at z2; cases z2
    rw [this]
    exact I.ok.dom b (I.z1 b z)
  · exact own0 p (I.own i xs p e q) (I.apt e q).z
  · obtain ⟨z, e⟩ := see_of e
    have : HB b = H b := if_neg fun ⟨z2, _⟩ => by rw [z] at z2; cases z2
    rw [this]; exact e
  · have := (hB b o e).2
    cases q : U.Z b with
    | false => exact Or.inr rfl
    | true => exact Or.inl (this q)
  · have conv : ∀ {U' : Vw} {σ' : Sg} {δ' : SD} {H' : Hp} {r' : Nat}, InvS K U0 HB U' H' r' σ' δ' → InvS K U0 H0 U' H' r' σ' δ' := fun {U' σ' δ' H' r'} J =>
      ⟨J.ok, J.rel, fun b o m e => J.st b o m (from0 b o m e), J.mm, J.z1, fun b z => by
        rcases J.z2 b z with q | q
        · exact Or.inl q
        · by_cases m : U0.mut b
          · obtain ⟨m', c, g, e, q⟩ := m
            obtain ⟨a1, a2, a3⟩ := I.m0 m' c g e
            rcases q with rfl | rfl
            · exact Or.inl a1
            · exact Or.inl a3
          · cases e : H0 b with
            | none => exact Or.inr rfl
            | some o =>
              rw [from0 b o m e] at q
              exact absurd q (by simp), I.d0, J.m0, fun i xs p e q => by
        have pB := J.own i xs p e q
        by_cases m : U0.mut p
        · exact absurd ((show U'.mut p from (by unfold Vw.mut at m ⊢; rw [J.mm]; exact m))) (J.apt e q).n
        · cases e0 : H0 p with
          | none => rfl
          | some o =>
            rw [from0 p o m e0] at pB
            exact absurd pB (by simp), J.dis⟩
    exact ⟨fun U' σ' δ' H' r' J => R.nx _ _ _ _ _ (conv J), fun U' σ' δ' H' r' J => R.bk _ _ _ _ _ (conv J), fun U' σ' δ' H' r' J => R.ct _ _ _ _ _ (conv J), fun H' r' v d st => R.rt H' r' v d fun b o m e => st b o m (from0 b o m e)⟩
theorem snd_for {wi : TI} {iv : IV} {g : TG} {gv : GV} {ns : List Nat} {tb : TS} {sb : SV} (hi : SndI K wi iv) (hg : SndG K g gv ns) (hb : SndS K tb sb) : SndS K (tFor wi g tb) (sFor iv gv sb) := fun U0 H0 U σ δ H r E ED I R h =>
  hi U σ δ H r _ _ I.ok I.rel h fun ds r1 J H1 h1 s1 ok1 it => by
    have I1 := I.step s1 ok1
    obtain ⟨HB, IB, sB, zB, RB⟩ := I1.rebase
    have R' := RB R
    -- what is gone through stays seen
    have stay : ∀ {U' : Vw} {σ' : Sg} {δ' : SD} {H' : Hp} {r' : Nat}, InvS K U0 HB U' H' r' σ' δ' → Same (U.see H1) (U'.see H') := fun {U' σ' δ' H' r'} J b o e => by
      have e1 := sB b o e
      have n0 : U0.Z b = false := by
        obtain ⟨z, _⟩ := see_of e
        cases q : U0.Z b with
        | false => rfl
        | true => rw [I1.z1 b q] at z; cases z
      have nm : ¬ U0.mut b := fun m => by
        obtain ⟨m', c, g, e2, q⟩ := m
        obtain ⟨a1, a2, a3⟩ := I.m0 m' c g e2
        rcases q with rfl | rfl
        · rw [a1] at n0; cases n0
        · rw [a3] at n0; cases n0
      rw [see_at]
      · exact J.st b o nm e1
      · cases q : U'.Z b with
        | false => rfl
        | true =>
          rcases J.z2 b q with z | z
          · rw [z] at n0; cases n0
          · rw [e1] at z; cases z
    refine ⟨fun i m σ' H' => m = ds.length - i ∧ i ≤ ds.length ∧ ∃ U' δ' r', InvS K U0 HB U' H' r' σ' δ' ∧ forD gv sb ED (ds.drop i) δ' r', ⟨ds.length, by omega, Nat.zero_le _, U, δ, r1, IB, h1⟩, ?_⟩
    rintro i m σ' H' ⟨rfl, hil, U', δ', r', J', hf⟩
    have sm := stay J'
    have sm' : Same (U.see H1) H' := Gr.tr sm see_le
    by_cases hlt : i < ds.length
    · refine Or.inr ⟨it.go i H' hlt sm', fun σ3 H3 => ∃ U' δ' r', InvS K U0 HB U' H3 r' σ3 δ' ∧ forD gv sb ED (ds.drop (i + 1)) δ' r', fun σ3 H3 h3 => ⟨ds.length - (i + 1), by omega, rfl, by omega, h3⟩, fun x H'' y => ?_⟩
      obtain ⟨d, hd', y⟩ := it.yld i H' x H'' hlt sm' y
      obtain ⟨s2, ax⟩ := y.use J'.ok sm
      have J2 := J'.step (Step.of s2) (J'.ok.same s2)
      have dr : ds.drop i = d :: ds.drop (i + 1) := by
        rw [List.drop_eq_getElem_cons hlt]
        rw [List.getElem?_eq_getElem hlt] at hd'
        cases hd'
        rfl
      rw [dr] at hf
      obtain ⟨δ2, e2, hf⟩ := hf
      refine hg U' σ' δ' H'' r' x d δ2 _ J2.ok J2.rel ax e2 fun σ2 rel2 off ow => ?_
      exact hb U0 HB U' σ2 δ2 H'' r' _ { nx := fun δ r => forD gv sb ED (ds.drop (i + 1)) δ r, rt := ED.rt, bk := ED.nx, ct := fun δ r => forD gv sb ED (ds.drop (i + 1)) δ r } (J2.to rel2 ow) ⟨fun U3 σ3 δ3 H3 r3 J3 h3 => ⟨U3, δ3, r3, J3, h3⟩, fun U3 σ3 δ3 H3 r3 J3 h3 => R'.nx _ _ _ _ _ J3 h3, fun U3 σ3 δ3 H3 r3 J3 h3 => ⟨U3, δ3, r3, J3, h3⟩, R'.rt⟩ hf
    · have e : i = ds.length := by omega
      subst e
      rw [List.drop_length] at hf
      exact Or.inl ⟨it.stop H' sm', R'.nx _ _ _ _ _ J' hf⟩
theorem snd_par {i j : Nat} {tA : TA} {av : AV} (ha : SndA K tA av) : SndS K (tPar i j tA) (sPar i j av) := fun U0 H0 U σ δ H r E ED I R h =>
  ha U σ δ H r _ _ I.ok I.rel h fun ss r1 vs H1 h1 s1 ok1 a1 => by
    obtain ⟨s, t, rfl, h1⟩ := h1
    obtain ⟨v, w, rfl, a, b⟩ := a1.two
    have n1 : s.no = true := a1.1.2
    have n2 : t.no = true := a1.2.1.2
    have I1 := I.step s1 ok1
    exact ⟨v, w, rfl, R.nx _ _ _ _ _ (I1.to ((I1.rel.set a).set b) ((own_set n1).tr (own_set n2))) h1⟩
/-- from a def's reading to its promise -/
def runD (np nn : Nat) (s : SV) : SPEC := fun ss r P => ss.length = np ∧ s { nx := fun _ r' => P .non r', rt := P } (ss.map some ++ List.replicate (nn - np) none) r
theorem run_of {N : List Str} {np nn : Nat} {t : TS} {s : SV} {vs : List V} {Q : VK} {EE : XK} (hs : SndS K t s) (hN : N.length = nn) (h : spW K (runD np nn s) vs H Q EE) : t { nx := fun _ H' => Q .non H', rt := Q } (L2.start N vs) H := by
  obtain ⟨U, r, ss, P, ok, a, ⟨l, h⟩, k⟩ := h
  have lv := a.len
  have no : ∀ (i : Nat) (xs : List D), (ss.map some ++ List.replicate (nn - np) none)[i]? ≠ some (some (.own xs)) := fun i xs e => by
    have mem := List.mem_of_getElem? e
    rw [List.mem_append] at mem
    rcases mem with q | q
    · obtain ⟨s, hs, e⟩ := List.mem_map.mp q
      cases e
      have : ∀ {ss : List Sl} {vs : List V}, SlsOk K U H ss vs → Sl.own xs ∈ ss → False := by
        intro ss
        induction ss with
        | nil => intro vs _ m; cases m
        | cons s ss ih =>
          intro vs h m
          match vs, h with
          | v :: vs, h =>
            rcases List.mem_cons.mp m with rfl | m
            · cases h.1.2
            · exact ih h.2 m
          | [], h => exact h
      exact this a hs
    · have := (List.mem_replicate.mp q).2
      cases this
  have at' : ∀ {ss : List Sl} {vs : List V}, SlsOk K U H ss vs → ∀ (i : Nat) (s : Sl), ss[i]? = some s → ∃ v, vs[i]? = some v ∧ SlOk K U H s v := by
    intro ss
    induction ss with
    | nil => intro vs _ i s e; simp at e
    | cons s ss ih =>
      intro vs h i t e
      match vs, h with
      | v :: vs, h =>
        cases i with
        | zero => cases e; exact ⟨v, rfl, h.1.1⟩
        | succ i => exact ih h.2 i t e
      | [], h => exact h.elim
  have rel : RelE K U H (L2.start N vs) (ss.map some ++ List.replicate (nn - np) none) := by
    refine ⟨?_, fun i s e => ?_⟩
    · unfold L2.start
      rw [List.length_append, List.length_append, List.length_map, List.length_map, List.length_replicate, List.length_replicate, lv, hN, l]
    · have hi : i < ss.length := by
        have mem := List.getElem?_eq_some_iff.mp e
        obtain ⟨_, e'⟩ := mem
        by_cases q : i < ss.length
        · exact q
        · rw [List.getElem_append_right (by rw [List.length_map]; omega), List.getElem_replicate] at e'
          cases e'
      rw [List.getElem?_append_left (by rw [List.length_map]; exact hi), List.getElem?_map] at e
      obtain ⟨s', e', es⟩ := Option.map_eq_some_iff.mp e
      cases es
      obtain ⟨v, ev, av⟩ := at' a i s e'
      refine ⟨v, ?_, av⟩
      unfold L2.start
      rw [List.getElem?_append_left (by rw [List.length_map, lv]; exact hi), List.getElem?_map, ev]
      rfl
  refine hs U H U _ _ H r _ _ ⟨ok, rel, Step.rf, rfl, fun _ z => z, fun _ z => Or.inl z, ok.dom, fun m c g e => ?_, fun i xs p e => absurd e (no i xs), fun i j xs ys p _ e => absurd e (no i xs)⟩ ⟨fun U' σ' δ' H' r' I h => ?_, fun _ _ _ _ _ _ h => h, fun _ _ _ _ _ _ h => h, fun H' r' v d st ok' a h => k d r' v H' h st ok' a⟩ h
  · obtain ⟨a1, a2, a3, _⟩ := ok.memo m c g e
    exact ⟨a1, a2, a3⟩
  · exact k _ _ _ _ h I.st I.back.1 .non
theorem spW_len {np nn : Nat} {s : SV} {vs : List V} {Q : VK} {EE : XK} {ps : List Str} (hp : ps.length = np) (h : spW K (runD np nn s) vs H Q EE) : vs.length = ps.length := by
  obtain ⟨U, r, ss, P, ok, a, ⟨l, h⟩, k⟩ := h
  rw [a.len, l, hp]
end
end TSx

/-! Own layer, part Y4: operators and builtins over data. -/
namespace TSx
open PySem L2 TL
def opI (g : Int → Int → Int) : D → D → Option D
  | .int i, .int j => some (.int (g i j))
  | _, _ => none
def opB (g : Int → Int → Bool) : D → D → Option D
  | .int i, .int j => some (.bl (g i j))
  | _, _ => none
instance (i j : Int) : Decidable (CMul i j) := by unfold CMul; infer_instance
instance (i j : Int) : Decidable (CDiv i j) := by unfold CDiv; infer_instance
def opIC (C : Int → Int → Prop) [∀ i j, Decidable (C i j)] (g : Int → Int → Int) : D → D → Option D
  | .int i, .int j => if C i j then some (.int (g i j)) else none
  | _, _ => none
def opAdd : D → D → Option D := opI fun i j => i + j
def opSub : D → D → Option D := opI fun i j => i - j
def opMul : D → D → Option D := opIC CMul fun i j => i * j
def opMod : D → D → Option D := opIC (fun _ j => 0 < j) fun i j => i % j
def opFdiv : D → D → Option D := opIC CDiv fun i j => i / j
def opLt : D → D → Option D := opB fun i j => decide (i < j)
def opLe : D → D → Option D := opB fun i j => decide (i ≤ j)
def opGt : D → D → Option D := opB fun i j => decide (j < i)
def opGe : D → D → Option D := opB fun i j => decide (j ≤ i)
def opNeg : D → Option D
  | .int i => some (.int (-i))
  | _ => none
def opCatL : D → D → Option D
  | .lst xs, .lst ys => if xs.length + ys.length ≤ 100000 then some (.lst (xs ++ ys)) else none
  | _, _ => none
def opCatT : D → D → Option D
  | .tup xs, .tup ys => if xs.length + ys.length ≤ 100000 then some (.tup (xs ++ ys)) else none
  | _, _ => none
def opCatS : D → D → Option D
  | .str x, .str y => if x.length + y.length ≤ 100000 then some (.str (x ++ y)) else none
  | _, _ => none
def opRepL : D → D → Option D
  | .lst xs, .int k => if 0 ≤ k ∧ k < 1000 ∧ xs.length ≤ 100 then some (.lst (List.replicate k.toNat xs).flatten) else none
  | _, _ => none
def eqSc : D → D → Option Bool
  | .non, .non => some true
  | .non, .int _ => some false
  | .int _, .non => some false
  | .non, .bl _ => some false
  | .bl _, .non => some false
  | .non, .str _ => some false
  | .str _, .non => some false
  | .int i, .int j => some (decide (i = j))
  | .bl i, .bl j => some (decide (i = j))
  | .str i, .str j => some (decide (i = j))
  | .int _, .str _ => some false
  | .str _, .int _ => some false
  | .bl _, .str _ => some false
  | .str _, .bl _ => some false
  | _, _ => none
def opEq (d e : D) : Option D := (eqSc d e).map .bl
def opNe (d e : D) : Option D := (eqSc d e).map fun b => .bl (!b)
def opEqD (d e : D) : Option D := if d.pl = true ∧ e.pl = true ∧ d.py.depth ≤ 64 ∧ e.py.depth ≤ 64 then some (.bl (PyData.eqv d.py e.py)) else none
def opNeD (d e : D) : Option D := if d.pl = true ∧ e.pl = true ∧ d.py.depth ≤ 64 ∧ e.py.depth ≤ 64 then some (.bl (!PyData.eqv d.py e.py)) else none
def opInS : D → D → Option D
  | .str ⟨⟨[c]⟩⟩, .str z => some (.bl (decide (c ∈ z.cps.toList)))
  | _, _ => none
def opNinS : D → D → Option D
  | .str ⟨⟨[c]⟩⟩, .str z => some (.bl (!decide (c ∈ z.cps.toList)))
  | _, _ => none
def opIsN : D → D → Option D
  | d, .non => some (.bl (match d with | .non => true | _ => false))
  | _, _ => none
def opNotN : D → D → Option D
  | d, .non => some (.bl (match d with | .non => false | _ => true))
  | _, _ => none
def atD (xs : List D) (i : Int) : Option D := if 0 ≤ i then xs[i.toNat]? else if -(xs.length : Int) ≤ i then xs[(xs.length + i).toNat]? else none
def opIxL : D → D → Option D
  | .lst xs, .int i => atD xs i
  | _, _ => none
def opIxT : D → D → Option D
  | .tup xs, .int i => atD xs i
  | _, _ => none
def opIxS : D → D → Option D
  | .str x, .int i => if x.length ≤ 100000 ∧ 0 ≤ i then (x.cps[i.toNat]?).map fun c => .str ⟨#[c]⟩ else none
  | _, _ => none
def cLen : List Sl → Option D
  | [.d (.lst xs)] => some (.int xs.length)
  | [.d (.tup xs)] => some (.int xs.length)
  | [.scr ns] => some (.int ns.length)
  | _ => none
def cLenS : List Sl → Option D
  | [.d (.str x)] => if x.length ≤ 100000 then some (.int x.length) else none
  | _ => none
def cTup : List Sl → Option D
  | [.d (.lst xs)] => some (.tup xs)
  | [.d (.tup xs)] => some (.tup xs)
  | _ => none
def cLst : List Sl → Option D
  | [.d (.lst xs)] => some (.lst xs)
  | [.d (.tup xs)] => some (.lst xs)
  | _ => none
def intsD : List D → Option (List Int)
  | [] => some []
  | .int i :: ds => (intsD ds).map (i :: ·)
  | _ :: _ => none
def blsD : List D → Option (List Bool)
  | [] => some []
  | .bl i :: ds => (blsD ds).map (i :: ·)
  | _ :: _ => none
def strsD : List D → Option (List Str)
  | [] => some []
  | .str i :: ds => (strsD ds).map (i :: ·)
  | _ :: _ => none
def seqD : D → Option (List D)
  | .lst xs => some xs
  | .tup xs => some xs
  | _ => none
def oneD : List Sl → Option D
  | [.d x] => some x
  | _ => none
def lstD : List Sl → Option (List D)
  | [.d (.lst xs)] => some xs
  | _ => none
def cSum (ss : List Sl) : Option D := (lstD ss).bind fun xs => (intsD xs).map fun ns => .int ns.sum
def cAll (ss : List Sl) : Option D := (lstD ss).bind fun xs => (blsD xs).map fun ns => .bl (ns.all id)
def cAny (ss : List Sl) : Option D := (lstD ss).bind fun xs => (blsD xs).map fun ns => .bl (ns.any id)
def maxI : List Int → Int
  | [] => 0
  | [x] => x
  | x :: xs => max x (maxI xs)
def cMax (ss : List Sl) : Option D := (lstD ss).bind fun xs => (intsD xs).bind fun ns => if ns = [] then none else some (.int (maxI ns))
def cMin2 : List Sl → Option D
  | [.d (.int i), .d (.int j)] => some (.int (if j < i then j else i))
  | _ => none
def cInt : List Sl → Option D
  | [.d (.int i)] => some (.int i)
  | _ => none
def cIntB : List Sl → Option D
  | [.d (.bl k)] => some (.int (if k then 1 else 0))
  | _ => none
def cLcm : List Sl → Option D
  | [.d (.int a), .d (.int b)] => if a.natAbs < 2 ^ 64 ∧ b.natAbs < 2 ^ 64 ∧ (((Nat.lcm 1 a.natAbs).lcm b.natAbs : Nat) : Int).natAbs.log2 < bitsLine then some (.int (((Nat.lcm 1 a.natAbs).lcm b.natAbs : Nat) : Int)) else none
  | _ => none
def cRep : List Sl → Option D := fun _ => none
def mJoin (d e : D) : Option D := match d with
  | .str a => ((seqD e).bind strsD).bind fun ys => if (ys.map (·.length)).sum + ys.length * a.length ≤ 16777216 then some (.str (Txt.join a ys)) else none
  | _ => none
def mCount : D → D → Option D
  | .str a, .str b => some (.int (Txt.count a b))
  | _, _ => none
def mFind : D → D → Option D
  | .str a, .str b => some (.int (Txt.find a b))
  | _, _ => none
def opRev : D → Option D
  | .tup xs => some (.tup xs.reverse)
  | _ => none
def eIsi (T : String) (a : EV) : EV := fun δ r P => a δ r fun d r1 => d.isE = false ∧ ∃ b, kitB d.ty T = some b ∧ P (.bl b) r1
abbrev OV := SD → Nat → (Option Int → Nat → Prop) → Prop
def oNo : OV := fun _ r P => P none r
def oPart (e : EV) : OV := fun δ r P => e δ r fun d r1 => ∃ i, d = .int i ∧ P (some i) r1
def eSl (f : D → Option Int → Option Int → Option D) (a : EV) (l u : OV) : EV := fun δ r P => a δ r fun d r1 => l δ r1 fun i r2 => u δ r2 fun j r3 => ∃ z, f d i j = some z ∧ P z r3
def slT : D → Option Int → Option Int → Option D
  | .tup xs, lo, hi => some (.tup (cutD xs lo hi))
  | _, _, _ => none
def slL : D → Option Int → Option Int → Option D
  | .lst xs, lo, hi => some (.lst (cutD xs lo hi))
  | _, _, _ => none
def slS : D → Option Int → Option Int → Option D
  | .str x, lo, hi => if x.length ≤ 100000 then some (.str (cutS x lo hi)) else none
  | _, _, _ => none
def eOwnTup (n : Nat) : EV := fun δ r P => ∃ xs, δ[n]? = some (some (.own xs)) ∧ P (.tup xs) r
def eOwnLen (n : Nat) : EV := fun δ r P => ∃ xs : List D, δ[n]? = some (some (.own xs)) ∧ P (.int xs.length) r
section
variable {K : PySem.W.Frag}
theorem o_I {g : Int → Int → Int} : OpS K (rI0 fun i j => .int (g i j)) (opI g) := fun U H r x y d e z Q ok a b h k => by
  unfold opI at h
  split at h
  · cases h; cases a; cases b; exact ⟨_, _, rfl, rfl, k _ _ Gr.rfl' (.int _)⟩
  · cases h
theorem o_B {g : Int → Int → Bool} : OpS K (rI0 fun i j => .bl (g i j)) (opB g) := fun U H r x y d e z Q ok a b h k => by
  unfold opB at h
  split at h
  · cases h; cases a; cases b; exact ⟨_, _, rfl, rfl, k _ _ Gr.rfl' (.bl _)⟩
  · cases h
theorem o_IC {C : Int → Int → Prop} [∀ i j, Decidable (C i j)] {g : Int → Int → Int} : OpS K (rI C fun i j => .int (g i j)) (opIC C g) := fun U H r x y d e z Q ok a b h k => by
  unfold opIC at h
  split at h
  · split at h
    · rename_i c
      cases h; cases a; cases b; exact ⟨_, _, rfl, rfl, c, k _ _ Gr.rfl' (.int _)⟩
    · cases h
  · cases h
theorem o_add : OpS K (rI0 fun i j => .int (i + j)) opAdd := o_I
theorem o_sub : OpS K (rI0 fun i j => .int (i - j)) opSub := o_I
theorem o_mul : OpS K (rI CMul fun i j => .int (i * j)) opMul := o_IC
theorem o_mod : OpS K (rI (fun _ j => 0 < j) fun i j => .int (i % j)) opMod := o_IC
theorem o_fdiv : OpS K (rI CDiv fun i j => .int (i / j)) opFdiv := o_IC
theorem o_lt : OpS K (rI0 fun i j => .bl (decide (i < j))) opLt := o_B
theorem o_le : OpS K (rI0 fun i j => .bl (decide (i ≤ j))) opLe := o_B
theorem o_gt : OpS K (rI0 fun i j => .bl (decide (j < i))) opGt := o_B
theorem o_ge : OpS K (rI0 fun i j => .bl (decide (j ≤ i))) opGe := o_B
theorem u_neg : UnS K (rU fun i => .int (-i)) opNeg := fun U H r x d z Q ok a h k => by
  unfold opNeg at h
  split at h
  · cases h; cases a; exact ⟨_, rfl, k _ _ Gr.rfl' (.int _)⟩
  · cases h
theorem o_catL : OpS K rCat opCatL := fun U H r x y d e z Q ok a b h k => by
  unfold opCatL at h
  split at h
  · split at h
    · rename_i l
      cases h
      cases a with
      | @lst p xs _ e1 aa =>
      cases b with
      | @lst q ys _ e2 bb =>
        exact ⟨p, q, xs, ys, rfl, rfl, see_le _ _ e1, see_le _ _ e2, by rw [aa.len, bb.len]; exact sz1 l, fun w nw => k _ _ (same_new nw) (.lst (see_new ok nw) ((aa.app bb).gr (see_same (same_new nw))))⟩
    · cases h
  · cases h
theorem o_catT : OpS K (rCatA K) opCatT := fun U H r x y d e z Q ok a b h k => by
  unfold opCatT at h
  split at h
  · split at h
    · rename_i l
      cases h
      cases a with
      | @tup p xs _ e1 aa =>
      cases b with
      | @tup q ys _ e2 bb =>
        refine ⟨p, q, xs, ys, rfl, rfl, gr_T see_le e1, gr_T see_le e2, by rw [aa.len, bb.len]; exact sz1 l, fun hx => ?_, fun hx hy => ?_, fun hx hy w nw => ?_⟩
        · subst hx
          cases aa
          exact k _ _ Gr.rfl' (.tup e2 bb)
        · subst hy
          cases bb
          exact k _ _ Gr.rfl' (by rw [List.append_nil]; exact .tup e1 aa)
        · exact k _ _ (same_new nw) (.tup (SqT.of (see_new ok nw)) ((aa.app bb).gr (see_same (same_new nw))))
    · cases h
  · cases h
theorem o_catS : OpS K (fun x y H Q => ∃ i j, x = .str i ∧ y = .str j ∧ i.length + j.length ≤ sizeLine ∧ Q (.str (i ++ j)) H) opCatS := fun U H r x y d e z Q ok a b h k => by
  unfold opCatS at h
  split at h
  · split at h
    · rename_i l
      cases h; cases a; cases b; exact ⟨_, _, rfl, rfl, sz1 l, k _ _ Gr.rfl' (.str _)⟩
    · cases h
  · cases h
theorem o_repL : OpS K rRep opRepL := fun U H r x y d e z Q ok a b h k => by
  unfold opRepL at h
  split at h
  · split at h
    · rename_i l
      obtain ⟨l1, l2, l3⟩ := l
      cases h
      cases b
      cases a with
      | @lst p xs _ e1 aa =>
        refine ⟨p, _, xs, rfl, rfl, see_le _ _ e1, by omega, by omega, ?_, fun w nw => k _ _ (same_new nw) (.lst (see_new ok nw) ((aa.rep _).gr (see_same (same_new nw))))⟩
        refine sz1 (Nat.le_trans (Nat.mul_le_mul (show xs.length ≤ 100 by rw [aa.len]; exact l3) (show Int.toNat _ ≤ 1000 by omega)) (by decide))
    · cases h
  · cases h
theorem eqSc_ok {G : Hp} {x y : V} {d e : D} {b : Bool} (a : Dt K G x d) (c : Dt K G y e) (h : eqSc d e = some b) : scal x y = true ∧ decide (x = y) = b := by
  have inj : ∀ {p : Prop} [Decidable p] {b : Bool}, some (decide p) = some b → decide p = b := fun h => by cases h; rfl
  cases a <;> cases c <;> first | (cases h; done) | (cases h; exact ⟨rfl, by simp⟩) | (cases h; refine ⟨rfl, ?_⟩; simp)
theorem o_eq : OpS K rEq opEq := fun U H r x y d e z Q ok a b h k => by
  obtain ⟨c, hc, rfl⟩ := Option.map_eq_some_iff.mp h
  obtain ⟨h1, h2⟩ := eqSc_ok a b hc
  exact ⟨h1, by rw [h2]; exact k _ _ Gr.rfl' (.bl _)⟩
theorem o_ne : OpS K rNe opNe := fun U H r x y d e z Q ok a b h k => by
  obtain ⟨c, hc, rfl⟩ := Option.map_eq_some_iff.mp h
  obtain ⟨h1, h2⟩ := eqSc_ok a b hc
  exact ⟨h1, by rw [h2]; exact k _ _ Gr.rfl' (.bl _)⟩
theorem o_eqD : OpS K (rEqD K) opEqD := fun U H r x y d e z Q ok a b h k => by
  unfold opEqD at h
  split at h
  · rename_i c
    cases h
    exact r_eqD (a.gr see_le) (b.gr see_le) c.1 c.2.1 c.2.2.1 c.2.2.2 (k _ _ Gr.rfl' (.bl _))
  · cases h
theorem o_neD : OpS K (rNeD K) opNeD := fun U H r x y d e z Q ok a b h k => by
  unfold opNeD at h
  split at h
  · rename_i c
    cases h
    exact r_neD (a.gr see_le) (b.gr see_le) c.1 c.2.1 c.2.2.1 c.2.2.2 (k _ _ Gr.rfl' (.bl _))
  · cases h
theorem o_inS : OpS K (fun x y H Q => ∃ (c : Nat) (z : Str), x = .str ⟨#[c]⟩ ∧ y = .str z ∧ Q (.bl (decide (c ∈ z.cps.toList))) H) opInS := fun U H r x y d e z Q ok a b h k => by
  unfold opInS at h
  split at h
  · cases h; cases a; cases b; exact ⟨_, _, rfl, rfl, k _ _ Gr.rfl' (.bl _)⟩
  · cases h
theorem o_ninS : OpS K (fun x y H Q => ∃ (c : Nat) (z : Str), x = .str ⟨#[c]⟩ ∧ y = .str z ∧ Q (.bl (!decide (c ∈ z.cps.toList))) H) opNinS := fun U H r x y d e z Q ok a b h k => by
  unfold opNinS at h
  split at h
  · cases h; cases a; cases b; exact ⟨_, _, rfl, rfl, k _ _ Gr.rfl' (.bl _)⟩
  · cases h
theorem o_isN : OpS K (fun x y H Q => y = .non ∧ Q (.bl (decide (x = .non))) H) opIsN := fun U H r x y d e z Q ok a b h k => by
  unfold opIsN at h
  split at h
  · cases b
    cases h
    refine ⟨rfl, ?_⟩
    cases a <;> exact k _ _ Gr.rfl' (.bl _)
  · cases h
theorem o_notN : OpS K (fun x y H Q => y = .non ∧ Q (.bl (!decide (x = .non))) H) opNotN := fun U H r x y d e z Q ok a b h k => by
  unfold opNotN at h
  split at h
  · cases b
    cases h
    refine ⟨rfl, ?_⟩
    cases a <;> exact k _ _ Gr.rfl' (.bl _)
  · cases h
theorem atD_ok {G : Hp} {vs : List V} {ds : List D} {i : Int} {z : D} (a : DtA K G vs ds) (h : atD ds i = some z) : ∃ v, atI vs i = some v ∧ Dt K G v z := by
  have l := a.len
  unfold atD at h
  split at h
  · rename_i p
    obtain ⟨v, hv, av⟩ := a.nth h
    refine ⟨v, ?_, av⟩
    have := atI_nat hv
    rwa [Int.toNat_of_nonneg p] at this
  · split at h
    · rename_i n p
      obtain ⟨v, hv, av⟩ := a.nth h
      refine ⟨v, ?_, av⟩
      unfold atI ixN
      rw [if_neg n, l, if_pos p, Int.add_comm]
      exact hv
    · cases h
theorem o_ixL : OpS K (rIxL K) opIxL := fun U H r x y d e z Q ok a b h k => by
  unfold opIxL at h
  split at h
  · cases b
    cases a with
    | @lst p xs _ e1 aa =>
      obtain ⟨v, hv, av⟩ := atD_ok aa h
      exact ⟨p, xs, _, v, rfl, rfl, SqL.of (see_le _ _ e1), hv, k v H Gr.rfl' av⟩
  · cases h
theorem o_ixT : OpS K (rIxT K) opIxT := fun U H r x y d e z Q ok a b h k => by
  unfold opIxT at h
  split at h
  · cases b
    cases a with
    | @tup p xs _ e1 aa =>
      obtain ⟨v, hv, av⟩ := atD_ok aa h
      exact ⟨p, xs, _, v, rfl, rfl, gr_T see_le e1, hv, k v H Gr.rfl' av⟩
  · cases h
theorem o_ixS : OpS K rIxS opIxS := fun U H r x y d e z Q ok a b h k => by
  unfold opIxS at h
  split at h
  · split at h
    · rename_i l
      cases a
      cases b
      obtain ⟨c, hc, rfl⟩ := Option.map_eq_some_iff.mp h
      refine ⟨_, _, c, rfl, rfl, sz1 l.1, ?_, k _ _ Gr.rfl' (.str _)⟩
      have := atI_nat (xs := Array.toList _) (by rw [Array.getElem?_toList]; exact hc)
      rwa [Int.toNat_of_nonneg l.2] at this
    · cases h
  · cases h
theorem c_len : CbS K (fun xs H Q => ∃ p ys, xs = [.ref p] ∧ (SqL K H p ys ∨ SqT K H p ys) ∧ Q (.int ys.length) H) cLen := fun U H r ss vs z Q ok a h k => by
  unfold cLen at h
  split at h
  · cases h
    obtain ⟨v, rfl, a'⟩ := a.one
    cases (show Dt K (U.see H) v (.lst _) from a') with
    | @lst p xs _ e aa => exact ⟨p, xs, rfl, Or.inl (SqL.of (see_le _ _ e)), by rw [aa.len]; exact k _ _ Gr.rfl' (.int _)⟩
  · cases h
    obtain ⟨v, rfl, a'⟩ := a.one
    cases (show Dt K (U.see H) v (.tup _) from a') with
    | @tup p xs _ e aa => exact ⟨p, xs, rfl, Or.inr (gr_T see_le e), by rw [aa.len]; exact k _ _ Gr.rfl' (.int _)⟩
  · cases h
    obtain ⟨v, rfl, p, rfl, a'⟩ := a.one
    exact ⟨p, _, rfl, Or.inl (gr_L see_le a'), by rw [List.length_map]; exact k _ _ Gr.rfl' (.int _)⟩
  · cases h
theorem c_lenS : CbS K (fun xs H Q => ∃ z, xs = [.str z] ∧ z.length ≤ sizeLine ∧ Q (.int z.length) H) cLenS := fun U H r ss vs z Q ok a h k => by
  unfold cLenS at h
  split at h
  · split at h
    · rename_i l
      cases h
      obtain ⟨v, rfl, a'⟩ := a.one
      cases (show Dt K (U.see H) v (.str _) from a')
      exact ⟨_, rfl, sz1 l, k _ _ Gr.rfl' (.int _)⟩
    · cases h
  · cases h
theorem c_tup : CbS K (fun xs H Q => ∃ p ys, xs = [V.ref p] ∧ ((SqL K H p ys ∧ ∀ l, H l = none → Q (V.ref l) (upd H l (HO.tup ys))) ∨ (SqT K H p ys ∧ Q (V.ref p) H))) cTup := fun U H r ss vs z Q ok a h k => by
  unfold cTup at h
  split at h
  · cases h
    obtain ⟨v, rfl, a'⟩ := a.one
    cases (show Dt K (U.see H) v (.lst _) from a') with
    | @lst p xs _ e aa => exact ⟨p, xs, rfl, Or.inl ⟨SqL.of (see_le _ _ e), fun l nl => k _ _ (same_new nl) (.tup (SqT.of (see_new ok nl)) (aa.gr (see_same (same_new nl))))⟩⟩
  · cases h
    obtain ⟨v, rfl, a'⟩ := a.one
    cases (show Dt K (U.see H) v (.tup _) from a') with
    | @tup p xs _ e aa => exact ⟨p, xs, rfl, Or.inr ⟨gr_T see_le e, k _ _ Gr.rfl' (.tup e aa)⟩⟩
  · cases h
theorem c_lst : CbS K (fun xs H Q => ∃ p ys, xs = [.ref p] ∧ (SqL K H p ys ∨ SqT K H p ys) ∧ ∀ l, H l = none → Q (.ref l) (upd H l (.lst ys))) cLst := fun U H r ss vs z Q ok a h k => by
  unfold cLst at h
  split at h
  · cases h
    obtain ⟨v, rfl, a'⟩ := a.one
    cases (show Dt K (U.see H) v (.lst _) from a') with
    | @lst p xs _ e aa => exact ⟨p, xs, rfl, Or.inl (SqL.of (see_le _ _ e)), fun l nl => k _ _ (same_new nl) (.lst (see_new ok nl) (aa.gr (see_same (same_new nl))))⟩
  · cases h
    obtain ⟨v, rfl, a'⟩ := a.one
    cases (show Dt K (U.see H) v (.tup _) from a') with
    | @tup p xs _ e aa => exact ⟨p, xs, rfl, Or.inr (gr_T see_le e), fun l nl => k _ _ (same_new nl) (.lst (see_new ok nl) (aa.gr (see_same (same_new nl))))⟩
  · cases h
theorem ints_of {G : Hp} : ∀ {ds : List D} {ns : List Int} {vs : List V}, intsD ds = some ns → DtA K G vs ds → vs = ns.map V.int
  | [], ns, vs, h, a => by cases h; cases a; rfl
  | d :: ds, ns, vs, h, a => by
    cases a with
    | @cons v vs _ _ a b =>
    cases d with
    | int i =>
      obtain ⟨l, hl, rfl⟩ := Option.map_eq_some_iff.mp (show (intsD ds).map (i :: ·) = some ns from h)
      cases a
      rw [ints_of hl b]; rfl
    | _ => cases h
theorem bls_of {G : Hp} : ∀ {ds : List D} {ns : List Bool} {vs : List V}, blsD ds = some ns → DtA K G vs ds → vs = ns.map V.bl
  | [], ns, vs, h, a => by cases h; cases a; rfl
  | d :: ds, ns, vs, h, a => by
    cases a with
    | @cons v vs _ _ a b =>
    cases d with
    | bl i =>
      obtain ⟨l, hl, rfl⟩ := Option.map_eq_some_iff.mp (show (blsD ds).map (i :: ·) = some ns from h)
      cases a
      rw [bls_of hl b]; rfl
    | _ => cases h
theorem strs_of {G : Hp} : ∀ {ds : List D} {ns : List Str} {vs : List V}, strsD ds = some ns → DtA K G vs ds → vs = ns.map V.str
  | [], ns, vs, h, a => by cases h; cases a; rfl
  | d :: ds, ns, vs, h, a => by
    cases a with
    | @cons v vs _ _ a b =>
    cases d with
    | str i =>
      obtain ⟨l, hl, rfl⟩ := Option.map_eq_some_iff.mp (show (strsD ds).map (i :: ·) = some ns from h)
      cases a
      rw [strs_of hl b]; rfl
    | _ => cases h
theorem one_seq {U : Vw} {H : Hp} {ss : List Sl} {vs : List V} {xs : List D} (a : SlsOk K U H ss vs) (h : (oneD ss).bind seqD = some xs) : ∃ p ws, vs = [.ref p] ∧ DtA K (U.see H) ws xs ∧ (SqL K H p ws ∨ SqT K H p ws) ∧ (ss = [.d (.lst xs)] → SqL K H p ws) := by
  obtain ⟨d, hd, hs⟩ := Option.bind_eq_some_iff.mp h
  unfold oneD at hd
  split at hd
  · cases hd
    obtain ⟨v, rfl, a'⟩ := a.one
    unfold seqD at hs
    split at hs
    · cases hs
      cases (show Dt K (U.see H) v (.lst _) from a') with
      | @lst p ws _ e aa => exact ⟨p, ws, rfl, aa, Or.inl (SqL.of (see_le _ _ e)), fun _ => SqL.of (see_le _ _ e)⟩
    · cases hs
      cases (show Dt K (U.see H) v (.tup _) from a') with
      | @tup p ws _ e aa => exact ⟨p, ws, rfl, aa, Or.inr (gr_T see_le e), fun q => by cases q⟩
    · cases hs
  · cases hd
theorem lst_seq {U : Vw} {H : Hp} {ss : List Sl} {vs : List V} {xs : List D} (a : SlsOk K U H ss vs) (h : lstD ss = some xs) : ∃ p ws, vs = [.ref p] ∧ DtA K (U.see H) ws xs ∧ SqL K H p ws := by
  unfold lstD at h
  split at h
  · cases h
    obtain ⟨v, rfl, a'⟩ := a.one
    cases (show Dt K (U.see H) v (.lst _) from a') with
    | @lst p ws _ e aa => exact ⟨p, ws, rfl, aa, SqL.of (see_le _ _ e)⟩
  · cases h
theorem c_sum : CbS K (rSum K) cSum := fun U H r ss vs z Q ok a h k => by
  obtain ⟨xs, h1, h⟩ := Option.bind_eq_some_iff.mp h
  obtain ⟨ns, h2, rfl⟩ := Option.map_eq_some_iff.mp h
  obtain ⟨p, ws, rfl, aa, q⟩ := lst_seq a h1
  exact ⟨p, ns, rfl, by rw [← ints_of h2 aa]; exact q, k _ _ Gr.rfl' (.int _)⟩
theorem c_all : CbS K (rAll K) cAll := fun U H r ss vs z Q ok a h k => by
  obtain ⟨xs, h1, h⟩ := Option.bind_eq_some_iff.mp h
  obtain ⟨ns, h2, rfl⟩ := Option.map_eq_some_iff.mp h
  obtain ⟨p, ws, rfl, aa, q⟩ := lst_seq a h1
  exact ⟨p, ns, rfl, by rw [← bls_of h2 aa]; exact q, k _ _ Gr.rfl' (.bl _)⟩
theorem c_any : CbS K (rAny K) cAny := fun U H r ss vs z Q ok a h k => by
  obtain ⟨xs, h1, h⟩ := Option.bind_eq_some_iff.mp h
  obtain ⟨ns, h2, rfl⟩ := Option.map_eq_some_iff.mp h
  obtain ⟨p, ws, rfl, aa, q⟩ := lst_seq a h1
  exact ⟨p, ns, rfl, by rw [← bls_of h2 aa]; exact q, k _ _ Gr.rfl' (.bl _)⟩
theorem maxI_mem : ∀ {ns : List Int}, ns ≠ [] → maxI ns ∈ ns ∧ ∀ y ∈ ns, y ≤ maxI ns
  | [], h => absurd rfl h
  | [x], _ => ⟨List.mem_singleton_self _, fun y hy => by rw [List.mem_singleton.mp hy]; exact Int.le_refl _⟩
  | x :: y :: l, _ => by
    obtain ⟨h1, h2⟩ := maxI_mem (ns := y :: l) (by simp)
    show max x (maxI (y :: l)) ∈ _ ∧ ∀ z ∈ _, z ≤ max x (maxI (y :: l))
    refine ⟨?_, fun z hz => ?_⟩
    · rcases Int.le_total x (maxI (y :: l)) with q | q
      · rw [Int.max_eq_right q]; exact List.mem_cons_of_mem _ h1
      · rw [Int.max_eq_left q]; exact List.mem_cons_self ..
    · rcases List.mem_cons.mp hz with rfl | hz
      · exact Int.le_max_left ..
      · exact Int.le_trans (h2 z hz) (Int.le_max_right ..)
theorem c_max : CbS K (rMax K) cMax := fun U H r ss vs z Q ok a h k => by
  obtain ⟨xs, h1, h⟩ := Option.bind_eq_some_iff.mp h
  obtain ⟨ns, h2, h⟩ := Option.bind_eq_some_iff.mp h
  obtain ⟨p, ws, rfl, aa, q⟩ := lst_seq a h1
  split at h
  · cases h
  · rename_i ne
    cases h
    obtain ⟨m1, m2⟩ := maxI_mem ne
    refine ⟨p, ns, rfl, by rw [← ints_of h2 aa]; exact q, List.length_pos_iff.mpr ne, fun m hm hy => ?_⟩
    have : m = maxI ns := Int.le_antisymm (m2 m hm) (hy _ m1)
    rw [this]
    exact k _ _ Gr.rfl' (.int _)
theorem c_min2 : CbS K (fun xs H Q => ∃ i j, xs = [.int i, .int j] ∧ Q (.int (if j < i then j else i)) H) cMin2 := fun U H r ss vs z Q ok a h k => by
  unfold cMin2 at h
  split at h
  · cases h
    obtain ⟨v, w, rfl, a', b'⟩ := a.two
    cases (show Dt K (U.see H) v (.int _) from a')
    cases (show Dt K (U.see H) w (.int _) from b')
    exact ⟨_, _, rfl, k _ _ Gr.rfl' (.int _)⟩
  · cases h
theorem c_int : CbS K rInt cInt := fun U H r ss vs z Q ok a h k => by
  unfold cInt at h
  split at h
  · cases h
    obtain ⟨v, rfl, a'⟩ := a.one
    cases (show Dt K (U.see H) v (.int _) from a')
    exact ⟨_, rfl, k _ _ Gr.rfl' (.int _)⟩
  · cases h
theorem c_intB : CbS K rIntB cIntB := fun U H r ss vs z Q ok a h k => by
  unfold cIntB at h
  split at h
  · cases h
    obtain ⟨v, rfl, a'⟩ := a.one
    cases (show Dt K (U.see H) v (.bl _) from a')
    exact ⟨_, rfl, k _ _ Gr.rfl' (.int _)⟩
  · cases h
theorem c_lcm : CbS K rLcm cLcm := fun U H r ss vs z Q ok a h k => by
  unfold cLcm at h
  split at h
  · split at h
    · rename_i l
      cases h
      obtain ⟨v, w, rfl, a', b'⟩ := a.two
      cases (show Dt K (U.see H) v (.int _) from a')
      cases (show Dt K (U.see H) w (.int _) from b')
      exact ⟨_, _, rfl, l.1, l.2.1, l.2.2, k _ _ Gr.rfl' (.int _)⟩
    · cases h
  · cases h
theorem snd_isi {T : String} {ta : TE} {ea : EV} (ha : SndE K ta ea) : SndE K (tCB (rIsi K) (tCons ta (tCons (tC (.ty T)) tNil))) (eIsi T ea) := fun U σ δ H r P Q ok rel h k =>
  ha U σ δ H r _ _ ok rel h fun d r1 x H1 h1 s1 ok1 a1 => by
    obtain ⟨e, b, hb, p⟩ := h1
    exact ⟨x, .ty T, _, _, b, rfl, .ty T, ty_of (a1.gr see_le) e, kit_ty hb, k _ _ _ _ p s1 ok1 (.bl b)⟩
/-! slices -/
def SndO (K : PySem.W.Frag) (tO : TO) (ov : OV) : Prop := ∀ (U : Vw) (σ : Sg) (δ : SD) (H : Hp) (r : Nat) (P : Option Int → Nat → Prop) (Q : Option Int → Hp → Prop), Ok U H r → RelE K U H σ δ → ov δ r P →
  (∀ o r' H', P o r' → Step U H H' → Ok U H' r' → Q o H') → tO σ H Q
theorem sndo_no : SndO K tNoPart oNo := fun U σ δ H r P Q ok rel h k => k _ _ _ h Step.rf ok
theorem sndo_part {ta : TE} {ea : EV} (ha : SndE K ta ea) : SndO K (tPart ta) (oPart ea) := fun U σ δ H r P Q ok rel h k =>
  ha U σ δ H r _ _ ok rel h fun d r1 x H1 h1 s1 ok1 a1 => by
    obtain ⟨i, rfl, p⟩ := h1
    cases a1
    exact ⟨i, rfl, k _ _ _ p s1 ok1⟩
def SlS (K : PySem.W.Frag) (rd : V → Option Int → Option Int → Hp → VK → Prop) (f : D → Option Int → Option Int → Option D) : Prop := ∀ (U : Vw) (H : Hp) (r : Nat) (x : V) (d z : D) (i j : Option Int) (Q : VK), Ok U H r → Dt K (U.see H) x d → f d i j = some z → (∀ v H', Same H H' → Dt K (U.see H') v z → Q v H') → rd x i j H Q
theorem snd_sl {rd : V → Option Int → Option Int → Hp → VK → Prop} {f : D → Option Int → Option Int → Option D} {ta : TE} {ea : EV} {tl th : TO} {ol oh : OV} (o : SlS K rd f) (ha : SndE K ta ea) (hl : SndO K tl ol) (hh : SndO K th oh) : SndE K (tSl rd ta tl th) (eSl f ea ol oh) := fun U σ δ H r P Q ok rel h k =>
  ha U σ δ H r _ _ ok rel h fun d r1 x H1 h1 s1 ok1 a1 => hl U σ δ H1 r1 _ _ ok1 (rel.step ok s1) h1 fun i r2 H2 h2 s2 ok2 => hh U σ δ H2 r2 _ _ ok2 (rel.step ok (s1.tr s2)) h2 fun j r3 H3 h3 s3 ok3 => by
    obtain ⟨z, hz, p⟩ := h3
    exact o U H3 r3 x d z i j Q ok3 ((a1.gr (s2.see ok1)).gr (s3.see ok2)) hz fun v H' s a => k z r3 v H' p (((s1.tr s2).tr s3).tr (Step.of s)) (ok3.same s) a
theorem cut_ok {G : Hp} {vs : List V} {ds : List D} {lo hi : Option Int} (a : DtA K G vs ds) : DtA K G (cutV vs lo hi) (cutD ds lo hi) := by
  have l := a.len
  unfold cutV cutD
  rw [l]
  exact (a.drop _).take _
theorem sl_T : SlS K (rSlA K) slT := fun U H r x d z i j Q ok a h k => by
  unfold slT at h
  split at h
  · cases h
    cases a with
    | @tup p xs _ e aa =>
      refine ⟨p, xs, rfl, gr_T see_le e, fun hw => ?_, fun _ w nw => k _ _ (same_new nw) (.tup (SqT.of (see_new ok nw)) ((cut_ok aa).gr (see_same (same_new nw))))⟩
      rw [aa.len] at hw
      rw [cut_whole hw] at k
      exact k _ _ Gr.rfl' (.tup e aa)
  · cases h
theorem sl_L : SlS K (rSlL K) slL := fun U H r x d z i j Q ok a h k => by
  unfold slL at h
  split at h
  · cases h
    cases a with
    | @lst p xs _ e aa => exact ⟨p, xs, rfl, SqL.of (see_le _ _ e), fun w nw => k _ _ (same_new nw) (.lst (see_new ok nw) ((cut_ok aa).gr (see_same (same_new nw))))⟩
  · cases h
theorem sl_S : SlS K rSlS slS := fun U H r x d z i j Q ok a h k => by
  unfold slS at h
  split at h
  · split at h
    · rename_i l
      cases h
      cases a
      exact ⟨_, rfl, sz1 l, k _ _ Gr.rfl' (.str _)⟩
    · cases h
  · cases h
def eBack (a : EV) : EV := eUn opRev a
theorem snd_back {ta : TE} {ea : EV} (ha : SndE K ta ea) : SndE K (tBack K ta) (eBack ea) := fun U σ δ H r P Q ok rel h k =>
  ha U σ δ H r _ _ ok rel h fun d r1 x H1 h1 s1 ok1 a1 => by
    obtain ⟨z, hz, p⟩ := h1
    unfold opRev at hz
    split at hz
    · cases hz
      cases a1 with
      | @tup q xs _ e aa => exact ⟨q, xs, rfl, gr_T see_le e, fun w nw => k _ _ _ _ p (s1.tr (Step.of (same_new nw))) (ok1.same (same_new nw)) (.tup (SqT.of (see_new ok1 nw)) (aa.rev.gr (see_same (same_new nw))))⟩
    · cases hz
/-! methods of texts -/
def MtS (K : PySem.W.Frag) (rd : V → List V → Hp → VK → Prop) (f : D → D → Option D) : Prop := ∀ (U : Vw) (H : Hp) (r : Nat) (x y : V) (d e z : D) (Q : VK), Ok U H r → Dt K (U.see H) x d → Dt K (U.see H) y e → f d e = some z → (∀ v H', Same H H' → Dt K (U.see H') v z → Q v H') → rd x [y] H Q
theorem snd_m1 {rd : V → List V → Hp → VK → Prop} {f : D → D → Option D} {ta tb : TE} {ea eb : EV} (o : MtS K rd f) (ha : SndE K ta ea) (hb : SndE K tb eb) : SndE K (tM1 rd ta tb) (eM1 f ea eb) := fun U σ δ H r P Q ok rel h k =>
  ha U σ δ H r _ _ ok rel h fun d r1 x H1 h1 s1 ok1 a1 => by
    obtain ⟨⟨a, rfl⟩, h1⟩ := h1
    cases a1
    exact ⟨⟨a, rfl⟩, hb U σ δ H1 r1 _ _ ok1 (rel.step ok s1) h1 fun e r2 y H2 h2 s2 ok2 a2 => by
      obtain ⟨z, hz, p⟩ := h2
      exact o U H2 r2 _ y _ e z Q ok2 (.str a) a2 hz fun v H' s a => k z r2 v H' p ((s1.tr s2).tr (Step.of s)) (ok2.same s) a⟩
theorem m_join : MtS K (fun x xs H Q => ∃ a p, ∃ ys : List Str, x = .str a ∧ xs = [.ref p] ∧ (SqL K H p (ys.map V.str) ∨ SqT K H p (ys.map V.str)) ∧ (ys.map (·.length)).sum + ys.length * a.length ≤ 16777216 ∧ Q (.str (Txt.join a ys)) H) mJoin := fun U H r x y d e z Q ok a b h k => by
  unfold mJoin at h
  split at h
  · rename_i s
    cases a
    obtain ⟨ys, h1, h⟩ := Option.bind_eq_some_iff.mp h
    obtain ⟨xs, h2, h1⟩ := Option.bind_eq_some_iff.mp h1
    split at h
    · rename_i l
      cases h
      unfold seqD at h2
      split at h2
      · cases h2
        cases b with
        | @lst p ws _ e aa => exact ⟨s, p, ys, rfl, rfl, Or.inl (by rw [← strs_of h1 aa]; exact SqL.of (see_le _ _ e)), l, k _ _ Gr.rfl' (.str _)⟩
      · cases h2
        cases b with
        | @tup p ws _ e aa => exact ⟨s, p, ys, rfl, rfl, Or.inr (by rw [← strs_of h1 aa]; exact gr_T see_le e), l, k _ _ Gr.rfl' (.str _)⟩
      · cases h2
    · cases h
  · cases h
theorem m_joinK : MtS K (rJoinK K) mJoin := m_join
theorem m_count : MtS K (fun x xs H Q => ∃ a b, x = .str a ∧ xs = [.str b] ∧ Q (.int (Txt.count a b)) H) mCount := fun U H r x y d e z Q ok a b h k => by
  unfold mCount at h
  split at h
  · cases h; cases a; cases b; exact ⟨_, _, rfl, rfl, k _ _ Gr.rfl' (.int _)⟩
  · cases h
theorem m_find : MtS K (fun x xs H Q => ∃ a b, x = .str a ∧ xs = [.str b] ∧ Q (.int (Txt.find a b)) H) mFind := fun U H r x y d e z Q ok a b h k => by
  unfold mFind at h
  split at h
  · cases h; cases a; cases b; exact ⟨_, _, rfl, rfl, k _ _ Gr.rfl' (.int _)⟩
  · cases h
theorem snd_ownT {n : Nat} : SndE K (tCB (fun xs H Q => ∃ p ys, xs = [V.ref p] ∧ ((SqL K H p ys ∧ ∀ l, H l = none → Q (V.ref l) (upd H l (HO.tup ys))) ∨ (SqT K H p ys ∧ Q (V.ref p) H))) (tCons (tVar n) tNil)) (eOwnTup n) := fun U σ δ H r P Q ok rel h k => by
  obtain ⟨xs, e, h⟩ := h
  obtain ⟨v, e1, p, ws, rfl, z, m, hp, aa⟩ := rel.at' n _ e
  exact ⟨_, e1, p, ws, rfl, Or.inl ⟨SqL.of hp, fun l nl => k _ _ _ _ h (Step.of (same_new nl)) (ok.same (same_new nl)) (.tup (SqT.of (see_new ok nl)) (aa.gr (see_same (same_new nl))))⟩⟩
theorem snd_ownL {n : Nat} : SndE K (tCB (fun xs H Q => ∃ p ys, xs = [.ref p] ∧ (SqL K H p ys ∨ SqT K H p ys) ∧ Q (.int ys.length) H) (tCons (tVar n) tNil)) (eOwnLen n) := fun U σ δ H r P Q ok rel h k => by
  obtain ⟨xs, e, h⟩ := h
  obtain ⟨v, e1, p, ws, rfl, z, m, hp, aa⟩ := rel.at' n _ e
  exact ⟨_, e1, p, ws, rfl, Or.inl (SqL.of hp), k _ _ _ _ (by rw [aa.len]; exact h) Step.rf ok (.int _)⟩
end
end TSx

/-! Own layer, part Y5: draws, repr, powers over data; the law's beginning. -/
namespace TSx
open PySem L2 TL
structure Blt3 (mg : Str → Option Value) : Prop where
  max : mg "max" = none
  min : mg "min" = none
  any : mg "any" = none
  sorted : mg "sorted" = none
instance (i j : Int) : Decidable (CPow i j) := by unfold CPow; infer_instance
def opPow : D → D → Option D := opIC CPow fun i j => i ^ j.toNat
def eRepr (a : EV) : EV := fun δ r P => a δ r fun d r1 => d.rd ∧ P (.str d.pd.shown) r1
def Sdraw : SPEC := fun ss r P => ∃ n : Int, ss = [.memo, .d (.int n)] ∧ (0 < n ∧ n < 1073741824) ∧ 0 < r ∧ ∀ v : Int, 0 ≤ v → v < n → P (.int v) (r - 1)
section
variable {K : PySem.W.Frag} {H : Hp}
theorem o_pow : OpS K (rI CPow fun i j => .int (i ^ j.toNat)) opPow := o_IC
theorem snd_repr {ta : TE} {ea : EV} (ha : SndE K ta ea) : SndE K (tCB (rReprD K) (tCons ta tNil)) (eRepr ea) := fun U σ δ H r P Q ok rel h k =>
  ha U σ δ H r _ _ ok rel h fun d r1 x H1 h1 s1 ok1 a1 => ⟨x, d, rfl, a1.gr see_le, h1.1, k _ _ _ _ h1.2 s1 ok1 (.str _)⟩
theorem fnok_mono {P : Program} {w : World} {mg : Str → Option Value} {base : Heap} {k : Nat} {f : Addr} {fd : FuncData} {ps : List Str} {sp sp' : Sp} {CX : CXT} (F : FnOk P w K mg base CX k f fd ps sp) (m : ∀ vs H Q E, sp' vs H Q E → sp vs H Q E) : FnOk P w K mg base CX k f fd ps sp' :=
  ⟨fun vs H Q E h => F.len vs H Q E (m vs H Q E h), fun A o s H a us vs Q E r e b v h => F.run A o s H a us vs Q E r e b v (m vs H Q E h)⟩
theorem kp_step {U : Vw} {m c g : Addr} {H' : Hp} (e : U.mm = some (m, c, g)) (k : Kp m g H H') : Step U H H' := fun b o n h => k b o (fun z => n ⟨m, c, g, e, Or.inl z⟩) (fun z => n ⟨m, c, g, e, Or.inr z⟩) h
theorem kp_ok {U : Vw} {m c g : Addr} {H' : Hp} {r r' : Nat} (ok : Ok U H r) (e : U.mm = some (m, c, g)) (k : Kp m g H H') (M : MAt m c g H' r') : Ok U H' r' := by
  refine ⟨fun b z => ?_, fun m' c' g' e' => ?_⟩
  · obtain ⟨⟨n, cs, gs, h1, h2, h3, _⟩, _⟩ := M
    by_cases q : b = m
    · rw [q, h1]; simp
    · by_cases q2 : b = g
      · rw [q2, h3]; simp
      · cases q3 : H b with
        | none => exact absurd q3 (ok.dom b z)
        | some o => rw [k b o q q2 q3]; simp
  · rw [e] at e'
    cases e'
    obtain ⟨a1, a2, a3, _⟩ := ok.memo m c g e
    exact ⟨a1, a2, a3, M⟩
theorem draw_of {vs : List V} {Q : VK} {E : XK} (h : spW K Sdraw vs H Q E) : spDraw vs H Q E := by
  obtain ⟨U, r, ss, P, ok, a, ⟨n, rfl, ⟨n0, n1⟩, r0, h⟩, k⟩ := h
  obtain ⟨v, w, rfl, ⟨m, c, g, e, rfl⟩, b⟩ := a.two
  cases (show Dt K (U.see H) w (.int n) from b)
  obtain ⟨_, _, _, M⟩ := ok.memo m c g e
  obtain ⟨q, rfl⟩ : ∃ q, r = q + 1 := ⟨r - 1, by omega⟩
  exact ⟨m, c, g, q, n, rfl, n0, n1, M, fun v H' v0 v1 M' kp => k _ _ _ _ (h v v0 v1) (kp_step e kp) (kp_ok ok e kp M') (.int v)⟩
/-- the law's body behind `m = _law_begun(script)` -/
theorem begun_then {rest : TS} {sv : SV} {N : List Str} {nn : Nat} {a : Addr} {ns : List Int} {Q : VK} (hs : SndS K rest sv) (hN : N.length = nn) (hS : SqL K H a (ns.map V.int)) (hz : ns.length ≤ 63)
    (hQ : ∀ H', Q (.bl true) H')
    (h : sv { nx := fun _ _ => False, rt := fun d _ => d = .bl true } ((([some (.scr ns)] ++ List.replicate (nn - 1) none) : SD).set 1 (some .memo)) 536870912) :
    tSeq (tAsg (tCall (spBegun K) [] E0 (tCons (tVar 0) tNil)) (gName 1)) rest { nx := fun _ H' => Q .non H', rt := Q } (L2.start N [.ref a]) H := by
  refine ⟨.ref a, rfl, ?_⟩
  have go : spBegun K [V.ref a] H (fun x H1 => gName 1 x (L2.start N [V.ref a]) H1 (rest { nx := fun _ H' => Q .non H', rt := Q })) E0 → spBegun K ([V.ref a] ++ []) H (fun x H1 => gName 1 x (L2.start N [V.ref a]) H1 (rest { nx := fun _ H' => Q .non H', rt := Q })) E0 := fun h => by rw [List.append_nil]; exact h
  refine go ?_
  refine ⟨a, ns, rfl, hS, hz, fun H' m c g s nm nc ng M => ?_⟩
  let U : Vw := ⟨fun b => decide (b = m) || decide (b = c) || decide (b = g), some (m, c, g)⟩
  have zU : ∀ b, U.Z b = true ↔ (b = m ∨ b = c ∨ b = g) := fun b => by simp [U, or_assoc]
  obtain ⟨⟨n, cs, gs, h1, h2, h3, h4⟩, ne⟩ := id M
  have ok : Ok U H' 536870912 := ⟨fun b z => by
    rcases (zU b).mp z with rfl | rfl | rfl
    · rw [h1]; simp
    · rw [h2]; simp
    · rw [h3]; simp, fun m' c' g' e => by
    cases e
    exact ⟨(zU _).mpr (Or.inl rfl), (zU _).mpr (Or.inr (Or.inl rfl)), (zU _).mpr (Or.inr (Or.inr rfl)), M⟩⟩
  have sm : Same H (U.see H') := fun b o e => by
    rw [see_at]
    · exact s b o e
    · cases q : U.Z b with
      | false => rfl
      | true =>
        rcases (zU b).mp q with rfl | rfl | rfl
        · rw [nm] at e; cases e
        · rw [nc] at e; cases e
        · rw [ng] at e; cases e
  have l : ((L2.start N [V.ref a]).set 1 (some (.ref m))).length = ((([some (.scr ns)] ++ List.replicate (nn - 1) none) : SD).set 1 (some .memo)).length := by
    rw [List.length_set, List.length_set]
    unfold L2.start
    rw [List.length_append, List.length_append, List.length_map, List.length_replicate, List.length_replicate, hN]
    rfl
  have at0 : ∀ (i : Nat) (s : Sl), ((([some (.scr ns)] ++ List.replicate (nn - 1) none) : SD).set 1 (some .memo))[i]? = some (some s) → (i = 0 ∧ s = .scr ns) ∨ (i = 1 ∧ s = .memo) := fun i s e => by
    rcases sett e with ⟨rfl, rfl⟩ | ⟨z, e⟩
    · exact Or.inr ⟨rfl, rfl⟩
    · cases i with
      | zero => cases e; exact Or.inl ⟨rfl, rfl⟩
      | succ i =>
        have e' : (List.replicate (nn - 1) (none : Option Sl))[i]? = some (some s) := by
          rw [List.getElem?_append_right (by simp)] at e
          simpa using e
        have := (List.mem_replicate.mp (List.mem_of_getElem? e')).2
        cases this
  have rel : RelE K U H' ((L2.start N [V.ref a]).set 1 (some (.ref m))) ((([some (.scr ns)] ++ List.replicate (nn - 1) none) : SD).set 1 (some .memo)) := by
    refine ⟨l, fun i s e => ?_⟩
    have hi := (List.getElem?_eq_some_iff.mp e).1
    rcases at0 i s e with ⟨rfl, rfl⟩ | ⟨rfl, rfl⟩
    · exact ⟨.ref a, by rw [List.getElem?_set_ne (by decide)]; rfl, a, rfl, gr_L sm hS⟩
    · refine ⟨.ref m, ?_, m, c, g, rfl, rfl⟩
      rw [← l] at hi
      rw [List.length_set] at hi
      exact List.getElem?_set_self hi
  refine hs U H' U _ _ H' _ _ { nx := fun _ _ => False, rt := fun d _ => d = .bl true } ⟨ok, rel, Step.rf, rfl, fun _ z => z, fun _ z => Or.inl z, ok.dom, fun m' c' g' e => ?_, fun i xs p e => ?_, fun i j xs ys p _ e => ?_⟩ ⟨fun _ _ _ _ _ _ h => h.elim, fun _ _ _ _ _ _ h => h, fun _ _ _ _ _ _ h => h, fun H2 r2 v d _ _ ad hd => ?_⟩ h
  · obtain ⟨a1, a2, a3, _⟩ := ok.memo m' c' g' e
    exact ⟨a1, a2, a3⟩
  · rcases at0 i _ e with ⟨_, z⟩ | ⟨_, z⟩ <;> cases z
  · rcases at0 i _ e with ⟨_, z⟩ | ⟨_, z⟩ <;> cases z
  · subst hd
    cases ad
    exact hQ H2
def opInQ (d e : D) : Option D := match d with
  | .str x => ((seqD e).bind strsD).map fun ws => .bl (ws.any fun y => y == x)
  | _ => none
def opNinQ (d e : D) : Option D := match d with
  | .str x => ((seqD e).bind strsD).map fun ws => .bl (!ws.any fun y => y == x)
  | _ => none
theorem in_of {U : Vw} {H : Hp} {x : Str} {y : V} {e : D} {ws : List Str} (b : Dt K (U.see H) y e) (h : (seqD e).bind strsD = some ws) : ∃ p vs, y = .ref p ∧ (SqL K H p vs ∨ SqT K H p vs) ∧ inV (.str x) vs = ws.any (fun y => y == x) ∧ vs.all flatV = true := by
  obtain ⟨xs, h1, h2⟩ := Option.bind_eq_some_iff.mp h
  unfold seqD at h1
  have mp : ∀ {ds : List D} {ws : List Str}, strsD ds = some ws → ds = ws.map D.str := by
    intro ds
    induction ds with
    | nil => intro ws h; cases h; rfl
    | cons d ds ih =>
      intro ws h
      cases d with
      | str i =>
        obtain ⟨l, hl, rfl⟩ := Option.map_eq_some_iff.mp (show (strsD ds).map (i :: ·) = some ws from h)
        rw [ih hl]; rfl
      | _ => cases h
  have e2 := mp h2
  split at h1
  · cases h1
    cases b with
    | @lst p vs _ e aa =>
      rw [e2] at aa
      exact ⟨p, vs, rfl, Or.inl (SqL.of (see_le _ _ e)), inV_str x aa⟩
  · cases h1
    cases b with
    | @tup p vs _ e aa =>
      rw [e2] at aa
      exact ⟨p, vs, rfl, Or.inr (gr_T see_le e), inV_str x aa⟩
  · cases h1
theorem o_inQ : OpS K (rIn K false) opInQ := fun U H r x y d e z Q ok a b h k => by
  unfold opInQ at h
  split at h
  · obtain ⟨ws, h1, rfl⟩ := Option.map_eq_some_iff.mp h
    cases a
    rename_i s
    obtain ⟨p, vs, rfl, q, i, f⟩ := in_of (x := s) b h1
    refine ⟨p, vs, rfl, q, rfl, f, ?_⟩
    rw [if_neg (by decide), i]
    exact k _ _ Gr.rfl' (.bl _)
  · cases h
theorem o_ninQ : OpS K (rIn K true) opNinQ := fun U H r x y d e z Q ok a b h k => by
  unfold opNinQ at h
  split at h
  · obtain ⟨ws, h1, rfl⟩ := Option.map_eq_some_iff.mp h
    cases a
    rename_i s
    obtain ⟨p, vs, rfl, q, i, f⟩ := in_of (x := s) b h1
    refine ⟨p, vs, rfl, q, rfl, f, ?_⟩
    rw [if_pos rfl, i]
    exact k _ _ Gr.rfl' (.bl _)
  · cases h
def opIx : D → D → Option D
  | .lst xs, .int i => atD xs i
  | .tup xs, .int i => atD xs i
  | .str x, .int i => opIxS (.str x) (.int i)
  | _, _ => none
theorem o_ix : OpS K (rIx K) opIx := fun U H r x y d e z Q ok a b h k => by
  unfold opIx at h
  split at h
  · exact Or.inl (o_ixL U H r x y _ _ z Q ok a b h k)
  · exact Or.inr (Or.inl (o_ixT U H r x y _ _ z Q ok a b h k))
  · exact Or.inr (Or.inr (o_ixS U H r x y _ _ z Q ok a b h k))
  · cases h
theorem ix_seqK {X : Cx} {K : PySem.W.Frag} (h : X.K = K) : IxR X (rIx K) := by
  subst h
  exact ix_seq
/-- the law's promise -/
def spLaw (K : PySem.W.Frag) : Sp := fun vs H Q _ => ∃ (a : Addr) (ns : List Int), vs = [.ref a] ∧ SqL K H a (ns.map V.int) ∧ ns.length ≤ 63 ∧ ∀ H', Q (.bl true) H'
end
end TSx

namespace TSx
open PySem L2
local macro_rules | `(tactic| walk_at "rd") => `(tactic| repeat (first
  | ((with_reducible show tVar _ _ _ _); refine r_v rfl ?_)
  | with_reducible refine r_c ?_
  | with_reducible refine r_op ?_
  | with_reducible refine r_I0 ?_
  | with_reducible refine r_cb ?_
  | with_reducible refine r_nil ?_
  | with_reducible refine r_cons ?_
  | with_reducible refine r_seq ?_
  | with_reducible refine r_next ?_
  | with_reducible refine r_asg ?_
  | with_reducible refine r_name ?_
  | with_reducible refine r_ret ?_
  | with_reducible refine r_drop ?_
  | with_reducible refine r_if ?_
  | with_reducible refine r_test ?_
  | with_reducible refine r_bl ?_
  | with_reducible refine r_int1 ?_
  | ((with_reducible refine r_mul ?hm ?_); (case hm => first | exact cmR (by omega) (by omega) | exact cmL (by omega) (by omega)))
  | ((with_reducible refine r_div ?hm ?_); (case hm => exact cdv (by omega) (by omega)))
  | ((with_reducible refine r_mod ?hm ?_); (case hm => omega))
  | with_reducible refine r_sub ?_
  | with_reducible refine r_dget ?_
  | with_reducible refine r_dput ?_
  | with_reducible refine r_lst ?_
  | with_reducible refine r_call ?_))
def top (i : Nat) : Stmt := PySem.Challenge.pw_termseats_k82_whole_patterns.main.body.getD i (.Pass ⟨0, 0, 0, 0⟩)
abbrev sMixed : Stmt := top 31
theorem scMixed : FnScope ["cell", "n", "blend"] ["cell", "n"] (defScope sMixed) := ⟨rfl, rfl, rfl, by decide +kernel, rfl, by decide +kernel, by decide +kernel⟩
section
variable {P : Program} {w : World} {K : PySem.W.Frag} {mg : Str → Option Value} {base : Heap}
theorem ok_mixed {f : Addr} {fd : FuncData} (F : L2.Fun K "_law_mixed" "_law_mixed" sMixed f fd) (T : Blt mg) : FnOk P w K mg base CX0 1 f fd ["cell", "n"] spMixed := by
  refine F.ok scMixed (fun vs H Q E h => ?_) (fun cdv A outer s H vs Q E hr h => ?_)
  · obtain ⟨c, n, rfl, _⟩ := h
    rfl
  · obtain ⟨c, n, rfl, c0, c1, n0, n1, k⟩ := h
    refine ⟨_, pss_cons (ps_set (i := 2) scMixed.nd rfl (Or.inl rfl)
        (pe_op op_add (pe_op op_add (pe_op op_mod (pe_callTy call_intI (by rfl) T.int PyProof.Rows.boot_int (pa_cons (pe_op op_mul (pe_op op_mul (pv 0) (pe_op op_add pe_int (pe_op op_mul pe_int (pv 1)))) pe_int) pa_nil)) pe_int)
          (pe_op op_mul (pe_op op_mul pe_int (pv 1)) (pv 1))) (pe_op op_mul pe_int (pv 1))))
      (pss_one (ps_ret (pe_op op_fdiv (pe_op op_mod (pe_callTy call_intI (by rfl) T.int PyProof.Rows.boot_int (pa_cons (pe_op op_mul (pv 2) pe_int) pa_nil)) pe_int) pe_int))), ?_⟩
    walk_at "rd"
    exact k _ (by omega) (by omega)
abbrev sFolded : Stmt := top 32
theorem scFolded : FnScope ["script", "found", "n", "cell"] ["script"] (defScope sFolded) := ⟨rfl, rfl, rfl, by decide +kernel, rfl, by decide +kernel, by decide +kernel⟩
theorem ok_folded {f : Addr} {fd : FuncData} (F : L2.Fun K "_law_folded" "_law_folded" sFolded f fd) (T : Blt mg) : FnOk P w K mg base CX0 1 f fd ["script"] (spFolded K) := by
  refine F.ok scFolded (fun vs H Q E h => ?_) (fun cdv A outer s H vs Q E hr h => ?_)
  · obtain ⟨a, ns, rfl, _⟩ := h
    rfl
  · obtain ⟨a, ns, rfl, hS, hz, k⟩ := h
    refine ⟨_, pss_cons (ps_setLc (i := 1) (own := [("n", 2)]) (g := gName 2) (tt := tYes) rfl scFolded.nd rfl rfl (sw_true rfl rfl rfl (by decide +kernel)) (pi_range1 rfl T.range (pa_cons pe_int pa_nil)) (blkOk_by (N := ["script", "found", "n", "cell"]) (sc := defScope sFolded) (by decide +kernel))
        (fun _ _ _ _ _ => pg_name (i := 2) scFolded.nd rfl (Or.inl rfl)) (fun _ _ _ _ _ => pts_nil) (fun _ _ _ _ _ => pe_op op_add pe_int (pv 2)))
      (pss_cons (ps_for PassesOwn.never rfl (pi_enum (by rfl) T.enumerate (pa_cons (pv 0) pa_nil)) (pg_tup rfl (pgs_cons (pg_name (i := 2) scFolded.nd rfl (Or.inl rfl)) (pgs_cons (pg_name (i := 3) scFolded.nd rfl (Or.inl rfl)) pgs_nil)))
        (pss_one (ps_asg (pe_op op_mod (pe_callTy call_intI (by rfl) T.int PyProof.Rows.boot_int (pa_cons (pe_op op_add (pe_op op_mul (pe_ix ix_list (pv 1) (pe_op op_mod (pe_callTy call_intI (by rfl) T.int PyProof.Rows.boot_int (pa_cons (pv 2) pa_nil)) pe_int) (fun _ _ => rfl)) pe_int) (pv 3)) pa_nil)) pe_int)
          (pg_sub (pv 1) (pe_op op_mod (pe_callTy call_intI (by rfl) T.int PyProof.Rows.boot_int (pa_cons (pv 2) pa_nil)) pe_int) set_list))))
      (pss_cons (ps_for PassesOwn.never rfl (pi_range2 rfl T.range (pa_cons pe_int (pa_cons pe_int pa_nil))) (pg_name (i := 2) scFolded.nd rfl (Or.inl rfl))
        (pss_one (ps_asg (pe_op op_mod (pe_callTy call_intI (by rfl) T.int PyProof.Rows.boot_int (pa_cons (pe_op op_add (pe_ix ix_list (pv 1) (pv 2) (fun _ _ => rfl)) (pe_op op_mul (pe_ix ix_list (pv 1) (pe_op op_sub (pv 2) pe_int) (fun _ _ => rfl)) pe_int)) pa_nil)) pe_int)
          (pg_sub (pv 1) (pv 2) set_list))))
      (pss_one (ps_ret (pv 1))))), ?_⟩
    walk_at "rd"
    refine ⟨64, rfl, by decide, by decide, fun D hD => lc_range (lo := 0) (n := 64) (fun i H' => ∃ cs : List Int, cs.length = i ∧ (∀ c ∈ cs, 0 ≤ c ∧ c < 2147483647) ∧ H' D = some (.lst (cs.map V.int)) ∧ Same H H')
      ⟨[], rfl, by simp, upd_same, same_new hD⟩ ?_ ?_⟩
    · rintro i H' hi ⟨cs, hl, hc, hD', hs⟩
      refine ⟨rfl, r_yes ?_⟩
      walk_at "rd"
      refine ⟨_, hD', ?_, ?_⟩
      · rw [List.length_map]; exact sz2 (by omega)
      · refine ⟨cs ++ [17 + (0 + (i : Int))], by rw [List.length_append, hl]; rfl, fun c hm => ?_, ?_, same_mut hs hD⟩
        · rcases List.mem_append.mp hm with z | z
          · exact hc c z
          · rw [List.mem_singleton.mp z]; omega
        · rw [upd_same, List.map_append]; rfl
    · rintro H' ⟨cs, hl, hc, hD', hs⟩
      walk_at "rd"
      refine ⟨_, rfl, a, _, rfl, hs.seq hS, for_it (walk_enum (K := K) (a := a) (xs := ns.map V.int)) (fun i σ H2 => ∃ (cs : List Int) (x y : Option V), σ = [some (.ref a), some (.ref D), x, y] ∧ Cells cs ∧ H2 D = some (.lst (cs.map V.int)) ∧ Same H H2)
        ⟨cs, _, _, rfl, ⟨hl, hc⟩, hD', hs⟩ (fun i σ H2 _ z => by obtain ⟨_, _, _, _, _, _, z⟩ := z; exact z.seq hS) ?_ ?_⟩
      · rintro i v σ H2 H3 hi ⟨cs, x, y, rfl, hC, hD2, s2⟩ ⟨T, x', y', rfl, nT, rfl, e1, e2⟩
        cases e1
        replace e2 : (List.map V.int ns)[i]? = some y' := e2
        obtain ⟨z, rfl⟩ : ∃ z, y' = V.int z := by
          rw [List.getElem?_map] at e2
          cases q : ns[i]? with
          | none => rw [q] at e2; cases e2
          | some z => rw [q] at e2; cases e2; exact ⟨z, rfl⟩
        have hT : ∀ {u : HO}, (upd H2 T u) D = some (.lst (cs.map V.int)) := fun {u} => by rw [upd_ne (ne_of_none hD2 nT)]; exact hD2
        have sT : ∀ {u : HO}, Same H (upd H2 T u) := fun {u} => s2.trans (same_new nT)
        have hlt : i % 64 < cs.length := by rw [hC.len]; omega
        obtain ⟨c, hc1, hc2⟩ := at_int hlt
        have hb := hC.low c hc1
        refine ⟨T, _, rfl, SqT.of upd_same, rfl, _, _, rfl, _, _, rfl, rfl, ?_⟩
        walk_at "rd"
        refine r_ixL hT (by rw [show ((i : Int) % 64) = ((i % 64 : Nat) : Int) by omega]; exact hc2) ?_
        walk_at "rd"
        refine r_setL hT (j := i % 64) (by rw [List.length_map, show ((i : Int) % 64) = ((i % 64 : Nat) : Int) by omega]; exact ixN_int hlt) ?_
        rw [map_set]
        exact ⟨_, _, _, rfl, hC.set _ (by omega) (by omega), upd_same, same_mut sT hD⟩
      · rintro σ H2 ⟨cs, x, y, rfl, hC, hD2, s2⟩
        walk_at "rd"
        refine ⟨1, 64, rfl, ⟨by decide, by decide, by decide, by decide⟩, for_range (lo := 1) (n := 63) (fun i σ H2 => ∃ (cs : List Int) (x y : Option V), σ = [some (.ref a), some (.ref D), x, y] ∧ Cells cs ∧ H2 D = some (.lst (cs.map V.int)) ∧ Same H H2)
          ⟨cs, _, _, rfl, hC, hD2, s2⟩ ?_ ?_⟩
        · rintro i σ H2 hi ⟨cs, x, y, rfl, hC, hD2, s2⟩
          have l1 : i + 1 < cs.length := by rw [hC.len]; omega
          have l2 : i < cs.length := by rw [hC.len]; omega
          obtain ⟨c, hc1, hc2⟩ := at_int l1
          obtain ⟨d, hd1, hd2⟩ := at_int l2
          have hb := hC.low c hc1
          have hb2 := hC.low d hd1
          walk_at "rd"
          refine r_ixL hD2 (by rw [show ((1 : Int) + (i : Int)) = ((i + 1 : Nat) : Int) by omega]; exact hc2) ?_
          walk_at "rd"
          refine r_ixL hD2 (by rw [show ((1 : Int) + (i : Int) - 1) = ((i : Nat) : Int) by omega]; exact hd2) ?_
          walk_at "rd"
          refine r_setL hD2 (j := i + 1) (by rw [List.length_map, show ((1 : Int) + (i : Int)) = ((i + 1 : Nat) : Int) by omega]; exact ixN_int l1) ?_
          rw [map_set]
          exact ⟨_, _, _, rfl, hC.set _ (by omega) (by omega), upd_same, same_mut s2 hD⟩
        · rintro σ H2 ⟨cs, x, y, rfl, hC, hD2, s2⟩
          walk_at "rd"
          exact k _ D cs hD s2 hC hD2
abbrev sDraw : Stmt := top 33
theorem scDraw : FnScope ["m", "limit", "n", "lot", "here", "cell"] ["m", "limit"] (defScope sDraw) := ⟨rfl, rfl, rfl, by decide +kernel, rfl, by decide +kernel, by decide +kernel⟩
theorem ok_draw {f fM : Addr} {fd fdM : FuncData} (F : L2.Fun K "_law_draw" "_law_draw" sDraw f fd) (T : Blt mg) (FM : L2.Fun K "_law_mixed" "_law_mixed" sMixed fM fdM) (gM : mg "_law_mixed" = some (.ref fM)) (bM : Binds K fdM ["cell", "n"] []) : FnOk P w K mg base CX0 2 f fd ["m", "limit"] spDraw := by
  have GM : FnOk P w K mg base CX0 1 fM fdM ["cell", "n"] spMixed := ok_mixed FM T
  refine F.ok scDraw (fun vs H Q E h => ?_) (fun cdv A outer s H vs Q E hr h => ?_)
  · obtain ⟨m, c, g, r, l, rfl, _⟩ := h
    rfl
  · obtain ⟨m, c, g, r, l, rfl, l0, l1, ⟨⟨n, cs, gs, h1, h2, h3, hC, hg, hn⟩, ne⟩, k⟩ := h
    have hu := hu_of hr
    have kpM : PySem.W.keepIn K (.ref fM) = true := FM.kp
    refine ⟨_, pss_cons (ps_set (i := 2) scDraw.nd rfl (Or.inl rfl) (pe_dget hu (pv 0) pe_str (fun _ _ => rfl)))
      (pss_cons (ps_dput hu (pv 0) pe_str (pe_op op_add (pv 2) pe_int) rfl)
      (pss_cons (ps_if (pt_cmpR (op_neD hr.units) (pe_dget hu (pv 0) pe_str (fun _ _ => rfl)) (pe_lst pa_nil) (nomark _))
        (pss_cons (ps_set (i := 3) scDraw.nd rfl (Or.inl rfl) (pe_dget hu (pv 0) pe_str (fun _ _ => rfl)))
        (pss_cons (ps_set (i := 4) scDraw.nd rfl (Or.inl rfl) (pe_op op_mod (pe_callTy call_intI (by rfl) T.int PyProof.Rows.boot_int (pa_cons (pv 2) pa_nil)) (pe_callB call_len_seq (by rfl) T.len PySem.boot_len (pa_cons (pv 3) pa_nil))))
        (pss_cons (ps_set (i := 5) scDraw.nd rfl (Or.inl rfl) (pe_ix ix_list (pv 3) (pv 4) (fun _ _ => rfl)))
        (pss_one (ps_if (pt_cmpR op_gt (pv 5) pe_int (nomark _))
          (pss_cons (ps_asg (pe_op op_fdiv (pv 5) (pv 1)) (pg_sub (pv 3) (pv 4) set_list))
          (pss_one (ps_ret (pe_op op_mod (pe_callTy call_intI (by rfl) T.int PyProof.Rows.boot_int (pa_cons (pv 5) pa_nil)) (pv 1))))) pss_nil))))) pss_nil)
      (pss_cons (ps_set (i := 3) scDraw.nd rfl (Or.inl rfl) (pe_dget hu (pv 0) pe_str (fun _ _ => rfl)))
      (pss_one (ps_ret (pe_op op_mod (pe_callTy call_intI (by rfl) T.int PyProof.Rows.boot_int (pa_cons
        (pe_call GM hr rfl gM kpM bM .nil pass0 (pa_cons (pe_call GM hr rfl gM kpM bM .nil pass0 (pa_cons (pe_op op_add (pe_ix ix_list (pv 3) (pe_op op_mod (pe_callTy call_intI (by rfl) T.int PyProof.Rows.boot_int (pa_cons (pv 2) pa_nil)) pe_int) (fun _ _ => rfl)) (pe_op op_mul pe_int (pe_op op_fdiv (pv 2) pe_int))) (pa_cons (pv 2) pa_nil)))
          (pa_cons (pe_op op_add (pv 2) pe_int) pa_nil))) pa_nil)) (pv 1))))))), ?_⟩
    -- n = m["spot"]; m["spot"] = n + 1
    have mc : c ≠ m := fun e => by rw [e, h1] at h2; cases h2
    have mg' : g ≠ m := fun e => by rw [e, h1] at h3; cases h3
    have c2 : ∀ u, (upd H m u) c = some (.lst (cs.map V.int)) := fun u => by rw [upd_ne mc]; exact h2
    have g2 : ∀ u, (upd H m u) g = some (.lst (gs.map V.int)) := fun u => by rw [upd_ne mg']; exact h3
    walk_at "rd"
    refine ⟨m, _, rfl, dg_spot h1, ?_⟩
    walk_at "rd"
    refine ⟨m, _, rfl, dp_spot h1, ?_⟩
    have hm : (upd H m (.dK (kvM c g ((n : Int) + 1)))) m = some (.dK (kvM c g ((n : Int) + 1))) := upd_same
    generalize hH1 : upd H m (.dK (kvM c g ((n : Int) + 1))) = H1
    have c3 : H1 c = some (.lst (cs.map V.int)) := by rw [← hH1]; exact c2 _
    have g3 : H1 g = some (.lst (gs.map V.int)) := by rw [← hH1]; exact g2 _
    rw [hH1] at hm
    have kp1 : Kp m g H H1 := fun b o b1 b2 e => by rw [← hH1, upd_ne b1]; exact e
    have cast1 : ((n : Int) + 1) = ((n + 1 : Nat) : Int) := by omega
    -- if m["great"] != []
    walk_at "rd"
    refine ⟨m, _, rfl, dg_great hm, ?_⟩
    walk_at "rd"
    refine ⟨Nat.zero_le _, fun p np => ?_⟩
    have sp : Same H1 (upd H1 p (.lst [])) := same_new np
    refine r_neD (d := .lst (gs.map D.int)) (e := .lst []) (.lst (sp _ _ g3) (dts gs)) (.lst upd_same .nil) (pl_ints gs) rfl (depth_ints gs) (by decide) ?_
    refine r_bl ?_
    have hm2 := sp _ _ hm
    have g4 := sp _ _ g3
    have c4 := sp _ _ c3
    have kp2 : Kp m g H (upd H1 p (.lst [])) := kp1.tr (Kp.of sp)
    generalize upd H1 p (.lst []) = H2 at hm2 g4 c4 kp2 ⊢
    have e0 : PyData.eqv (D.lst (gs.map D.int)).py (D.lst []).py = gs.isEmpty := eqv_nil gs
    rw [e0]
    have fin : ∀ (v : Int) (H3 : Hp) (gs' : List Int), 0 ≤ v → v < l → H3 m = some (.dK (kvM c g ((n : Int) + 1))) → H3 c = some (.lst (cs.map V.int)) → H3 g = some (.lst (gs'.map V.int)) → gs'.length ≤ 63 → Kp m g H H3 → Q (.int v) H3 := fun v H3 gs' v0 v1 a1 a2 a3 a4 a5 =>
      k v H3 v0 v1 ⟨⟨n + 1, cs, gs', by rw [a1, cast1], a2, a3, hC, a4, by omega⟩, ne⟩ a5
    cases gs with
    | nil =>
      refine r_ifF rfl ?_
      walk_at "rd"
      refine ⟨m, _, rfl, dg_cells hm2, ?_⟩
      walk_at "rd"
      have hlt : n % 64 < cs.length := by rw [hC.len]; omega
      obtain ⟨x, hx1, hx2⟩ := at_int hlt
      have hb := hC.low x hx1
      refine r_ixL c4 (by rw [show ((n : Int) % 64) = ((n % 64 : Nat) : Int) by omega]; exact hx2) ?_
      walk_at "rd"
      refine ⟨_, _, rfl, by omega, by omega, by omega, by omega, fun v v0 v1 => ?_⟩
      walk_at "rd"
      refine ⟨_, _, rfl, by omega, by omega, by omega, by omega, fun v' v0' v1' => ?_⟩
      walk_at "rd"
      exact fin _ H2 [] (Int.emod_nonneg _ (by omega)) (Int.emod_lt_of_pos _ l0) hm2 c4 g4 hg kp2
    | cons a0 gs0 =>
      refine r_ifT rfl ?_
      walk_at "rd"
      refine ⟨m, _, rfl, dg_great hm2, ?_⟩
      walk_at "rd"
      refine ⟨g, _, rfl, Or.inl (SqL.of g4), ?_⟩
      have len0 : ((List.map V.int (a0 :: gs0)).length : Int) = ((gs0.length + 1 : Nat) : Int) := by simp
      rw [len0]
      walk_at "rd"
      have hlt : n % (gs0.length + 1) < (a0 :: gs0).length := Nat.mod_lt _ (Nat.succ_pos _)
      have em : ((n : Int) % ((gs0.length + 1 : Nat) : Int)) = ((n % (gs0.length + 1) : Nat) : Int) := by simp
      obtain ⟨x, hx1, hx2⟩ := at_int hlt
      refine r_ixL g4 (by rw [em]; exact hx2) ?_
      walk_at "rd"
      by_cases xp : 0 < x
      · refine r_ifT (decide_eq_true xp) ?_
        walk_at "rd"
        refine r_setL g4 (j := n % (gs0.length + 1)) (by rw [List.length_map, em]; exact ixN_int hlt) ?_
        walk_at "rd"
        rw [map_set]
        have gm : ∀ u, (upd H2 g u) m = some (.dK (kvM c g ((n : Int) + 1))) := fun u => by rw [upd_ne (Ne.symm mg')]; exact hm2
        have gc : ∀ u, (upd H2 g u) c = some (.lst (cs.map V.int)) := fun u => by rw [upd_ne ne]; exact c4
        exact fin _ _ _ (Int.emod_nonneg _ (by omega)) (Int.emod_lt_of_pos _ l0) (gm _) (gc _) upd_same (by rw [List.length_set]; exact hg) fun b o b1 b2 e => by rw [upd_ne b2]; exact kp2 b o b1 b2 e
      · refine r_ifF (decide_eq_false xp) ?_
        walk_at "rd"
        refine ⟨m, _, rfl, dg_cells hm2, ?_⟩
        walk_at "rd"
        have hlt : n % 64 < cs.length := by rw [hC.len]; omega
        obtain ⟨x, hx1, hx2⟩ := at_int hlt
        have hb := hC.low x hx1
        refine r_ixL c4 (by rw [show ((n : Int) % 64) = ((n % 64 : Nat) : Int) by omega]; exact hx2) ?_
        walk_at "rd"
        refine ⟨_, _, rfl, by omega, by omega, by omega, by omega, fun v v0 v1 => ?_⟩
        walk_at "rd"
        refine ⟨_, _, rfl, by omega, by omega, by omega, by omega, fun v' v0' v1' => ?_⟩
        walk_at "rd"
        exact fin _ H2 _ (Int.emod_nonneg _ (by omega)) (Int.emod_lt_of_pos _ l0) hm2 c4 g4 hg kp2
abbrev sBegun : Stmt := top 34
theorem scBegun : FnScope ["script", "m", "cell"] ["script"] (defScope sBegun) := ⟨rfl, rfl, rfl, by decide +kernel, rfl, by decide +kernel, by decide +kernel⟩
theorem ok_begun {f fF : Addr} {fd fdF : FuncData} (F : L2.Fun K "_law_begun" "_law_begun" sBegun f fd) (T : Blt mg) (FF : L2.Fun K "_law_folded" "_law_folded" sFolded fF fdF) (gF : mg "_law_folded" = some (.ref fF)) (bF : Binds K fdF ["script"] []) : FnOk P w K mg base CX0 2 f fd ["script"] (spBegun K) := by
  have GF : FnOk P w K mg base CX0 1 fF fdF ["script"] (spFolded K) := ok_folded FF T
  refine F.ok scBegun (fun vs H Q E h => ?_) (fun cdv A outer s H vs Q E hr h => ?_)
  · obtain ⟨a, ns, rfl, _⟩ := h
    rfl
  · obtain ⟨a, ns, rfl, hS, hz, k⟩ := h
    have hu := hu_of hr
    have kpF : PySem.W.keepIn K (.ref fF) = true := FF.kp
    refine ⟨_, pss_cons (ps_set (i := 1) scBegun.nd rfl (Or.inl rfl) (pe_disp (pps_cons pe_str (pe_call GF hr rfl gF kpF bF .nil pass0 (pa_cons (pv 0) pa_nil)) (pps_cons pe_str (pe_lst pa_nil) (pps_cons pe_str pe_int pps_nil))) (by rfl) (by rfl) (fun z => by cases z) (by decide)))
      (pss_cons (ps_dput hu (pv 1) pe_str (pe_lc (own := [("cell", 2)]) (g := gName 2) (tt := tYes) rfl scBegun.nd (pi_list (pv 0)) (blkOk_by (N := ["script", "m", "cell"]) (sc := defScope sBegun) (by decide +kernel))
        (fun _ _ _ _ _ => pg_name (i := 2) scBegun.nd rfl (Or.inl rfl)) (fun _ _ _ _ _ => pts_nil) (fun _ _ _ _ _ => pe_ifExp (pt_cmpR op_ge (pv 2) (pe_op op_pow pe_int pe_int) (nomark _)) (pv 2) pe_int)) rfl)
      (pss_one (ps_ret (pv 1)))), ?_⟩
    walk_at "rd"
    intro p np
    have hp : (upd H p (.dK [])) p = some (.dK []) := upd_same
    have s0 : Same H (upd H p (.dK [])) := same_new np
    refine ⟨_, rfl, a, ns, rfl, s0.seq hS, hz, fun H1 c cs nc s1 hC hc => ?_⟩
    refine ⟨Nat.zero_le _, fun g ng => ?_⟩
    have gp : g ≠ p := fun e => by rw [e, s1 _ _ hp] at ng; cases ng
    have gc : g ≠ c := fun e => by rw [e, hc] at ng; cases ng
    have pc : p ≠ c := fun e => by rw [← e, hp] at nc; cases nc
    have h0p : (upd H1 g (.lst [])) p = some (.dK []) := by rw [upd_ne (Ne.symm gp)]; exact s1 _ _ hp
    have h0c : (upd H1 g (.lst [])) c = some (.lst (cs.map V.int)) := by rw [upd_ne (Ne.symm gc)]; exact hc
    have h0g : (upd H1 g (.lst [])) g = some (.lst []) := upd_same
    have s2 : Same H (upd H1 g (.lst [])) := (s0.trans s1).trans (same_new ng)
    have fg : H g = none := (s0.trans s1).free ng
    have fc : H c = none := s0.free nc
    generalize upd H1 g (.lst []) = H2 at h0p h0c h0g s2 ⊢
    refine ⟨h0p, [(Sum.inr "cells", .ref c), (Sum.inr "great", .ref g), (Sum.inr "spot", .int 0)], rfl, (show 3 ≤ 15 by decide), ?_⟩

    have s3 : Same H (upd H2 p (.dK (kvM c g 0))) := same_mut s2 np
    have h3p : (upd H2 p (.dK (kvM c g 0))) p = some (.dK (kvM c g 0)) := upd_same
    have h3c : (upd H2 p (.dK (kvM c g 0))) c = some (.lst (cs.map V.int)) := by rw [upd_ne (Ne.symm pc)]; exact h0c
    change gName 1 (V.ref p) _ (upd H2 p (.dK (kvM c g 0))) _
    generalize upd H2 p (.dK (kvM c g 0)) = H3 at s3 h3p h3c ⊢
    walk_at "rd"
    refine ⟨_, rfl, a, rfl, ⟨_, s3.seq hS⟩, fun D hD => lc_list (K := K) (a := a) (xs := ns.map V.int) (fun i H' => ∃ gs : List Int, gs.length = i ∧ H' D = some (.lst (gs.map V.int)) ∧ Same H3 H')
      ⟨[], rfl, upd_same, same_new hD⟩ (fun i H' _ z => by obtain ⟨_, _, _, z⟩ := z; exact (s3.trans z).seq hS) ?_ ?_⟩
    · rintro i v H' hi ⟨gs, hl, hD', hs⟩
      obtain ⟨z, rfl⟩ : ∃ z, v = V.int z := by
        rw [List.getElem?_map] at hi
        cases q : ns[i]? with
        | none => rw [q] at hi; cases hi
        | some z => rw [q] at hi; cases hi; exact ⟨z, rfl⟩
      have il : i < 63 := by
        have := (List.getElem?_eq_some_iff.mp hi).1
        rw [List.length_map] at this
        omega
      refine ⟨rfl, r_yes ?_⟩
      have fin : ∀ y : Int, ∃ acc, H' D = some (.lst acc) ∧ acc.length < sizeLine ∧ ∃ gs : List Int, gs.length = i + 1 ∧ (upd H' D (.lst (acc ++ [V.int y]))) D = some (.lst (gs.map V.int)) ∧ Same H3 (upd H' D (.lst (acc ++ [V.int y]))) := fun y =>
        ⟨_, hD', by rw [List.length_map]; exact sz2 (by omega), gs ++ [y], by rw [List.length_append, hl]; rfl, by rw [upd_same, List.map_append]; rfl, same_mut hs hD⟩
      refine ⟨_, rfl, _, _, rfl, rfl, ⟨by decide, by decide, by decide⟩, _, _, rfl, rfl, _, rfl, ?_⟩
      refine ite2 (fun _ => ?_) (fun _ => ?_)
      · walk_at "rd"
        exact fin z
      · walk_at "rd"
        exact fin 0
    · rintro H' ⟨gs, hl, hD', hs⟩
      walk_at "rd"
      have h4p := hs _ _ h3p
      have h4c := hs _ _ h3c
      refine ⟨p, _, rfl, DPut.k (k := Sum.inr "great") h4p (show 3 < sizeLine by decide), ?_⟩
      walk_at "rd"
      have Dp : D ≠ p := fun e => by rw [e, h3p] at hD; cases hD
      have Dc : c ≠ D := fun e => by rw [← e, h3c] at hD; cases hD
      refine k _ p c D (same_mut (s3.trans hs) np) np fc (s3.free hD) ⟨⟨0, cs, gs, ?_, ?_, ?_, hC, ?_, by omega⟩, Dc⟩
      · exact upd_same
      · rw [upd_ne (Ne.symm pc)]; exact h4c
      · rw [upd_ne Dp]; exact hD'
      · have : gs.length = ns.length := by rw [hl, List.length_map]
        omega
end
end TSx

namespace TSx
open PySem L2
abbrev S__law_draw : SPEC := Sdraw
def cTIES : D := (.tup [(.str "a"), (.str "b"), (.str "kept")])
structure Cst (K : PySem.W.Frag) (mg : Str → Option Value) (pT : String → Addr) : Prop where
  MOST_BODIES : ∃ t, mg "MOST_BODIES" = some (.int 3 t)
  MOST_GROUPS : ∃ t, mg "MOST_GROUPS" = some (.int 4 t)
  MOST_MANY : ∃ t, mg "MOST_MANY" = some (.int 1000000000000000000000000000000 t)
  MOST_ROUND : ∃ t, mg "MOST_ROUND" = some (.int 12 t)
  MOST_TERM : ∃ t, mg "MOST_TERM" = some (.int 6 t)
  MOST_WARDS : ∃ t, mg "MOST_WARDS" = some (.int 4 t)
  TIES : mg "TIES" = some (.ref (pT "TIES"))
  dTIES : Dt K (fun _ => none) (.ref (pT "TIES")) cTIES
structure Ctx (K : PySem.W.Frag) (mg : Str → Option Value) (pT : String → Addr) : Prop where
  B : Blt mg
  Z : Blt2 mg
  Y : Blt3 mg
  C : Cst K mg pT
  glcm : mg "lcm" = some (.builtin "math.lcm")
  hmin : mg "min" = none
section
variable {P : Program} {w : World} {K : PySem.W.Frag} {mg : Str → Option Value} {base : Heap} {pT : String → Addr}
abbrev s__all_lots : Stmt := top 24
theorem sc__all_lots : FnScope ["groups", "lots", "_", "lot", "sign"] ["groups"] (defScope s__all_lots) := ⟨rfl, rfl, rfl, by decide +kernel, rfl, by decide +kernel, by decide +kernel⟩
def B__all_lots : SV := (sSeq (sAsg (eLst (aCons (eC (.str "")) aNil)) (gvName 1))
  (sSeq (sFor (iR1 (aCons (eVar 0) aNil)) (gvName 2)
  (sAsg (eLc2 (iLstD (eVar 1)) (gvName 3) vYes (iStrD (eC (.str "-ab"))) (gvName 4) vYes (eOp opCatS (eVar 3) (eVar 4)) [3, 4] [4]) (gvName 1)))
  (sRet (eVar 1))))
def S__all_lots : SPEC := runD 1 5 B__all_lots
theorem ok__all_lots {f : Addr} {fd : FuncData} (F : L2.Fun K "_all_lots" "_all_lots" s__all_lots f fd) (X : Ctx K mg pT) : FnOk P w K mg base CX0 1 f fd ["groups"] (spW K S__all_lots) := by
  obtain ⟨B, Z, Y, C, glcm, hmin⟩ := X
  exact F.ok sc__all_lots (fun vs H Q E h => spW_len rfl h) (fun cdv A outer s H vs Q E hr h => ⟨_, (pss_cons (ps_set (i := 1) sc__all_lots.nd rfl (Or.inl rfl) (pe_lst (pa_cons pe_str pa_nil)))
  (pss_cons (ps_for PassesOwn.never rfl (pi_range1 rfl B.range (pa_cons (pv 0) pa_nil)) (pg_name (i := 2) sc__all_lots.nd rfl (Or.inl rfl))
  (pss_one (ps_setLc2 (i := 1) (own := [("lot", 3), ("sign", 4)]) (vs1 := [4]) (g := gName 3) (tt := tYes) (g1 := gName 4) (tt1 := tYes) rfl sc__all_lots.nd rfl rfl (sw_true rfl rfl rfl (by decide +kernel)) (pi_list (pv 1)) (blkOk_by (N := ["groups", "lots", "_", "lot", "sign"]) (sc := defScope s__all_lots) (by decide +kernel)) (by decide) (fun _ _ _ _ _ => pg_name (i := 3) sc__all_lots.nd rfl (Or.inl rfl)) (fun _ _ _ _ _ => pts_nil) (fun _ _ _ _ _ => (pi_str pe_str)) (fun _ _ _ _ _ => pg_name (i := 4) sc__all_lots.nd rfl (Or.inl rfl)) (fun _ _ _ _ _ => pts_nil) (fun _ _ _ _ _ => (pe_op op_add_str (pv 3) (pv 4))))))
  (pss_one (ps_ret (pv 1))))), run_of (s := B__all_lots) (snd_seq (snd_asg (snd_lst (snd_cons snd_str snd_nil)) sndg_name)
  (snd_seq (snd_for (snd_iR1 (snd_cons snd_var snd_nil)) sndg_name
  (snd_asg (snd_lc2 (snd_iLst snd_var) sndg_name snd_yes (snd_iStr snd_str) sndg_name snd_yes (snd_op o_catS snd_var snd_var) (by decide) (by decide)) sndg_name))
  (snd_ret snd_var))) rfl h⟩)
abbrev s__side_of : Stmt := top 23
theorem sc__side_of : FnScope ["lot", "many", "first", "second", "sign", "size"] ["lot", "many"] (defScope s__side_of) := ⟨rfl, rfl, rfl, by decide +kernel, rfl, by decide +kernel, by decide +kernel⟩
def B__side_of : SV := (sSeq (sAsg (eCB cSum (aCons (eLc (iZST (aCons (eVar 0) (aCons (eVar 1) aNil))) (gvTup 2 (gvCons (gvName 4) (gvCons (gvName 5) gvNil))) (vE (eOp opEq (eVar 4) (eC (.str "a")))) (eVar 5) [4, 5]) aNil)) (gvName 2))
  (sSeq (sAsg (eCB cSum (aCons (eLc (iZST (aCons (eVar 0) (aCons (eVar 1) aNil))) (gvTup 2 (gvCons (gvName 4) (gvCons (gvName 5) gvNil))) (vE (eOp opEq (eVar 4) (eC (.str "b")))) (eVar 5) [4, 5]) aNil)) (gvName 3))
  (sSeq (sIf (vE (eOp opEq (eVar 2) (eVar 3))) (sRet (eC (.str "="))) sNext)
  (sRet (eIf (vE (eOp opGt (eVar 2) (eVar 3))) (eC (.str "a")) (eC (.str "b")))))))
def S__side_of : SPEC := runD 2 6 B__side_of
theorem ok__side_of {f : Addr} {fd : FuncData} (F : L2.Fun K "_side_of" "_side_of" s__side_of f fd) (X : Ctx K mg pT) : FnOk P w K mg base CX0 1 f fd ["lot", "many"] (spW K S__side_of) := by
  obtain ⟨B, Z, Y, C, glcm, hmin⟩ := X
  exact F.ok sc__side_of (fun vs H Q E h => spW_len rfl h) (fun cdv A outer s H vs Q E hr h => ⟨_, (pss_cons (ps_set (i := 2) sc__side_of.nd rfl (Or.inl rfl) (pe_callB (cr_sum rfl) (by rfl) Z.sum (by decide +kernel) (pa_cons (pe_lc (own := [("sign", 4), ("size", 5)]) (g := gTup K 2 (gCons (gName 4) (gCons (gName 5) gNil))) rfl sc__side_of.nd (pi_zipX (by rfl) Z.zip (pa_cons (pv 0) (pa_cons (pv 1) pa_nil))) (blkOk_by (N := ["lot", "many", "first", "second", "sign", "size"]) (sc := defScope s__side_of) (by decide +kernel)) (fun _ _ _ _ _ => pg_tup rfl (pgs_cons (pg_name (i := 4) sc__side_of.nd rfl (Or.inl rfl)) (pgs_cons (pg_name (i := 5) sc__side_of.nd rfl (Or.inl rfl)) pgs_nil))) (fun _ _ _ _ _ => (pts_one (pt_cmpR op_eq (pv 4) pe_str (nomark _)))) (fun _ _ _ _ _ => (pv 5))) pa_nil)))
  (pss_cons (ps_set (i := 3) sc__side_of.nd rfl (Or.inl rfl) (pe_callB (cr_sum rfl) (by rfl) Z.sum (by decide +kernel) (pa_cons (pe_lc (own := [("sign", 4), ("size", 5)]) (g := gTup K 2 (gCons (gName 4) (gCons (gName 5) gNil))) rfl sc__side_of.nd (pi_zipX (by rfl) Z.zip (pa_cons (pv 0) (pa_cons (pv 1) pa_nil))) (blkOk_by (N := ["lot", "many", "first", "second", "sign", "size"]) (sc := defScope s__side_of) (by decide +kernel)) (fun _ _ _ _ _ => pg_tup rfl (pgs_cons (pg_name (i := 4) sc__side_of.nd rfl (Or.inl rfl)) (pgs_cons (pg_name (i := 5) sc__side_of.nd rfl (Or.inl rfl)) pgs_nil))) (fun _ _ _ _ _ => (pts_one (pt_cmpR op_eq (pv 4) pe_str (nomark _)))) (fun _ _ _ _ _ => (pv 5))) pa_nil)))
  (pss_cons (ps_if (pt_cmpR op_eq (pv 2) (pv 3) (nomark _)) (pss_one (ps_ret pe_str)) pss_nil)
  (pss_one (ps_ret (pe_ifExp (pt_cmpR op_gt (pv 2) (pv 3) (nomark _)) pe_str pe_str)))))), run_of (s := B__side_of) (snd_seq (snd_asg (snd_cb c_sum (snd_cons (snd_lc (snd_iZST (snd_cons snd_var (snd_cons snd_var snd_nil))) (sndg_tup (sndg_cons sndg_name (sndg_cons sndg_name sndg_nil))) (snd_test (snd_op o_eq snd_var snd_str)) snd_var (by decide)) snd_nil)) sndg_name)
  (snd_seq (snd_asg (snd_cb c_sum (snd_cons (snd_lc (snd_iZST (snd_cons snd_var (snd_cons snd_var snd_nil))) (sndg_tup (sndg_cons sndg_name (sndg_cons sndg_name sndg_nil))) (snd_test (snd_op o_eq snd_var snd_str)) snd_var (by decide)) snd_nil)) sndg_name)
  (snd_seq (snd_ifS (snd_test (snd_op o_eq snd_var snd_var)) (snd_ret snd_str) snd_next)
  (snd_ret (snd_if (snd_test (snd_op o_gt snd_var snd_var)) snd_str snd_str))))) rfl h⟩)
abbrev s__body_pattern : Stmt := top 25
theorem sc__body_pattern : FnScope ["many", "lot"] ["many"] (defScope s__body_pattern) := ⟨rfl, rfl, rfl, by decide +kernel, rfl, by decide +kernel, by decide +kernel⟩
def B__body_pattern : SV := (sRet (eM1 mJoin (eC (.str "")) (eLc (iLstD (eCall S__all_lots (aCons (eCB cLen (aCons (eVar 0) aNil)) aNil))) (gvName 1) vYes (eCall S__side_of (aCons (eVar 1) (aCons (eVar 0) aNil))) [1])))
def S__body_pattern : SPEC := runD 1 2 B__body_pattern
theorem ok__body_pattern {f : Addr} {fd : FuncData} (F : L2.Fun K "_body_pattern" "_body_pattern" s__body_pattern f fd) (X : Ctx K mg pT) {f__all_lots : Addr} {fd__all_lots : FuncData} (d_all_lots : Dok P w K mg base 1 "_all_lots" ["groups"] (spW K S__all_lots) f__all_lots fd__all_lots) {f__side_of : Addr} {fd__side_of : FuncData} (d_side_of : Dok P w K mg base 1 "_side_of" ["lot", "many"] (spW K S__side_of) f__side_of fd__side_of) : FnOk P w K mg base CX0 2 f fd ["many"] (spW K S__body_pattern) := by
  obtain ⟨B, Z, Y, C, glcm, hmin⟩ := X
  exact F.ok sc__body_pattern (fun vs H Q E h => spW_len rfl h) (fun cdv A outer s H vs Q E hr h => ⟨_, (pss_one (ps_ret (pe_join pe_str (pe_lc (own := [("lot", 1)]) (g := gName 1) (tt := tYes) rfl sc__body_pattern.nd (pi_list (pe_call d_all_lots.G (hr.mono (by decide)) rfl d_all_lots.g d_all_lots.k d_all_lots.b .nil pass0 (pa_cons (pe_callB call_len_seq (by rfl) B.len PySem.boot_len (pa_cons (pv 0) pa_nil)) pa_nil))) (blkOk_by (N := ["many", "lot"]) (sc := defScope s__body_pattern) (by decide +kernel)) (fun _ _ _ _ _ => pg_name (i := 1) sc__body_pattern.nd rfl (Or.inl rfl)) (fun _ _ _ _ _ => pts_nil) (fun _ _ _ _ _ => (pe_call d_side_of.G (hr.mono (by decide)) rfl d_side_of.g d_side_of.k d_side_of.b .nil pass0 (pa_cons (pv 1) (pa_cons (pv 0) pa_nil)))))))), run_of (s := B__body_pattern) (snd_ret (snd_m1 m_join snd_str (snd_lc (snd_iLst (snd_call (snd_cons (snd_cb c_len (snd_cons snd_var snd_nil)) snd_nil))) sndg_name snd_yes (snd_call (snd_cons snd_var (snd_cons snd_var snd_nil))) (by decide)))) rfl h⟩)
abbrev s__sizes : Stmt := top 22
theorem sc__sizes : FnScope ["wide", "groups", "group"] ["wide"] (defScope s__sizes) := ⟨rfl, rfl, rfl, by decide +kernel, rfl, by decide +kernel, by decide +kernel⟩
def B__sizes : SV := (sRet (eCB cTup (aCons (eLc (iTupD (eOp opIxT (eVar 0) (eC (.int 0)))) (gvName 1) vYes (eCB cTup (aCons (eLc (iTupD (eVar 1)) (gvName 2) vYes (eOp opIxT (eVar 2) (eC (.int 3))) [2]) aNil)) [1]) aNil)))
def S__sizes : SPEC := runD 1 3 B__sizes
theorem ok__sizes {f : Addr} {fd : FuncData} (F : L2.Fun K "_sizes" "_sizes" s__sizes f fd) (X : Ctx K mg pT) : FnOk P w K mg base CX0 1 f fd ["wide"] (spW K S__sizes) := by
  obtain ⟨B, Z, Y, C, glcm, hmin⟩ := X
  exact F.ok sc__sizes (fun vs H Q E h => spW_len rfl h) (fun cdv A outer s H vs Q E hr h => ⟨_, (pss_one (ps_ret (pe_callTy call_tuple_of (by rfl) Z.tuple (by decide +kernel) (pa_cons (pe_lc (own := [("groups", 1)]) (g := gName 1) (tt := tYes) rfl sc__sizes.nd (pi_tup (pe_ix ix_tup (pv 0) pe_int (fun _ _ => rfl))) (blkOk_by (N := ["wide", "groups", "group"]) (sc := defScope s__sizes) (by decide +kernel)) (fun _ _ _ _ _ => pg_name (i := 1) sc__sizes.nd rfl (Or.inl rfl)) (fun _ _ _ _ _ => pts_nil) (fun _ _ _ _ _ => (pe_callTy (T := "tuple") (call_tuple_ofK (K := K) rfl) (by rfl) Z.tuple (by decide +kernel) (pa_cons (pe_lc (own := [("group", 2)]) (g := gName 2) (tt := tYes) rfl sc__sizes.nd (pi_tupK (K := K) rfl (pv 1)) (blkOk_by (by rfl)) (fun _ _ _ _ _ => pg_name (i := 2) sc__sizes.nd rfl (Or.inl rfl)) (fun _ _ _ _ _ => pts_nil) (fun _ _ _ _ _ => (pe_ix (ix_tupK (K := K) rfl) (pv 2) pe_int (fun _ _ => rfl)))) pa_nil)))) pa_nil)))), run_of (s := B__sizes) (snd_ret (snd_cb c_tup (snd_cons (snd_lc (snd_iTup (snd_op o_ixT snd_var snd_int)) sndg_name snd_yes (snd_cb c_tup (snd_cons (snd_lc (snd_iTup snd_var) sndg_name snd_yes (snd_op o_ixT snd_var snd_int) (by decide)) snd_nil)) (by decide)) snd_nil))) rfl h⟩)
abbrev s__pattern : Stmt := top 26
theorem sc__pattern : FnScope ["wide", "many"] ["wide"] (defScope s__pattern) := ⟨rfl, rfl, rfl, by decide +kernel, rfl, by decide +kernel, by decide +kernel⟩
def B__pattern : SV := (sRet (eCB cTup (aCons (eLc (iTupD (eCall S__sizes (aCons (eVar 0) aNil))) (gvName 1) vYes (eCall S__body_pattern (aCons (eVar 1) aNil)) [1]) aNil)))
def S__pattern : SPEC := runD 1 2 B__pattern
theorem ok__pattern {f : Addr} {fd : FuncData} (F : L2.Fun K "_pattern" "_pattern" s__pattern f fd) (X : Ctx K mg pT) {f__body_pattern : Addr} {fd__body_pattern : FuncData} (d_body_pattern : Dok P w K mg base 2 "_body_pattern" ["many"] (spW K S__body_pattern) f__body_pattern fd__body_pattern) {f__sizes : Addr} {fd__sizes : FuncData} (d_sizes : Dok P w K mg base 1 "_sizes" ["wide"] (spW K S__sizes) f__sizes fd__sizes) : FnOk P w K mg base CX0 3 f fd ["wide"] (spW K S__pattern) := by
  obtain ⟨B, Z, Y, C, glcm, hmin⟩ := X
  exact F.ok sc__pattern (fun vs H Q E h => spW_len rfl h) (fun cdv A outer s H vs Q E hr h => ⟨_, (pss_one (ps_ret (pe_callTy call_tuple_of (by rfl) Z.tuple (by decide +kernel) (pa_cons (pe_lc (own := [("many", 1)]) (g := gName 1) (tt := tYes) rfl sc__pattern.nd (pi_tup (pe_call d_sizes.G (hr.mono (by decide)) rfl d_sizes.g d_sizes.k d_sizes.b .nil pass0 (pa_cons (pv 0) pa_nil))) (blkOk_by (N := ["wide", "many"]) (sc := defScope s__pattern) (by decide +kernel)) (fun _ _ _ _ _ => pg_name (i := 1) sc__pattern.nd rfl (Or.inl rfl)) (fun _ _ _ _ _ => pts_nil) (fun _ _ _ _ _ => (pe_call d_body_pattern.G (hr.mono (by decide)) rfl d_body_pattern.g d_body_pattern.k d_body_pattern.b .nil pass0 (pa_cons (pv 1) pa_nil)))) pa_nil)))), run_of (s := B__pattern) (snd_ret (snd_cb c_tup (snd_cons (snd_lc (snd_iTup (snd_call (snd_cons snd_var snd_nil))) sndg_name snd_yes (snd_call (snd_cons snd_var snd_nil)) (by decide)) snd_nil))) rfl h⟩)
abbrev s_is_tuple : Stmt := top 11
theorem sc_is_tuple : FnScope ["value", "least", "most"] ["value", "least", "most"] (defScope s_is_tuple) := ⟨rfl, rfl, rfl, by decide +kernel, rfl, by decide +kernel, by decide +kernel⟩
def B_is_tuple : SV := (sRet (eAnd (eIsi "tuple" (eVar 0)) (eChain opLe opLe (eVar 1) (eCB cLen (aCons (eVar 0) aNil)) (eVar 2))))
def S_is_tuple : SPEC := runD 3 3 B_is_tuple
theorem ok_is_tuple {f : Addr} {fd : FuncData} (F : L2.Fun K "is_tuple" "is_tuple" s_is_tuple f fd) (X : Ctx K mg pT) : FnOk P w K mg base CX0 1 f fd ["value", "least", "most"] (spW K S_is_tuple) := by
  obtain ⟨B, Z, Y, C, glcm, hmin⟩ := X
  exact F.ok sc_is_tuple (fun vs H Q E h => spW_len rfl h) (fun cdv A outer s H vs Q E hr h => ⟨_, (pss_one (ps_ret (pe_and (pe_callB call_isi (by rfl) B.isinstance PyProof.Rows.boot_isinstance (pa_cons (pv 0) (pa_cons (pe_bltn (v := .ty "tuple") (by rfl) Z.tuple (by decide +kernel) rfl) pa_nil))) (pe_one (pe_chain op_le op_le (pv 1) (pe_callB call_len_seq (by rfl) B.len PySem.boot_len (pa_cons (pv 0) pa_nil)) (pv 2)))))), run_of (s := B_is_tuple) (snd_ret (snd_and (snd_isi snd_var) (snd_chain o_le o_le snd_var (snd_cb c_len (snd_cons snd_var snd_nil)) snd_var))) rfl h⟩)
abbrev s_is_whole : Stmt := top 10
theorem sc_is_whole : FnScope ["value", "least", "most"] ["value", "least", "most"] (defScope s_is_whole) := ⟨rfl, rfl, rfl, by decide +kernel, rfl, by decide +kernel, by decide +kernel⟩
def B_is_whole : SV := (sRet (eAnd (eIsi "int" (eVar 0)) (eAnd (eNot (eIsi "bool" (eVar 0))) (eChain opLe opLe (eVar 1) (eVar 0) (eVar 2)))))
def S_is_whole : SPEC := runD 3 3 B_is_whole
theorem ok_is_whole {f : Addr} {fd : FuncData} (F : L2.Fun K "is_whole" "is_whole" s_is_whole f fd) (X : Ctx K mg pT) : FnOk P w K mg base CX0 1 f fd ["value", "least", "most"] (spW K S_is_whole) := by
  obtain ⟨B, Z, Y, C, glcm, hmin⟩ := X
  exact F.ok sc_is_whole (fun vs H Q E h => spW_len rfl h) (fun cdv A outer s H vs Q E hr h => ⟨_, (pss_one (ps_ret (pe_and (pe_callB call_isi (by rfl) B.isinstance PyProof.Rows.boot_isinstance (pa_cons (pv 0) (pa_cons (pe_bltn (v := .ty "int") (by rfl) Z.int (by decide +kernel) rfl) pa_nil))) (pe_and (pe_not (pe_callB call_isi (by rfl) B.isinstance PyProof.Rows.boot_isinstance (pa_cons (pv 0) (pa_cons (pe_bltn (v := .ty "bool") (by rfl) Z.bool (by decide +kernel) rfl) pa_nil)))) (pe_one (pe_chain op_le op_le (pv 1) (pv 0) (pv 2))))))), run_of (s := B_is_whole) (snd_ret (snd_and (snd_isi snd_var) (snd_and (snd_not (snd_isi snd_var)) (snd_chain o_le o_le snd_var snd_var snd_var)))) rfl h⟩)
abbrev s_is_word : Stmt := top 12
theorem sc_is_word : FnScope ["value", "words"] ["value", "words"] (defScope s_is_word) := ⟨rfl, rfl, rfl, by decide +kernel, rfl, by decide +kernel, by decide +kernel⟩
def B_is_word : SV := (sRet (eAnd (eIsi "str" (eVar 0)) (eOp opInQ (eVar 0) (eVar 1))))
def S_is_word : SPEC := runD 2 2 B_is_word
theorem ok_is_word {f : Addr} {fd : FuncData} (F : L2.Fun K "is_word" "is_word" s_is_word f fd) (X : Ctx K mg pT) : FnOk P w K mg base CX0 1 f fd ["value", "words"] (spW K S_is_word) := by
  obtain ⟨B, Z, Y, C, glcm, hmin⟩ := X
  exact F.ok sc_is_word (fun vs H Q E h => spW_len rfl h) (fun cdv A outer s H vs Q E hr h => ⟨_, (pss_one (ps_ret (pe_and (pe_callB call_isi (by rfl) B.isinstance PyProof.Rows.boot_isinstance (pa_cons (pv 0) (pa_cons (pe_bltn (v := .ty "str") (by rfl) Z.str (by decide +kernel) rfl) pa_nil))) (pe_one (pe_cmpR op_in_seq (pv 0) (pv 1) rfl))))), run_of (s := B_is_word) (snd_ret (snd_and (snd_isi snd_var) (snd_op o_inQ snd_var snd_var))) rfl h⟩)
abbrev s_is_way : Stmt := top 13
theorem sc_is_way : FnScope ["value", "many_bodies", "wards", "word", "body", "tie"] ["value", "many_bodies", "wards"] (defScope s_is_way) := ⟨rfl, rfl, rfl, by decide +kernel, rfl, by decide +kernel, by decide +kernel⟩
def B_is_way : SV := (sSeq (sIf (vNot (vE (eCall S_is_tuple (aCons (eVar 0) (aCons (eC (.int 1)) (aCons (eC (.int 3)) aNil)))))) (sRet (eC (.bl false))) sNext)
  (sSeq (sIf (vE (eOp opEq (eCB cLen (aCons (eVar 0) aNil)) (eC (.int 1)))) (sRet (eCall S_is_word (aCons (eOp opIxT (eVar 0) (eC (.int 0))) (aCons (eTup (aCons (eC (.str "kept")) aNil)) aNil)))) sNext)
  (sSeq (sIf (vE (eOp opEq (eCB cLen (aCons (eVar 0) aNil)) (eC (.int 2)))) (sRet (eAnd (eCall S_is_word (aCons (eOp opIxT (eVar 0) (eC (.int 0))) (aCons (eTup (aCons (eC (.str "ward")) aNil)) aNil))) (eCall S_is_whole (aCons (eOp opIxT (eVar 0) (eC (.int 1))) (aCons (eC (.int 0)) (aCons (eOp opSub (eVar 2) (eC (.int 1))) aNil)))))) sNext)
  (sSeq (sAsg (eVar 0) (gvTup 3 (gvCons (gvName 3) (gvCons (gvName 4) (gvCons (gvName 5) gvNil)))))
  (sSeq (sIf (vOr (vNot (vE (eCall S_is_word (aCons (eVar 3) (aCons (eTup (aCons (eC (.str "body")) (aCons (eC (.str "rest")) aNil))) aNil))))) (vNot (vE (eCall S_is_word (aCons (eVar 5) (aCons (eC cTIES) aNil)))))) (sRet (eC (.bl false))) sNext)
  (sRet (eCall S_is_whole (aCons (eVar 4) (aCons (eC (.int 0)) (aCons (eOp opSub (eVar 1) (eC (.int 1))) aNil))))))))))
def S_is_way : SPEC := runD 3 6 B_is_way
theorem ok_is_way {f : Addr} {fd : FuncData} (F : L2.Fun K "is_way" "is_way" s_is_way f fd) (X : Ctx K mg pT) {f_is_tuple : Addr} {fd_is_tuple : FuncData} (dis_tuple : Dok P w K mg base 1 "is_tuple" ["value", "least", "most"] (spW K S_is_tuple) f_is_tuple fd_is_tuple) {f_is_whole : Addr} {fd_is_whole : FuncData} (dis_whole : Dok P w K mg base 1 "is_whole" ["value", "least", "most"] (spW K S_is_whole) f_is_whole fd_is_whole) {f_is_word : Addr} {fd_is_word : FuncData} (dis_word : Dok P w K mg base 1 "is_word" ["value", "words"] (spW K S_is_word) f_is_word fd_is_word) : FnOk P w K mg base CX0 2 f fd ["value", "many_bodies", "wards"] (spW K S_is_way) := by
  obtain ⟨B, Z, Y, C, glcm, hmin⟩ := X
  exact F.ok sc_is_way (fun vs H Q E h => spW_len rfl h) (fun cdv A outer s H vs Q E hr h => ⟨_, (pss_cons (ps_if (pt_not (pt_val (pe_call dis_tuple.G (hr.mono (by decide)) rfl dis_tuple.g dis_tuple.k dis_tuple.b .nil pass0 (pa_cons (pv 0) (pa_cons pe_int (pa_cons pe_int pa_nil)))))) (pss_one (ps_ret pe_bl)) pss_nil)
  (pss_cons (ps_if (pt_cmpR op_eq (pe_callB call_len_seq (by rfl) B.len PySem.boot_len (pa_cons (pv 0) pa_nil)) pe_int (nomark _)) (pss_one (ps_ret (pe_call dis_word.G (hr.mono (by decide)) rfl dis_word.g dis_word.k dis_word.b .nil pass0 (pa_cons (pe_ix ix_tup (pv 0) pe_int (fun _ _ => rfl)) (pa_cons (pe_tup (pa_cons pe_str pa_nil)) pa_nil))))) pss_nil)
  (pss_cons (ps_if (pt_cmpR op_eq (pe_callB call_len_seq (by rfl) B.len PySem.boot_len (pa_cons (pv 0) pa_nil)) pe_int (nomark _)) (pss_one (ps_ret (pe_and (pe_call dis_word.G (hr.mono (by decide)) rfl dis_word.g dis_word.k dis_word.b .nil pass0 (pa_cons (pe_ix ix_tup (pv 0) pe_int (fun _ _ => rfl)) (pa_cons (pe_tup (pa_cons pe_str pa_nil)) pa_nil))) (pe_one (pe_call dis_whole.G (hr.mono (by decide)) rfl dis_whole.g dis_whole.k dis_whole.b .nil pass0 (pa_cons (pe_ix ix_tup (pv 0) pe_int (fun _ _ => rfl)) (pa_cons pe_int (pa_cons (pe_op op_sub (pv 2) pe_int) pa_nil)))))))) pss_nil)
  (pss_cons (ps_asg (pv 0) (pg_tup rfl (pgs_cons (pg_name (i := 3) sc_is_way.nd rfl (Or.inl rfl)) (pgs_cons (pg_name (i := 4) sc_is_way.nd rfl (Or.inl rfl)) (pgs_cons (pg_name (i := 5) sc_is_way.nd rfl (Or.inl rfl)) pgs_nil)))))
  (pss_cons (ps_if (PW.pt (pw_or (pt_not (pt_val (pe_call dis_word.G (hr.mono (by decide)) rfl dis_word.g dis_word.k dis_word.b .nil pass0 (pa_cons (pv 3) (pa_cons (pe_tup (pa_cons pe_str (pa_cons pe_str pa_nil))) pa_nil))))) (pw_or1 (pt_not (pt_val (pe_call dis_word.G (hr.mono (by decide)) rfl dis_word.g dis_word.k dis_word.b .nil pass0 (pa_cons (pv 5) (pa_cons (pe_cstR rfl C.TIES) pa_nil)))))))) (pss_one (ps_ret pe_bl)) pss_nil)
  (pss_one (ps_ret (pe_call dis_whole.G (hr.mono (by decide)) rfl dis_whole.g dis_whole.k dis_whole.b .nil pass0 (pa_cons (pv 4) (pa_cons pe_int (pa_cons (pe_op op_sub (pv 1) pe_int) pa_nil))))))))))), run_of (s := B_is_way) (snd_seq (snd_ifS (snd_tnot (snd_tb (snd_call (snd_cons snd_var (snd_cons snd_int (snd_cons snd_int snd_nil)))))) (snd_ret snd_bl) snd_next)
  (snd_seq (snd_ifS (snd_test (snd_op o_eq (snd_cb c_len (snd_cons snd_var snd_nil)) snd_int)) (snd_ret (snd_call (snd_cons (snd_op o_ixT snd_var snd_int) (snd_cons (snd_tup (snd_cons snd_str snd_nil)) snd_nil)))) snd_next)
  (snd_seq (snd_ifS (snd_test (snd_op o_eq (snd_cb c_len (snd_cons snd_var snd_nil)) snd_int)) (snd_ret (snd_and (snd_call (snd_cons (snd_op o_ixT snd_var snd_int) (snd_cons (snd_tup (snd_cons snd_str snd_nil)) snd_nil))) (snd_call (snd_cons (snd_op o_ixT snd_var snd_int) (snd_cons snd_int (snd_cons (snd_op o_sub snd_var snd_int) snd_nil)))))) snd_next)
  (snd_seq (snd_asg snd_var (sndg_tup (sndg_cons sndg_name (sndg_cons sndg_name (sndg_cons sndg_name sndg_nil)))))
  (snd_seq (snd_ifS (snd_tor (snd_tnot (snd_tb (snd_call (snd_cons snd_var (snd_cons (snd_tup (snd_cons snd_str (snd_cons snd_str snd_nil))) snd_nil))))) (snd_tnot (snd_tb (snd_call (snd_cons snd_var (snd_cons (snd_c C.dTIES) snd_nil)))))) (snd_ret snd_bl) snd_next)
  (snd_ret (snd_call (snd_cons snd_var (snd_cons snd_int (snd_cons (snd_op o_sub snd_var snd_int) snd_nil)))))))))) rfl h⟩)
abbrev s_is_seat : Stmt := top 14
theorem sc_is_seat : FnScope ["value", "many_bodies", "wards", "term", "phase", "way"] ["value", "many_bodies", "wards"] (defScope s_is_seat) := ⟨rfl, rfl, rfl, by decide +kernel, rfl, by decide +kernel, by decide +kernel⟩
def B_is_seat : SV := (sSeq (sIf (vNot (vE (eCall S_is_tuple (aCons (eVar 0) (aCons (eC (.int 3)) (aCons (eC (.int 3)) aNil)))))) (sRet (eC (.bl false))) sNext)
  (sSeq (sAsg (eVar 0) (gvTup 3 (gvCons (gvName 3) (gvCons (gvName 4) (gvCons (gvName 5) gvNil)))))
  (sSeq (sIf (vOr (vNot (vE (eCall S_is_whole (aCons (eVar 3) (aCons (eC (.int 1)) (aCons (eC (.int 6)) aNil)))))) (vNot (vE (eCall S_is_whole (aCons (eVar 4) (aCons (eC (.int 0)) (aCons (eOp opSub (eVar 3) (eC (.int 1))) aNil))))))) (sRet (eC (.bl false))) sNext)
  (sRet (eCall S_is_way (aCons (eVar 5) (aCons (eVar 1) (aCons (eVar 2) aNil))))))))
def S_is_seat : SPEC := runD 3 6 B_is_seat
theorem ok_is_seat {f : Addr} {fd : FuncData} (F : L2.Fun K "is_seat" "is_seat" s_is_seat f fd) (X : Ctx K mg pT) {f_is_tuple : Addr} {fd_is_tuple : FuncData} (dis_tuple : Dok P w K mg base 1 "is_tuple" ["value", "least", "most"] (spW K S_is_tuple) f_is_tuple fd_is_tuple) {f_is_way : Addr} {fd_is_way : FuncData} (dis_way : Dok P w K mg base 2 "is_way" ["value", "many_bodies", "wards"] (spW K S_is_way) f_is_way fd_is_way) {f_is_whole : Addr} {fd_is_whole : FuncData} (dis_whole : Dok P w K mg base 1 "is_whole" ["value", "least", "most"] (spW K S_is_whole) f_is_whole fd_is_whole) : FnOk P w K mg base CX0 3 f fd ["value", "many_bodies", "wards"] (spW K S_is_seat) := by
  obtain ⟨B, Z, Y, C, glcm, hmin⟩ := X
  exact F.ok sc_is_seat (fun vs H Q E h => spW_len rfl h) (fun cdv A outer s H vs Q E hr h => ⟨_, (pss_cons (ps_if (pt_not (pt_val (pe_call dis_tuple.G (hr.mono (by decide)) rfl dis_tuple.g dis_tuple.k dis_tuple.b .nil pass0 (pa_cons (pv 0) (pa_cons pe_int (pa_cons pe_int pa_nil)))))) (pss_one (ps_ret pe_bl)) pss_nil)
  (pss_cons (ps_asg (pv 0) (pg_tup rfl (pgs_cons (pg_name (i := 3) sc_is_seat.nd rfl (Or.inl rfl)) (pgs_cons (pg_name (i := 4) sc_is_seat.nd rfl (Or.inl rfl)) (pgs_cons (pg_name (i := 5) sc_is_seat.nd rfl (Or.inl rfl)) pgs_nil)))))
  (pss_cons (ps_if (PW.pt (pw_or (pt_not (pt_val (pe_call dis_whole.G (hr.mono (by decide)) rfl dis_whole.g dis_whole.k dis_whole.b .nil pass0 (pa_cons (pv 3) (pa_cons pe_int (pa_cons (pe_cstE rfl C.MOST_TERM) pa_nil)))))) (pw_or1 (pt_not (pt_val (pe_call dis_whole.G (hr.mono (by decide)) rfl dis_whole.g dis_whole.k dis_whole.b .nil pass0 (pa_cons (pv 4) (pa_cons pe_int (pa_cons (pe_op op_sub (pv 3) pe_int) pa_nil))))))))) (pss_one (ps_ret pe_bl)) pss_nil)
  (pss_one (ps_ret (pe_call dis_way.G (hr.mono (by decide)) rfl dis_way.g dis_way.k dis_way.b .nil pass0 (pa_cons (pv 5) (pa_cons (pv 1) (pa_cons (pv 2) pa_nil))))))))), run_of (s := B_is_seat) (snd_seq (snd_ifS (snd_tnot (snd_tb (snd_call (snd_cons snd_var (snd_cons snd_int (snd_cons snd_int snd_nil)))))) (snd_ret snd_bl) snd_next)
  (snd_seq (snd_asg snd_var (sndg_tup (sndg_cons sndg_name (sndg_cons sndg_name (sndg_cons sndg_name sndg_nil)))))
  (snd_seq (snd_ifS (snd_tor (snd_tnot (snd_tb (snd_call (snd_cons snd_var (snd_cons snd_int (snd_cons snd_int snd_nil)))))) (snd_tnot (snd_tb (snd_call (snd_cons snd_var (snd_cons snd_int (snd_cons (snd_op o_sub snd_var snd_int) snd_nil))))))) (snd_ret snd_bl) snd_next)
  (snd_ret (snd_call (snd_cons snd_var (snd_cons snd_var (snd_cons snd_var snd_nil)))))))) rfl h⟩)
abbrev s__is_group : Stmt := top 19
theorem sc__is_group : FnScope ["value", "many_bodies", "wards"] ["value", "many_bodies", "wards"] (defScope s__is_group) := ⟨rfl, rfl, rfl, by decide +kernel, rfl, by decide +kernel, by decide +kernel⟩
def B__is_group : SV := (sSeq (sIf (vOr (vNot (vE (eCall S_is_tuple (aCons (eVar 0) (aCons (eC (.int 4)) (aCons (eC (.int 4)) aNil)))))) (vNot (vE (eCall S_is_seat (aCons (eSl slT (eVar 0) oNo (oPart (eC (.int 3)))) (aCons (eVar 1) (aCons (eVar 2) aNil))))))) (sRet (eC (.bl false))) sNext)
  (sRet (eCall S_is_whole (aCons (eOp opIxT (eVar 0) (eC (.int 3))) (aCons (eC (.int 1)) (aCons (eC (.int 1000000000000000000000000000000)) aNil))))))
def S__is_group : SPEC := runD 3 3 B__is_group
theorem ok__is_group {f : Addr} {fd : FuncData} (F : L2.Fun K "_is_group" "_is_group" s__is_group f fd) (X : Ctx K mg pT) {f_is_seat : Addr} {fd_is_seat : FuncData} (dis_seat : Dok P w K mg base 3 "is_seat" ["value", "many_bodies", "wards"] (spW K S_is_seat) f_is_seat fd_is_seat) {f_is_tuple : Addr} {fd_is_tuple : FuncData} (dis_tuple : Dok P w K mg base 1 "is_tuple" ["value", "least", "most"] (spW K S_is_tuple) f_is_tuple fd_is_tuple) {f_is_whole : Addr} {fd_is_whole : FuncData} (dis_whole : Dok P w K mg base 1 "is_whole" ["value", "least", "most"] (spW K S_is_whole) f_is_whole fd_is_whole) : FnOk P w K mg base CX0 4 f fd ["value", "many_bodies", "wards"] (spW K S__is_group) := by
  obtain ⟨B, Z, Y, C, glcm, hmin⟩ := X
  exact F.ok sc__is_group (fun vs H Q E h => spW_len rfl h) (fun cdv A outer s H vs Q E hr h => ⟨_, (pss_cons (ps_if (PW.pt (pw_or (pt_not (pt_val (pe_call dis_tuple.G (hr.mono (by decide)) rfl dis_tuple.g dis_tuple.k dis_tuple.b .nil pass0 (pa_cons (pv 0) (pa_cons pe_int (pa_cons pe_int pa_nil)))))) (pw_or1 (pt_not (pt_val (pe_call dis_seat.G (hr.mono (by decide)) rfl dis_seat.g dis_seat.k dis_seat.b .nil pass0 (pa_cons (pe_slice sl_tupA (pv 0) po_none (po_some pe_int)) (pa_cons (pv 1) (pa_cons (pv 2) pa_nil))))))))) (pss_one (ps_ret pe_bl)) pss_nil)
  (pss_one (ps_ret (pe_call dis_whole.G (hr.mono (by decide)) rfl dis_whole.g dis_whole.k dis_whole.b .nil pass0 (pa_cons (pe_ix ix_tup (pv 0) pe_int (fun _ _ => rfl)) (pa_cons pe_int (pa_cons (pe_cstE rfl C.MOST_MANY) pa_nil))))))), run_of (s := B__is_group) (snd_seq (snd_ifS (snd_tor (snd_tnot (snd_tb (snd_call (snd_cons snd_var (snd_cons snd_int (snd_cons snd_int snd_nil)))))) (snd_tnot (snd_tb (snd_call (snd_cons (snd_sl sl_T snd_var sndo_no (sndo_part snd_int)) (snd_cons snd_var (snd_cons snd_var snd_nil))))))) (snd_ret snd_bl) snd_next)
  (snd_ret (snd_call (snd_cons (snd_op o_ixT snd_var snd_int) (snd_cons snd_int (snd_cons snd_int snd_nil)))))) rfl h⟩)
abbrev s__need_groups : Stmt := top 21
theorem sc__need_groups : FnScope ["groups", "number", "many_bodies", "wards", "place", "group"] ["groups", "number", "many_bodies", "wards"] (defScope s__need_groups) := ⟨rfl, rfl, rfl, by decide +kernel, rfl, by decide +kernel, by decide +kernel⟩
def B__need_groups : SV := (sSeq (sIf (vNot (vE (eCall S_is_tuple (aCons (eVar 0) (aCons (eC (.int 1)) (aCons (eC (.int 4)) aNil)))))) sNever sNext)
  (sFor (iEnD (aCons (eVar 0) aNil)) (gvTup 2 (gvCons (gvName 4) (gvCons (gvName 5) gvNil)))
  (sIf (vNot (vE (eCall S__is_group (aCons (eVar 5) (aCons (eVar 2) (aCons (eVar 3) aNil)))))) sNever sNext)))
def S__need_groups : SPEC := runD 4 6 B__need_groups
theorem ok__need_groups {f : Addr} {fd : FuncData} (F : L2.Fun K "_need_groups" "_need_groups" s__need_groups f fd) (X : Ctx K mg pT) {f__is_group : Addr} {fd__is_group : FuncData} (d_is_group : Dok P w K mg base 4 "_is_group" ["value", "many_bodies", "wards"] (spW K S__is_group) f__is_group fd__is_group) {f_is_tuple : Addr} {fd_is_tuple : FuncData} (dis_tuple : Dok P w K mg base 1 "is_tuple" ["value", "least", "most"] (spW K S_is_tuple) f_is_tuple fd_is_tuple) : FnOk P w K mg base CX0 5 f fd ["groups", "number", "many_bodies", "wards"] (spW K S__need_groups) := by
  obtain ⟨B, Z, Y, C, glcm, hmin⟩ := X
  exact F.ok sc__need_groups (fun vs H Q E h => spW_len rfl h) (fun cdv A outer s H vs Q E hr h => ⟨_, (pss_cons (ps_if (pt_not (pt_val (pe_call dis_tuple.G (hr.mono (by decide)) rfl dis_tuple.g dis_tuple.k dis_tuple.b .nil pass0 (pa_cons (pv 0) (pa_cons pe_int (pa_cons (pe_cstE rfl C.MOST_GROUPS) pa_nil)))))) (pss_one ps_never) pss_nil)
  (pss_one (ps_for PassesOwn.never rfl (pi_enumT (by rfl) B.enumerate (pa_cons (pv 0) pa_nil)) (pg_tup rfl (pgs_cons (pg_name (i := 4) sc__need_groups.nd rfl (Or.inl rfl)) (pgs_cons (pg_name (i := 5) sc__need_groups.nd rfl (Or.inl rfl)) pgs_nil)))
  (pss_one (ps_if (pt_not (pt_val (pe_call d_is_group.G (hr.mono (by decide)) rfl d_is_group.g d_is_group.k d_is_group.b .nil pass0 (pa_cons (pv 5) (pa_cons (pv 2) (pa_cons (pv 3) pa_nil)))))) (pss_one ps_never) pss_nil))))), run_of (s := B__need_groups) (snd_seq (snd_ifS (snd_tnot (snd_tb (snd_call (snd_cons snd_var (snd_cons snd_int (snd_cons snd_int snd_nil)))))) snd_never snd_next)
  (snd_for (snd_iEnT (snd_cons snd_var snd_nil)) (sndg_tup (sndg_cons sndg_name (sndg_cons sndg_name sndg_nil)))
  (snd_ifS (snd_tnot (snd_tb (snd_call (snd_cons snd_var (snd_cons snd_var (snd_cons snd_var snd_nil)))))) snd_never snd_next))) rfl h⟩)
abbrev s_common_term : Stmt := top 15
theorem sc_common_term : FnScope ["bodies", "common", "body", "seat"] ["bodies"] (defScope s_common_term) := ⟨rfl, rfl, rfl, by decide +kernel, rfl, by decide +kernel, by decide +kernel⟩
def B_common_term : SV := (sSeq (sAsg (eC (.int 1)) (gvName 1))
  (sSeq (sFor (iTupD (eVar 0)) (gvName 2)
  (sFor (iTupD (eVar 2)) (gvName 3)
  (sAsg (eCB cLcm (aCons (eVar 1) (aCons (eOp opIxT (eVar 3) (eC (.int 0))) aNil))) (gvName 1))))
  (sRet (eVar 1))))
def S_common_term : SPEC := runD 1 4 B_common_term
theorem ok_common_term {f : Addr} {fd : FuncData} (F : L2.Fun K "common_term" "common_term" s_common_term f fd) (X : Ctx K mg pT) : FnOk P w K mg base CX0 1 f fd ["bodies"] (spW K S_common_term) := by
  obtain ⟨B, Z, Y, C, glcm, hmin⟩ := X
  exact F.ok sc_common_term (fun vs H Q E h => spW_len rfl h) (fun cdv A outer s H vs Q E hr h => ⟨_, (pss_cons (ps_set (i := 1) sc_common_term.nd rfl (Or.inl rfl) pe_int)
  (pss_cons (ps_for PassesOwn.never rfl (pi_tup (pv 0)) (pg_name (i := 2) sc_common_term.nd rfl (Or.inl rfl))
  (pss_one (ps_for PassesOwn.never rfl (pi_tup (pv 2)) (pg_name (i := 3) sc_common_term.nd rfl (Or.inl rfl))
  (pss_one (ps_set (i := 1) sc_common_term.nd rfl (Or.inl rfl) (pe_callBfun cr_lcm rfl glcm (pa_cons (pv 1) (pa_cons (pe_ix ix_tup (pv 3) pe_int (fun _ _ => rfl)) pa_nil))))))))
  (pss_one (ps_ret (pv 1))))), run_of (s := B_common_term) (snd_seq (snd_asg snd_int sndg_name)
  (snd_seq (snd_for (snd_iTup snd_var) sndg_name
  (snd_for (snd_iTup snd_var) sndg_name
  (snd_asg (snd_cb c_lcm (snd_cons snd_var (snd_cons (snd_op o_ixT snd_var snd_int) snd_nil))) sndg_name)))
  (snd_ret snd_var))) rfl h⟩)
abbrev s_need_wide : Stmt := top 20
theorem sc_need_wide : FnScope ["wide", "bodies", "wards", "number", "groups"] ["wide"] (defScope s_need_wide) := ⟨rfl, rfl, rfl, by decide +kernel, rfl, by decide +kernel, by decide +kernel⟩
def B_need_wide : SV := (sSeq (sIf (vNot (vE (eCall S_is_tuple (aCons (eVar 0) (aCons (eC (.int 2)) (aCons (eC (.int 2)) aNil)))))) sNever sNext)
  (sSeq (sAsg (eVar 0) (gvTup 2 (gvCons (gvName 1) (gvCons (gvName 2) gvNil))))
  (sSeq (sIf (vNot (vE (eCall S_is_whole (aCons (eVar 2) (aCons (eC (.int 0)) (aCons (eC (.int 4)) aNil)))))) sNever sNext)
  (sSeq (sIf (vNot (vE (eCall S_is_tuple (aCons (eVar 1) (aCons (eC (.int 1)) (aCons (eC (.int 3)) aNil)))))) sNever sNext)
  (sSeq (sFor (iEnD (aCons (eVar 1) aNil)) (gvTup 2 (gvCons (gvName 3) (gvCons (gvName 4) gvNil)))
  (sDrop (eCall S__need_groups (aCons (eVar 4) (aCons (eVar 3) (aCons (eCB cLen (aCons (eVar 1) aNil)) (aCons (eVar 2) aNil)))))))
  (sSeq (sIf (vE (eOp opGt (eCall S_common_term (aCons (eVar 1) aNil)) (eC (.int 12)))) sNever sNext)
  (sRet (eVar 0))))))))
def S_need_wide : SPEC := runD 1 5 B_need_wide
theorem ok_need_wide {f : Addr} {fd : FuncData} (F : L2.Fun K "need_wide" "need_wide" s_need_wide f fd) (X : Ctx K mg pT) {f__need_groups : Addr} {fd__need_groups : FuncData} (d_need_groups : Dok P w K mg base 5 "_need_groups" ["groups", "number", "many_bodies", "wards"] (spW K S__need_groups) f__need_groups fd__need_groups) {f_common_term : Addr} {fd_common_term : FuncData} (dcommon_term : Dok P w K mg base 1 "common_term" ["bodies"] (spW K S_common_term) f_common_term fd_common_term) {f_is_tuple : Addr} {fd_is_tuple : FuncData} (dis_tuple : Dok P w K mg base 1 "is_tuple" ["value", "least", "most"] (spW K S_is_tuple) f_is_tuple fd_is_tuple) {f_is_whole : Addr} {fd_is_whole : FuncData} (dis_whole : Dok P w K mg base 1 "is_whole" ["value", "least", "most"] (spW K S_is_whole) f_is_whole fd_is_whole) : FnOk P w K mg base CX0 6 f fd ["wide"] (spW K S_need_wide) := by
  obtain ⟨B, Z, Y, C, glcm, hmin⟩ := X
  exact F.ok sc_need_wide (fun vs H Q E h => spW_len rfl h) (fun cdv A outer s H vs Q E hr h => ⟨_, (pss_cons (ps_if (pt_not (pt_val (pe_call dis_tuple.G (hr.mono (by decide)) rfl dis_tuple.g dis_tuple.k dis_tuple.b .nil pass0 (pa_cons (pv 0) (pa_cons pe_int (pa_cons pe_int pa_nil)))))) (pss_one ps_never) pss_nil)
  (pss_cons (ps_asg (pv 0) (pg_tup rfl (pgs_cons (pg_name (i := 1) sc_need_wide.nd rfl (Or.inl rfl)) (pgs_cons (pg_name (i := 2) sc_need_wide.nd rfl (Or.inl rfl)) pgs_nil))))
  (pss_cons (ps_if (pt_not (pt_val (pe_call dis_whole.G (hr.mono (by decide)) rfl dis_whole.g dis_whole.k dis_whole.b .nil pass0 (pa_cons (pv 2) (pa_cons pe_int (pa_cons (pe_cstE rfl C.MOST_WARDS) pa_nil)))))) (pss_one ps_never) pss_nil)
  (pss_cons (ps_if (pt_not (pt_val (pe_call dis_tuple.G (hr.mono (by decide)) rfl dis_tuple.g dis_tuple.k dis_tuple.b .nil pass0 (pa_cons (pv 1) (pa_cons pe_int (pa_cons (pe_cstE rfl C.MOST_BODIES) pa_nil)))))) (pss_one ps_never) pss_nil)
  (pss_cons (ps_for PassesOwn.never rfl (pi_enumT (by rfl) B.enumerate (pa_cons (pv 1) pa_nil)) (pg_tup rfl (pgs_cons (pg_name (i := 3) sc_need_wide.nd rfl (Or.inl rfl)) (pgs_cons (pg_name (i := 4) sc_need_wide.nd rfl (Or.inl rfl)) pgs_nil)))
  (pss_one (ps_expr (pe_call d_need_groups.G (hr.mono (by decide)) rfl d_need_groups.g d_need_groups.k d_need_groups.b .nil pass0 (pa_cons (pv 4) (pa_cons (pv 3) (pa_cons (pe_callB call_len_seq (by rfl) B.len PySem.boot_len (pa_cons (pv 1) pa_nil)) (pa_cons (pv 2) pa_nil))))))))
  (pss_cons (ps_if (pt_cmpR op_gt (pe_call dcommon_term.G (hr.mono (by decide)) rfl dcommon_term.g dcommon_term.k dcommon_term.b .nil pass0 (pa_cons (pv 1) pa_nil)) (pe_cstE rfl C.MOST_ROUND) (nomark _)) (pss_one ps_never) pss_nil)
  (pss_one (ps_ret (pv 0))))))))), run_of (s := B_need_wide) (snd_seq (snd_ifS (snd_tnot (snd_tb (snd_call (snd_cons snd_var (snd_cons snd_int (snd_cons snd_int snd_nil)))))) snd_never snd_next)
  (snd_seq (snd_asg snd_var (sndg_tup (sndg_cons sndg_name (sndg_cons sndg_name sndg_nil))))
  (snd_seq (snd_ifS (snd_tnot (snd_tb (snd_call (snd_cons snd_var (snd_cons snd_int (snd_cons snd_int snd_nil)))))) snd_never snd_next)
  (snd_seq (snd_ifS (snd_tnot (snd_tb (snd_call (snd_cons snd_var (snd_cons snd_int (snd_cons snd_int snd_nil)))))) snd_never snd_next)
  (snd_seq (snd_for (snd_iEnT (snd_cons snd_var snd_nil)) (sndg_tup (sndg_cons sndg_name (sndg_cons sndg_name sndg_nil)))
  (snd_drop (snd_call (snd_cons snd_var (snd_cons snd_var (snd_cons (snd_cb c_len (snd_cons snd_var snd_nil)) (snd_cons snd_var snd_nil)))))))
  (snd_seq (snd_ifS (snd_test (snd_op o_gt (snd_call (snd_cons snd_var snd_nil)) snd_int)) snd_never snd_next)
  (snd_ret snd_var))))))) rfl h⟩)
abbrev s_pattern : Stmt := top 27
theorem sc_pattern : FnScope ["wide"] ["wide"] (defScope s_pattern) := ⟨rfl, rfl, rfl, by decide +kernel, rfl, by decide +kernel, by decide +kernel⟩
def B_pattern : SV := (sSeq (sDrop (eCall S_need_wide (aCons (eVar 0) aNil)))
  (sRet (eCall S__pattern (aCons (eVar 0) aNil))))
def S_pattern : SPEC := runD 1 1 B_pattern
theorem ok_pattern {f : Addr} {fd : FuncData} (F : L2.Fun K "pattern" "pattern" s_pattern f fd) (X : Ctx K mg pT) {f__pattern : Addr} {fd__pattern : FuncData} (d_pattern : Dok P w K mg base 3 "_pattern" ["wide"] (spW K S__pattern) f__pattern fd__pattern) {f_need_wide : Addr} {fd_need_wide : FuncData} (dneed_wide : Dok P w K mg base 6 "need_wide" ["wide"] (spW K S_need_wide) f_need_wide fd_need_wide) : FnOk P w K mg base CX0 7 f fd ["wide"] (spW K S_pattern) := by
  obtain ⟨B, Z, Y, C, glcm, hmin⟩ := X
  exact F.ok sc_pattern (fun vs H Q E h => spW_len rfl h) (fun cdv A outer s H vs Q E hr h => ⟨_, (pss_cons (ps_expr (pe_call dneed_wide.G (hr.mono (by decide)) rfl dneed_wide.g dneed_wide.k dneed_wide.b .nil pass0 (pa_cons (pv 0) pa_nil)))
  (pss_one (ps_ret (pe_call d_pattern.G (hr.mono (by decide)) rfl d_pattern.g d_pattern.k d_pattern.b .nil pass0 (pa_cons (pv 0) pa_nil))))), run_of (s := B_pattern) (snd_seq (snd_drop (snd_call (snd_cons snd_var snd_nil)))
  (snd_ret (snd_call (snd_cons snd_var snd_nil)))) rfl h⟩)
abbrev s__without_many : Stmt := top 28
theorem sc__without_many : FnScope ["wide", "bodies", "wards", "groups", "group"] ["wide"] (defScope s__without_many) := ⟨rfl, rfl, rfl, by decide +kernel, rfl, by decide +kernel, by decide +kernel⟩
def B__without_many : SV := (sSeq (sAsg (eVar 0) (gvTup 2 (gvCons (gvName 1) (gvCons (gvName 2) gvNil))))
  (sRet (eTup (aCons (eCB cTup (aCons (eLc (iTupD (eVar 1)) (gvName 3) vYes (eCB cTup (aCons (eLc (iTupD (eVar 3)) (gvName 4) vYes (eSl slT (eVar 4) oNo (oPart (eC (.int 3)))) [4]) aNil)) [3]) aNil)) (aCons (eVar 2) aNil)))))
def S__without_many : SPEC := runD 1 5 B__without_many
theorem ok__without_many {f : Addr} {fd : FuncData} (F : L2.Fun K "_without_many" "_without_many" s__without_many f fd) (X : Ctx K mg pT) : FnOk P w K mg base CX0 1 f fd ["wide"] (spW K S__without_many) := by
  obtain ⟨B, Z, Y, C, glcm, hmin⟩ := X
  exact F.ok sc__without_many (fun vs H Q E h => spW_len rfl h) (fun cdv A outer s H vs Q E hr h => ⟨_, (pss_cons (ps_asg (pv 0) (pg_tup rfl (pgs_cons (pg_name (i := 1) sc__without_many.nd rfl (Or.inl rfl)) (pgs_cons (pg_name (i := 2) sc__without_many.nd rfl (Or.inl rfl)) pgs_nil))))
  (pss_one (ps_ret (pe_tup (pa_cons (pe_callTy call_tuple_of (by rfl) Z.tuple (by decide +kernel) (pa_cons (pe_lc (own := [("groups", 3)]) (g := gName 3) (tt := tYes) rfl sc__without_many.nd (pi_tup (pv 1)) (blkOk_by (N := ["wide", "bodies", "wards", "groups", "group"]) (sc := defScope s__without_many) (by decide +kernel)) (fun _ _ _ _ _ => pg_name (i := 3) sc__without_many.nd rfl (Or.inl rfl)) (fun _ _ _ _ _ => pts_nil) (fun _ _ _ _ _ => (pe_callTy (T := "tuple") (call_tuple_ofK (K := K) rfl) (by rfl) Z.tuple (by decide +kernel) (pa_cons (pe_lc (own := [("group", 4)]) (g := gName 4) (tt := tYes) rfl sc__without_many.nd (pi_tupK (K := K) rfl (pv 3)) (blkOk_by (by rfl)) (fun _ _ _ _ _ => pg_name (i := 4) sc__without_many.nd rfl (Or.inl rfl)) (fun _ _ _ _ _ => pts_nil) (fun _ _ _ _ _ => (pe_slice (sl_tupAK (K := K) rfl) (pv 4) po_none (po_some pe_int)))) pa_nil)))) pa_nil)) (pa_cons (pv 2) pa_nil)))))), run_of (s := B__without_many) (snd_seq (snd_asg snd_var (sndg_tup (sndg_cons sndg_name (sndg_cons sndg_name sndg_nil))))
  (snd_ret (snd_tup (snd_cons (snd_cb c_tup (snd_cons (snd_lc (snd_iTup snd_var) sndg_name snd_yes (snd_cb c_tup (snd_cons (snd_lc (snd_iTup snd_var) sndg_name snd_yes (snd_sl sl_T snd_var sndo_no (sndo_part snd_int)) (by decide)) snd_nil)) (by decide)) snd_nil)) (snd_cons snd_var snd_nil))))) rfl h⟩)
abbrev s_go_alike : Stmt := top 29
theorem sc_go_alike : FnScope ["wide", "other"] ["wide", "other"] (defScope s_go_alike) := ⟨rfl, rfl, rfl, by decide +kernel, rfl, by decide +kernel, by decide +kernel⟩
def B_go_alike : SV := (sSeq (sDrop (eCall S_need_wide (aCons (eVar 0) aNil)))
  (sSeq (sDrop (eCall S_need_wide (aCons (eVar 1) aNil)))
  (sRet (eAnd (eOp opEqD (eCall S__without_many (aCons (eVar 0) aNil)) (eCall S__without_many (aCons (eVar 1) aNil))) (eOp opEqD (eCall S__pattern (aCons (eVar 0) aNil)) (eCall S__pattern (aCons (eVar 1) aNil)))))))
def S_go_alike : SPEC := runD 2 2 B_go_alike
theorem ok_go_alike {f : Addr} {fd : FuncData} (F : L2.Fun K "go_alike" "go_alike" s_go_alike f fd) (X : Ctx K mg pT) {f__pattern : Addr} {fd__pattern : FuncData} (d_pattern : Dok P w K mg base 3 "_pattern" ["wide"] (spW K S__pattern) f__pattern fd__pattern) {f__without_many : Addr} {fd__without_many : FuncData} (d_without_many : Dok P w K mg base 1 "_without_many" ["wide"] (spW K S__without_many) f__without_many fd__without_many) {f_need_wide : Addr} {fd_need_wide : FuncData} (dneed_wide : Dok P w K mg base 6 "need_wide" ["wide"] (spW K S_need_wide) f_need_wide fd_need_wide) : FnOk P w K mg base CX0 7 f fd ["wide", "other"] (spW K S_go_alike) := by
  obtain ⟨B, Z, Y, C, glcm, hmin⟩ := X
  exact F.ok sc_go_alike (fun vs H Q E h => spW_len rfl h) (fun cdv A outer s H vs Q E hr h => ⟨_, (pss_cons (ps_expr (pe_call dneed_wide.G (hr.mono (by decide)) rfl dneed_wide.g dneed_wide.k dneed_wide.b .nil pass0 (pa_cons (pv 0) pa_nil)))
  (pss_cons (ps_expr (pe_call dneed_wide.G (hr.mono (by decide)) rfl dneed_wide.g dneed_wide.k dneed_wide.b .nil pass0 (pa_cons (pv 1) pa_nil)))
  (pss_one (ps_ret (pe_and (pe_cmpR (op_eqD hr.units) (pe_call d_without_many.G (hr.mono (by decide)) rfl d_without_many.g d_without_many.k d_without_many.b .nil pass0 (pa_cons (pv 0) pa_nil)) (pe_call d_without_many.G (hr.mono (by decide)) rfl d_without_many.g d_without_many.k d_without_many.b .nil pass0 (pa_cons (pv 1) pa_nil)) (nomark _)) (pe_one (pe_cmpR (op_eqD hr.units) (pe_call d_pattern.G (hr.mono (by decide)) rfl d_pattern.g d_pattern.k d_pattern.b .nil pass0 (pa_cons (pv 0) pa_nil)) (pe_call d_pattern.G (hr.mono (by decide)) rfl d_pattern.g d_pattern.k d_pattern.b .nil pass0 (pa_cons (pv 1) pa_nil)) (nomark _)))))))), run_of (s := B_go_alike) (snd_seq (snd_drop (snd_call (snd_cons snd_var snd_nil)))
  (snd_seq (snd_drop (snd_call (snd_cons snd_var snd_nil)))
  (snd_ret (snd_and (snd_op o_eqD (snd_call (snd_cons snd_var snd_nil)) (snd_call (snd_cons snd_var snd_nil))) (snd_op o_eqD (snd_call (snd_cons snd_var snd_nil)) (snd_call (snd_cons snd_var snd_nil))))))) rfl h⟩)
abbrev s__law_like : Stmt := top 35
theorem sc__law_like : FnScope ["answer", "due"] ["answer", "due"] (defScope s__law_like) := ⟨rfl, rfl, rfl, by decide +kernel, rfl, by decide +kernel, by decide +kernel⟩
def B__law_like : SV := (sRet (eOp opEq (eRepr (eVar 0)) (eRepr (eVar 1))))
def S__law_like : SPEC := runD 2 2 B__law_like
theorem ok__law_like {f : Addr} {fd : FuncData} (F : L2.Fun K "_law_like" "_law_like" s__law_like f fd) (X : Ctx K mg pT) : FnG P w K mg base CX0 1 f fd ["answer", "due"] (spW K S__law_like) :=
  fnG_of0 F sc__law_like (fun vs H Q E h => spW_len rfl h) (fun cdv A outer s H vs Q E g hr h => by
  have g2 := guards_deeper g (PyProof.Rows.envOfC "_law_like" (defScope s__law_like) s.heap.objs.size f cdv)
  obtain ⟨B, Z, Y, C, glcm, hmin⟩ := X
  exact ⟨_, (pss_one (ps_ret (pe_cmpR op_eq (pe_callB (call_reprD g2 hr.units) (by rfl) B.repr PyProof.Rows.boot_repr (pa_cons (pv 0) pa_nil)) (pe_callB (call_reprD g2 hr.units) (by rfl) B.repr PyProof.Rows.boot_repr (pa_cons (pv 1) pa_nil)) (nomark _)))), run_of (s := B__law_like) (snd_ret (snd_op o_eq (snd_repr snd_var) (snd_repr snd_var))) rfl h⟩)
abbrev s__law_of : Stmt := top 36
theorem sc__law_of : FnScope ["m", "some"] ["m", "some"] (defScope s__law_of) := ⟨rfl, rfl, rfl, by decide +kernel, rfl, by decide +kernel, by decide +kernel⟩
def B__law_of : SV := (sRet (eOp opIx (eVar 1) (eCall S__law_draw (aMemo 0 (aCons (eCB cLen (aCons (eVar 1) aNil)) aNil)))))
def S__law_of : SPEC := runD 2 2 B__law_of
theorem ok__law_of {f : Addr} {fd : FuncData} (F : L2.Fun K "_law_of" "_law_of" s__law_of f fd) (X : Ctx K mg pT) {f__law_draw : Addr} {fd__law_draw : FuncData} (d_law_draw : Dok P w K mg base 2 "_law_draw" ["m", "limit"] (spW K S__law_draw) f__law_draw fd__law_draw) : FnOk P w K mg base CX0 3 f fd ["m", "some"] (spW K S__law_of) := by
  obtain ⟨B, Z, Y, C, glcm, hmin⟩ := X
  exact F.ok sc__law_of (fun vs H Q E h => spW_len rfl h) (fun cdv A outer s H vs Q E hr h => ⟨_, (pss_one (ps_ret (pe_ix ix_seq (pv 1) (pe_call d_law_draw.G (hr.mono (by decide)) rfl d_law_draw.g d_law_draw.k d_law_draw.b .nil pass0 (pa_cons (pv 0) (pa_cons (pe_callB call_len_seq (by rfl) B.len PySem.boot_len (pa_cons (pv 1) pa_nil)) pa_nil))) (fun _ _ => rfl)))), run_of (s := B__law_of) (snd_ret (snd_op o_ix snd_var (snd_call (snd_memo (snd_cons (snd_cb c_len (snd_cons snd_var snd_nil)) snd_nil))))) rfl h⟩)
abbrev s__law_way : Stmt := top 37
theorem sc__law_way : FnScope ["m", "bodies", "wards", "kind"] ["m", "bodies", "wards"] (defScope s__law_way) := ⟨rfl, rfl, rfl, by decide +kernel, rfl, by decide +kernel, by decide +kernel⟩
def B__law_way : SV := (sSeq (sAsg (eCall S__law_draw (aMemo 0 (aCons (eC (.int 4)) aNil))) (gvName 3))
  (sSeq (sIf (vAnd (vE (eOp opEq (eVar 3) (eC (.int 0)))) (vE (eOp opGt (eVar 2) (eC (.int 0))))) (sRet (eTup (aCons (eC (.str "ward")) (aCons (eCall S__law_draw (aMemo 0 (aCons (eVar 2) aNil))) aNil)))) sNext)
  (sSeq (sIf (vE (eOp opLt (eVar 3) (eC (.int 3)))) (sRet (eTup (aCons (eOp opIxL (eLst (aCons (eC (.str "body")) (aCons (eC (.str "rest")) aNil))) (eCall S__law_draw (aMemo 0 (aCons (eC (.int 2)) aNil)))) (aCons (eCall S__law_draw (aMemo 0 (aCons (eVar 1) aNil))) (aCons (eCall S__law_of (aMemo 0 (aCons (eLst (aCons (eC (.str "a")) (aCons (eC (.str "b")) (aCons (eC (.str "kept")) aNil)))) aNil))) aNil))))) sNext)
  (sRet (eIf (vOr (vE (eOp opEq (eCall S__law_draw (aMemo 0 (aCons (eC (.int 3)) aNil))) (eC (.int 0)))) (vE (eOp opEq (eVar 2) (eC (.int 0))))) (eTup (aCons (eC (.str "kept")) aNil)) (eTup (aCons (eC (.str "ward")) (aCons (eCall S__law_draw (aMemo 0 (aCons (eVar 2) aNil))) aNil))))))))
def S__law_way : SPEC := runD 3 4 B__law_way
theorem ok__law_way {f : Addr} {fd : FuncData} (F : L2.Fun K "_law_way" "_law_way" s__law_way f fd) (X : Ctx K mg pT) {f__law_draw : Addr} {fd__law_draw : FuncData} (d_law_draw : Dok P w K mg base 2 "_law_draw" ["m", "limit"] (spW K S__law_draw) f__law_draw fd__law_draw) {f__law_of : Addr} {fd__law_of : FuncData} (d_law_of : Dok P w K mg base 3 "_law_of" ["m", "some"] (spW K S__law_of) f__law_of fd__law_of) : FnOk P w K mg base CX0 4 f fd ["m", "bodies", "wards"] (spW K S__law_way) := by
  obtain ⟨B, Z, Y, C, glcm, hmin⟩ := X
  exact F.ok sc__law_way (fun vs H Q E h => spW_len rfl h) (fun cdv A outer s H vs Q E hr h => ⟨_, (pss_cons (ps_set (i := 3) sc__law_way.nd rfl (Or.inl rfl) (pe_call d_law_draw.G (hr.mono (by decide)) rfl d_law_draw.g d_law_draw.k d_law_draw.b .nil pass0 (pa_cons (pv 0) (pa_cons pe_int pa_nil))))
  (pss_cons (ps_if (PW.pt (pw_and (pt_cmpR op_eq (pv 3) pe_int (nomark _)) (pw_and1 (pt_cmpR op_gt (pv 2) pe_int (nomark _))))) (pss_one (ps_ret (pe_tup (pa_cons pe_str (pa_cons (pe_call d_law_draw.G (hr.mono (by decide)) rfl d_law_draw.g d_law_draw.k d_law_draw.b .nil pass0 (pa_cons (pv 0) (pa_cons (pv 2) pa_nil))) pa_nil))))) pss_nil)
  (pss_cons (ps_if (pt_cmpR op_lt (pv 3) pe_int (nomark _)) (pss_one (ps_ret (pe_tup (pa_cons (pe_ix ix_list (pe_lst (pa_cons pe_str (pa_cons pe_str pa_nil))) (pe_call d_law_draw.G (hr.mono (by decide)) rfl d_law_draw.g d_law_draw.k d_law_draw.b .nil pass0 (pa_cons (pv 0) (pa_cons pe_int pa_nil))) (fun _ _ => rfl)) (pa_cons (pe_call d_law_draw.G (hr.mono (by decide)) rfl d_law_draw.g d_law_draw.k d_law_draw.b .nil pass0 (pa_cons (pv 0) (pa_cons (pv 1) pa_nil))) (pa_cons (pe_call d_law_of.G (hr.mono (by decide)) rfl d_law_of.g d_law_of.k d_law_of.b .nil pass0 (pa_cons (pv 0) (pa_cons (pe_lst (pa_cons pe_str (pa_cons pe_str (pa_cons pe_str pa_nil)))) pa_nil))) pa_nil)))))) pss_nil)
  (pss_one (ps_ret (pe_ifExp (PW.pt (pw_or (pt_cmpR op_eq (pe_call d_law_draw.G (hr.mono (by decide)) rfl d_law_draw.g d_law_draw.k d_law_draw.b .nil pass0 (pa_cons (pv 0) (pa_cons pe_int pa_nil))) pe_int (nomark _)) (pw_or1 (pt_cmpR op_eq (pv 2) pe_int (nomark _))))) (pe_tup (pa_cons pe_str pa_nil)) (pe_tup (pa_cons pe_str (pa_cons (pe_call d_law_draw.G (hr.mono (by decide)) rfl d_law_draw.g d_law_draw.k d_law_draw.b .nil pass0 (pa_cons (pv 0) (pa_cons (pv 2) pa_nil))) pa_nil))))))))), run_of (s := B__law_way) (snd_seq (snd_asg (snd_call (snd_memo (snd_cons snd_int snd_nil))) sndg_name)
  (snd_seq (snd_ifS (snd_tand (snd_test (snd_op o_eq snd_var snd_int)) (snd_test (snd_op o_gt snd_var snd_int))) (snd_ret (snd_tup (snd_cons snd_str (snd_cons (snd_call (snd_memo (snd_cons snd_var snd_nil))) snd_nil)))) snd_next)
  (snd_seq (snd_ifS (snd_test (snd_op o_lt snd_var snd_int)) (snd_ret (snd_tup (snd_cons (snd_op o_ixL (snd_lst (snd_cons snd_str (snd_cons snd_str snd_nil))) (snd_call (snd_memo (snd_cons snd_int snd_nil)))) (snd_cons (snd_call (snd_memo (snd_cons snd_var snd_nil))) (snd_cons (snd_call (snd_memo (snd_cons (snd_lst (snd_cons snd_str (snd_cons snd_str (snd_cons snd_str snd_nil)))) snd_nil))) snd_nil))))) snd_next)
  (snd_ret (snd_if (snd_tor (snd_test (snd_op o_eq (snd_call (snd_memo (snd_cons snd_int snd_nil))) snd_int)) (snd_test (snd_op o_eq snd_var snd_int))) (snd_tup (snd_cons snd_str snd_nil)) (snd_tup (snd_cons snd_str (snd_cons (snd_call (snd_memo (snd_cons snd_var snd_nil))) snd_nil)))))))) rfl h⟩)
abbrev s__law_seat : Stmt := top 38
theorem sc__law_seat : FnScope ["m", "terms", "bodies", "wards", "term"] ["m", "terms", "bodies", "wards"] (defScope s__law_seat) := ⟨rfl, rfl, rfl, by decide +kernel, rfl, by decide +kernel, by decide +kernel⟩
def B__law_seat : SV := (sSeq (sAsg (eCall S__law_of (aMemo 0 (aCons (eVar 1) aNil))) (gvName 4))
  (sRet (eTup (aCons (eVar 4) (aCons (eCall S__law_draw (aMemo 0 (aCons (eVar 4) aNil))) (aCons (eCall S__law_way (aMemo 0 (aCons (eVar 2) (aCons (eVar 3) aNil)))) aNil))))))
def S__law_seat : SPEC := runD 4 5 B__law_seat
theorem ok__law_seat {f : Addr} {fd : FuncData} (F : L2.Fun K "_law_seat" "_law_seat" s__law_seat f fd) (X : Ctx K mg pT) {f__law_draw : Addr} {fd__law_draw : FuncData} (d_law_draw : Dok P w K mg base 2 "_law_draw" ["m", "limit"] (spW K S__law_draw) f__law_draw fd__law_draw) {f__law_of : Addr} {fd__law_of : FuncData} (d_law_of : Dok P w K mg base 3 "_law_of" ["m", "some"] (spW K S__law_of) f__law_of fd__law_of) {f__law_way : Addr} {fd__law_way : FuncData} (d_law_way : Dok P w K mg base 4 "_law_way" ["m", "bodies", "wards"] (spW K S__law_way) f__law_way fd__law_way) : FnOk P w K mg base CX0 5 f fd ["m", "terms", "bodies", "wards"] (spW K S__law_seat) := by
  obtain ⟨B, Z, Y, C, glcm, hmin⟩ := X
  exact F.ok sc__law_seat (fun vs H Q E h => spW_len rfl h) (fun cdv A outer s H vs Q E hr h => ⟨_, (pss_cons (ps_set (i := 4) sc__law_seat.nd rfl (Or.inl rfl) (pe_call d_law_of.G (hr.mono (by decide)) rfl d_law_of.g d_law_of.k d_law_of.b .nil pass0 (pa_cons (pv 0) (pa_cons (pv 1) pa_nil))))
  (pss_one (ps_ret (pe_tup (pa_cons (pv 4) (pa_cons (pe_call d_law_draw.G (hr.mono (by decide)) rfl d_law_draw.g d_law_draw.k d_law_draw.b .nil pass0 (pa_cons (pv 0) (pa_cons (pv 4) pa_nil))) (pa_cons (pe_call d_law_way.G (hr.mono (by decide)) rfl d_law_way.g d_law_way.k d_law_way.b .nil pass0 (pa_cons (pv 0) (pa_cons (pv 2) (pa_cons (pv 3) pa_nil)))) pa_nil))))))), run_of (s := B__law_seat) (snd_seq (snd_asg (snd_call (snd_memo (snd_cons snd_var snd_nil))) sndg_name)
  (snd_ret (snd_tup (snd_cons snd_var (snd_cons (snd_call (snd_memo (snd_cons snd_var snd_nil))) (snd_cons (snd_call (snd_memo (snd_cons snd_var (snd_cons snd_var snd_nil)))) snd_nil)))))) rfl h⟩)
abbrev s__law_wide : Stmt := top 40
theorem sc__law_wide : FnScope ["m", "most", "sizes_so", "terms", "found", "k", "bodies", "wards", "some", "spot", "seat"] ["m", "most", "sizes_so"] (defScope s__law_wide) := ⟨rfl, rfl, rfl, by decide +kernel, rfl, by decide +kernel, by decide +kernel⟩
def B__law_wide : SV := (sSeq (sPar 6 7 (aCons (eOp opAdd (eC (.int 1)) (eCall S__law_draw (aMemo 0 (aCons (eVar 1) aNil)))) (aCons (eCall S__law_draw (aMemo 0 (aCons (eC (.int 4)) aNil))) aNil)))
  (sSeq (sAsg (eCall S__law_of (aMemo 0 (aCons (eLst (aCons (eTup (aCons (eC (.int 1)) (aCons (eC (.int 2)) aNil))) (aCons (eTup (aCons (eC (.int 1)) (aCons (eC (.int 2)) (aCons (eC (.int 4)) aNil)))) (aCons (eTup (aCons (eC (.int 2)) (aCons (eC (.int 3)) (aCons (eC (.int 6)) aNil)))) (aCons (eTup (aCons (eC (.int 1)) (aCons (eC (.int 3)) (aCons (eC (.int 4)) aNil)))) (aCons (eTup (aCons (eC (.int 6)) (aCons (eC (.int 4)) aNil))) (aCons (eTup (aCons (eC (.int 5)) aNil)) aNil))))))) aNil))) (gvName 3))
  (sSeq (sNew 4)
  (sSeq (sFor (iR1 (aCons (eVar 6) aNil)) (gvName 5)
  (sSeq (sNew 8)
  (sSeq (sFor (iR1 (aCons (eOp opAdd (eC (.int 1)) (eCall S__law_draw (aMemo 0 (aCons (eC (.int 4)) aNil)))) aNil)) (gvName 9)
  (sSeq (sAsg (eCall S__law_seat (aMemo 0 (aCons (eVar 3) (aCons (eVar 6) (aCons (eVar 7) aNil))))) (gvName 10))
  (sApp 8 (eOp opCatT (eVar 10) (eTup (aCons (eCall S__law_of (aMemo 0 (aCons (eVar 2) aNil))) aNil))))))
  (sApp 4 (eOwnTup 8)))))
  (sRet (eTup (aCons (eOwnTup 4) (aCons (eVar 7) aNil))))))))
def S__law_wide : SPEC := runD 3 11 B__law_wide
theorem ok__law_wide {f : Addr} {fd : FuncData} (F : L2.Fun K "_law_wide" "_law_wide" s__law_wide f fd) (X : Ctx K mg pT) {f__law_draw : Addr} {fd__law_draw : FuncData} (d_law_draw : Dok P w K mg base 2 "_law_draw" ["m", "limit"] (spW K S__law_draw) f__law_draw fd__law_draw) {f__law_of : Addr} {fd__law_of : FuncData} (d_law_of : Dok P w K mg base 3 "_law_of" ["m", "some"] (spW K S__law_of) f__law_of fd__law_of) {f__law_seat : Addr} {fd__law_seat : FuncData} (d_law_seat : Dok P w K mg base 5 "_law_seat" ["m", "terms", "bodies", "wards"] (spW K S__law_seat) f__law_seat fd__law_seat) : FnOk P w K mg base CX0 6 f fd ["m", "most", "sizes_so"] (spW K S__law_wide) := by
  obtain ⟨B, Z, Y, C, glcm, hmin⟩ := X
  exact F.ok sc__law_wide (fun vs H Q E h => spW_len rfl h) (fun cdv A outer s H vs Q E hr h => ⟨_, (pss_cons (ps_par (i := 6) (j := 7) (by rfl) sc__law_wide.nd rfl rfl (by decide) rfl rfl (pa_cons (pe_op op_add pe_int (pe_call d_law_draw.G (hr.mono (by decide)) rfl d_law_draw.g d_law_draw.k d_law_draw.b .nil pass0 (pa_cons (pv 0) (pa_cons (pv 1) pa_nil)))) (pa_cons (pe_call d_law_draw.G (hr.mono (by decide)) rfl d_law_draw.g d_law_draw.k d_law_draw.b .nil pass0 (pa_cons (pv 0) (pa_cons pe_int pa_nil))) pa_nil)) (by rfl))
  (pss_cons (ps_set (i := 3) sc__law_wide.nd rfl (Or.inl rfl) (pe_call d_law_of.G (hr.mono (by decide)) rfl d_law_of.g d_law_of.k d_law_of.b .nil pass0 (pa_cons (pv 0) (pa_cons (pe_lst (pa_cons (pe_tup (pa_cons pe_int (pa_cons pe_int pa_nil))) (pa_cons (pe_tup (pa_cons pe_int (pa_cons pe_int (pa_cons pe_int pa_nil)))) (pa_cons (pe_tup (pa_cons pe_int (pa_cons pe_int (pa_cons pe_int pa_nil)))) (pa_cons (pe_tup (pa_cons pe_int (pa_cons pe_int (pa_cons pe_int pa_nil)))) (pa_cons (pe_tup (pa_cons pe_int (pa_cons pe_int pa_nil))) (pa_cons (pe_tup (pa_cons pe_int pa_nil)) pa_nil))))))) pa_nil))))
  (pss_cons (ps_set (i := 4) sc__law_wide.nd rfl (Or.inl rfl) (pe_lst pa_nil))
  (pss_cons (ps_for PassesOwn.never rfl (pi_range1 rfl B.range (pa_cons (pv 6) pa_nil)) (pg_name (i := 5) sc__law_wide.nd rfl (Or.inl rfl))
  (pss_cons (ps_set (i := 8) sc__law_wide.nd rfl (Or.inl rfl) (pe_lst pa_nil))
  (pss_cons (ps_for PassesOwn.never rfl (pi_range1 rfl B.range (pa_cons (pe_op op_add pe_int (pe_call d_law_draw.G (hr.mono (by decide)) rfl d_law_draw.g d_law_draw.k d_law_draw.b .nil pass0 (pa_cons (pv 0) (pa_cons pe_int pa_nil)))) pa_nil)) (pg_name (i := 9) sc__law_wide.nd rfl (Or.inl rfl))
  (pss_cons (ps_set (i := 10) sc__law_wide.nd rfl (Or.inl rfl) (pe_call d_law_seat.G (hr.mono (by decide)) rfl d_law_seat.g d_law_seat.k d_law_seat.b .nil pass0 (pa_cons (pv 0) (pa_cons (pv 3) (pa_cons (pv 6) (pa_cons (pv 7) pa_nil))))))
  (pss_one (ps_expr (pe_bm PySem.F.plainAttrs_list PySem.F.slot_list_append PySem.F.type_list_append mt_append (pv 8) (pa_cons (pe_op op_catA (pv 10) (pe_tup (pa_cons (pe_call d_law_of.G (hr.mono (by decide)) rfl d_law_of.g d_law_of.k d_law_of.b .nil pass0 (pa_cons (pv 0) (pa_cons (pv 2) pa_nil))) pa_nil))) pa_nil))))))
  (pss_one (ps_expr (pe_bm PySem.F.plainAttrs_list PySem.F.slot_list_append PySem.F.type_list_append mt_append (pv 4) (pa_cons (pe_callTy call_tuple_of (by rfl) Z.tuple (by decide +kernel) (pa_cons (pv 8) pa_nil)) pa_nil)))))))
  (pss_one (ps_ret (pe_tup (pa_cons (pe_callTy call_tuple_of (by rfl) Z.tuple (by decide +kernel) (pa_cons (pv 4) pa_nil)) (pa_cons (pv 7) pa_nil))))))))), run_of (s := B__law_wide) (snd_seq (snd_par (snd_cons (snd_op o_add snd_int (snd_call (snd_memo (snd_cons snd_var snd_nil)))) (snd_cons (snd_call (snd_memo (snd_cons snd_int snd_nil))) snd_nil)))
  (snd_seq (snd_asg (snd_call (snd_memo (snd_cons (snd_lst (snd_cons (snd_tup (snd_cons snd_int (snd_cons snd_int snd_nil))) (snd_cons (snd_tup (snd_cons snd_int (snd_cons snd_int (snd_cons snd_int snd_nil)))) (snd_cons (snd_tup (snd_cons snd_int (snd_cons snd_int (snd_cons snd_int snd_nil)))) (snd_cons (snd_tup (snd_cons snd_int (snd_cons snd_int (snd_cons snd_int snd_nil)))) (snd_cons (snd_tup (snd_cons snd_int (snd_cons snd_int snd_nil))) (snd_cons (snd_tup (snd_cons snd_int snd_nil)) snd_nil))))))) snd_nil))) sndg_name)
  (snd_seq snd_new
  (snd_seq (snd_for (snd_iR1 (snd_cons snd_var snd_nil)) sndg_name
  (snd_seq snd_new
  (snd_seq (snd_for (snd_iR1 (snd_cons (snd_op o_add snd_int (snd_call (snd_memo (snd_cons snd_int snd_nil)))) snd_nil)) sndg_name
  (snd_seq (snd_asg (snd_call (snd_memo (snd_cons snd_var (snd_cons snd_var (snd_cons snd_var snd_nil))))) sndg_name)
  (snd_app (snd_op o_catT snd_var (snd_tup (snd_cons (snd_call (snd_memo (snd_cons snd_var snd_nil))) snd_nil))))))
  (snd_app snd_ownT))))
  (snd_ret (snd_tup (snd_cons snd_ownT (snd_cons snd_var snd_nil)))))))) rfl h⟩)
abbrev s__law_counts : Stmt := top 41
theorem sc__law_counts : FnScope ["wide_so", "body", "group"] ["wide_so"] (defScope s__law_counts) := ⟨rfl, rfl, rfl, by decide +kernel, rfl, by decide +kernel, by decide +kernel⟩
def B__law_counts : SV := (sRet (eLc (iTupD (eOp opIxT (eVar 0) (eC (.int 0)))) (gvName 1) vYes (eLc (iTupD (eVar 1)) (gvName 2) vYes (eOp opIxT (eVar 2) (eC (.int 3))) [2]) [1]))
def S__law_counts : SPEC := runD 1 3 B__law_counts
theorem ok__law_counts {f : Addr} {fd : FuncData} (F : L2.Fun K "_law_counts" "_law_counts" s__law_counts f fd) (X : Ctx K mg pT) : FnOk P w K mg base CX0 1 f fd ["wide_so"] (spW K S__law_counts) := by
  obtain ⟨B, Z, Y, C, glcm, hmin⟩ := X
  exact F.ok sc__law_counts (fun vs H Q E h => spW_len rfl h) (fun cdv A outer s H vs Q E hr h => ⟨_, (pss_one (ps_ret (pe_lc (own := [("body", 1)]) (g := gName 1) (tt := tYes) rfl sc__law_counts.nd (pi_tup (pe_ix ix_tup (pv 0) pe_int (fun _ _ => rfl))) (blkOk_by (N := ["wide_so", "body", "group"]) (sc := defScope s__law_counts) (by decide +kernel)) (fun _ _ _ _ _ => pg_name (i := 1) sc__law_counts.nd rfl (Or.inl rfl)) (fun _ _ _ _ _ => pts_nil) (fun _ _ _ _ _ => (pe_lc (own := [("group", 2)]) (g := gName 2) (tt := tYes) rfl sc__law_counts.nd (pi_tupK (K := K) rfl (pv 1)) (blkOk_by (by rfl)) (fun _ _ _ _ _ => pg_name (i := 2) sc__law_counts.nd rfl (Or.inl rfl)) (fun _ _ _ _ _ => pts_nil) (fun _ _ _ _ _ => (pe_ix (ix_tupK (K := K) rfl) (pv 2) pe_int (fun _ _ => rfl)))))))), run_of (s := B__law_counts) (snd_ret (snd_lc (snd_iTup (snd_op o_ixT snd_var snd_int)) sndg_name snd_yes (snd_lc (snd_iTup snd_var) sndg_name snd_yes (snd_op o_ixT snd_var snd_int) (by decide)) (by decide))) rfl h⟩)
abbrev s__law_sized : Stmt := top 44
theorem sc__law_sized : FnScope ["wide", "many", "bodies", "k", "body", "spot"] ["wide", "many"] (defScope s__law_sized) := ⟨rfl, rfl, rfl, by decide +kernel, rfl, by decide +kernel, by decide +kernel⟩
def B__law_sized : SV := (sSeq (sNew 2)
  (sSeq (sFor (iR1 (aCons (eCB cLen (aCons (eVar 1) aNil)) aNil)) (gvName 3)
  (sSeq (sAsg (eOp opIxT (eOp opIxT (eVar 0) (eC (.int 0))) (eVar 3)) (gvName 4))
  (sApp 2 (eCB cTup (aCons (eLc (iR1 (aCons (eCB cLen (aCons (eVar 4) aNil)) aNil)) (gvName 5) vYes (eOp opCatT (eSl slT (eOp opIxT (eVar 4) (eVar 5)) oNo (oPart (eC (.int 3)))) (eTup (aCons (eOp opIxL (eOp opIxL (eVar 1) (eVar 3)) (eVar 5)) aNil))) [5]) aNil)))))
  (sRet (eTup (aCons (eOwnTup 2) (aCons (eOp opIxT (eVar 0) (eC (.int 1))) aNil))))))
def S__law_sized : SPEC := runD 2 6 B__law_sized
theorem ok__law_sized {f : Addr} {fd : FuncData} (F : L2.Fun K "_law_sized" "_law_sized" s__law_sized f fd) (X : Ctx K mg pT) : FnOk P w K mg base CX0 1 f fd ["wide", "many"] (spW K S__law_sized) := by
  obtain ⟨B, Z, Y, C, glcm, hmin⟩ := X
  exact F.ok sc__law_sized (fun vs H Q E h => spW_len rfl h) (fun cdv A outer s H vs Q E hr h => ⟨_, (pss_cons (ps_set (i := 2) sc__law_sized.nd rfl (Or.inl rfl) (pe_lst pa_nil))
  (pss_cons (ps_for PassesOwn.never rfl (pi_range1 rfl B.range (pa_cons (pe_callB call_len_seq (by rfl) B.len PySem.boot_len (pa_cons (pv 1) pa_nil)) pa_nil)) (pg_name (i := 3) sc__law_sized.nd rfl (Or.inr rfl))
  (pss_cons (ps_set (i := 4) sc__law_sized.nd rfl (Or.inr rfl) (pe_ix ix_tup (pe_ix ix_tup (pv 0) pe_int (fun _ _ => rfl)) (pv 3) (fun _ _ => rfl)))
  (pss_one (ps_expr (pe_bm PySem.F.plainAttrs_list PySem.F.slot_list_append PySem.F.type_list_append mt_append (pv 2) (pa_cons (pe_callTy call_tuple_of (by rfl) Z.tuple (by decide +kernel) (pa_cons (pe_lc (own := [("spot", 5)]) (g := gName 5) (tt := tYes) rfl sc__law_sized.nd (pi_range1 rfl B.range (pa_cons (pe_callB call_len_seq (by rfl) B.len PySem.boot_len (pa_cons (pv 4) pa_nil)) pa_nil)) (blkOk_by (N := ["wide", "many", "bodies", "k", "body", "spot"]) (sc := defScope s__law_sized) (by decide +kernel)) (fun _ _ _ _ _ => pg_name (i := 5) sc__law_sized.nd rfl (Or.inl rfl)) (fun _ _ _ _ _ => pts_nil) (fun _ _ _ _ _ => (pe_op op_catA (pe_slice (sl_tupAK (K := K) rfl) (pe_ix (ix_tupK (K := K) rfl) (pv 4) (pv 5) (fun _ _ => rfl)) po_none (po_some pe_int)) (pe_tup (pa_cons (pe_ix (ix_listK (K := K) rfl) (pe_ix (ix_listK (K := K) rfl) (pv 1) (pv 3) (fun _ _ => rfl)) (pv 5) (fun _ _ => rfl)) pa_nil))))) pa_nil)) pa_nil))))))
  (pss_one (ps_ret (pe_tup (pa_cons (pe_callTy call_tuple_of (by rfl) Z.tuple (by decide +kernel) (pa_cons (pv 2) pa_nil)) (pa_cons (pe_ix ix_tup (pv 0) pe_int (fun _ _ => rfl)) pa_nil))))))), run_of (s := B__law_sized) (snd_seq snd_new
  (snd_seq (snd_for (snd_iR1 (snd_cons (snd_cb c_len (snd_cons snd_var snd_nil)) snd_nil)) sndg_name
  (snd_seq (snd_asg (snd_op o_ixT (snd_op o_ixT snd_var snd_int) snd_var) sndg_name)
  (snd_app (snd_cb c_tup (snd_cons (snd_lc (snd_iR1 (snd_cons (snd_cb c_len (snd_cons snd_var snd_nil)) snd_nil)) sndg_name snd_yes (snd_op o_catT (snd_sl sl_T (snd_op o_ixT snd_var snd_var) sndo_no (sndo_part snd_int)) (snd_tup (snd_cons (snd_op o_ixL (snd_op o_ixL snd_var snd_var) snd_var) snd_nil))) (by decide)) snd_nil)))))
  (snd_ret (snd_tup (snd_cons snd_ownT (snd_cons (snd_op o_ixT snd_var snd_int) snd_nil)))))) rfl h⟩)
abbrev s__law_lots : Stmt := top 42
theorem sc__law_lots : FnScope ["many", "found", "k", "longer", "row"] ["many"] (defScope s__law_lots) := ⟨rfl, rfl, rfl, by decide +kernel, rfl, by decide +kernel, by decide +kernel⟩
def B__law_lots : SV := (sSeq (sAsg (eLst (aCons (eC (.str "")) aNil)) (gvName 1))
  (sSeq (sFor (iR1 (aCons (eVar 0) aNil)) (gvName 2)
  (sSeq (sAsg (eLst aNil) (gvName 3))
  (sSeq (sFor (iLstD (eVar 1)) (gvName 4)
  (sAsg (eOp opCatL (eVar 3) (eLst (aCons (eOp opCatS (eVar 4) (eC (.str "-"))) (aCons (eOp opCatS (eVar 4) (eC (.str "a"))) (aCons (eOp opCatS (eVar 4) (eC (.str "b"))) aNil))))) (gvName 3)))
  (sAsg (eVar 3) (gvName 1)))))
  (sRet (eVar 1))))
def S__law_lots : SPEC := runD 1 5 B__law_lots
theorem ok__law_lots {f : Addr} {fd : FuncData} (F : L2.Fun K "_law_lots" "_law_lots" s__law_lots f fd) (X : Ctx K mg pT) : FnOk P w K mg base CX0 1 f fd ["many"] (spW K S__law_lots) := by
  obtain ⟨B, Z, Y, C, glcm, hmin⟩ := X
  exact F.ok sc__law_lots (fun vs H Q E h => spW_len rfl h) (fun cdv A outer s H vs Q E hr h => ⟨_, (pss_cons (ps_set (i := 1) sc__law_lots.nd rfl (Or.inl rfl) (pe_lst (pa_cons pe_str pa_nil)))
  (pss_cons (ps_for PassesOwn.never rfl (pi_range1 rfl B.range (pa_cons (pv 0) pa_nil)) (pg_name (i := 2) sc__law_lots.nd rfl (Or.inl rfl))
  (pss_cons (ps_set (i := 3) sc__law_lots.nd rfl (Or.inl rfl) (pe_lst pa_nil))
  (pss_cons (ps_for PassesOwn.never rfl (pi_list (pv 1)) (pg_name (i := 4) sc__law_lots.nd rfl (Or.inl rfl))
  (pss_one (ps_set (i := 3) sc__law_lots.nd rfl (Or.inl rfl) (pe_op op_cat (pv 3) (pe_lst (pa_cons (pe_op op_add_str (pv 4) pe_str) (pa_cons (pe_op op_add_str (pv 4) pe_str) (pa_cons (pe_op op_add_str (pv 4) pe_str) pa_nil))))))))
  (pss_one (ps_set (i := 1) sc__law_lots.nd rfl (Or.inl rfl) (pv 3))))))
  (pss_one (ps_ret (pv 1))))), run_of (s := B__law_lots) (snd_seq (snd_asg (snd_lst (snd_cons snd_str snd_nil)) sndg_name)
  (snd_seq (snd_for (snd_iR1 (snd_cons snd_var snd_nil)) sndg_name
  (snd_seq (snd_asg (snd_lst snd_nil) sndg_name)
  (snd_seq (snd_for (snd_iLst snd_var) sndg_name
  (snd_asg (snd_op o_catL snd_var (snd_lst (snd_cons (snd_op o_catS snd_var snd_str) (snd_cons (snd_op o_catS snd_var snd_str) (snd_cons (snd_op o_catS snd_var snd_str) snd_nil))))) sndg_name))
  (snd_asg snd_var sndg_name))))
  (snd_ret snd_var))) rfl h⟩)
abbrev s__law_side : Stmt := top 39
theorem sc__law_side : FnScope ["letters", "many", "near", "far", "k"] ["letters", "many"] (defScope s__law_side) := ⟨rfl, rfl, rfl, by decide +kernel, rfl, by decide +kernel, by decide +kernel⟩
def B__law_side : SV := (sSeq (sAsg (eCB cSum (aCons (eLc (iR1 (aCons (eCB cLenS (aCons (eVar 0) aNil)) aNil)) (gvName 4) (vE (eOp opEq (eOp opIxS (eVar 0) (eVar 4)) (eC (.str "a")))) (eOp opIxL (eVar 1) (eVar 4)) [4]) aNil)) (gvName 2))
  (sSeq (sAsg (eCB cSum (aCons (eLc (iR1 (aCons (eCB cLenS (aCons (eVar 0) aNil)) aNil)) (gvName 4) (vE (eOp opEq (eOp opIxS (eVar 0) (eVar 4)) (eC (.str "b")))) (eOp opIxL (eVar 1) (eVar 4)) [4]) aNil)) (gvName 3))
  (sRet (eIf (vE (eOp opEq (eVar 2) (eVar 3))) (eC (.str "=")) (eIf (vE (eOp opGt (eVar 2) (eVar 3))) (eC (.str "a")) (eC (.str "b")))))))
def S__law_side : SPEC := runD 2 5 B__law_side
theorem ok__law_side {f : Addr} {fd : FuncData} (F : L2.Fun K "_law_side" "_law_side" s__law_side f fd) (X : Ctx K mg pT) : FnOk P w K mg base CX0 1 f fd ["letters", "many"] (spW K S__law_side) := by
  obtain ⟨B, Z, Y, C, glcm, hmin⟩ := X
  exact F.ok sc__law_side (fun vs H Q E h => spW_len rfl h) (fun cdv A outer s H vs Q E hr h => ⟨_, (pss_cons (ps_set (i := 2) sc__law_side.nd rfl (Or.inl rfl) (pe_callB (cr_sum rfl) (by rfl) Z.sum (by decide +kernel) (pa_cons (pe_lc (own := [("k", 4)]) (g := gName 4) rfl sc__law_side.nd (pi_range1 rfl B.range (pa_cons (pe_callB call_len_str (by rfl) B.len PySem.boot_len (pa_cons (pv 0) pa_nil)) pa_nil)) (blkOk_by (N := ["letters", "many", "near", "far", "k"]) (sc := defScope s__law_side) (by decide +kernel)) (fun _ _ _ _ _ => pg_name (i := 4) sc__law_side.nd rfl (Or.inl rfl)) (fun _ _ _ _ _ => (pts_one (pt_cmpR op_eq (pe_ix ix_str (pv 0) (pv 4) (fun _ _ => rfl)) pe_str (nomark _)))) (fun _ _ _ _ _ => (pe_ix (ix_listK (K := K) rfl) (pv 1) (pv 4) (fun _ _ => rfl)))) pa_nil)))
  (pss_cons (ps_set (i := 3) sc__law_side.nd rfl (Or.inl rfl) (pe_callB (cr_sum rfl) (by rfl) Z.sum (by decide +kernel) (pa_cons (pe_lc (own := [("k", 4)]) (g := gName 4) rfl sc__law_side.nd (pi_range1 rfl B.range (pa_cons (pe_callB call_len_str (by rfl) B.len PySem.boot_len (pa_cons (pv 0) pa_nil)) pa_nil)) (blkOk_by (N := ["letters", "many", "near", "far", "k"]) (sc := defScope s__law_side) (by decide +kernel)) (fun _ _ _ _ _ => pg_name (i := 4) sc__law_side.nd rfl (Or.inl rfl)) (fun _ _ _ _ _ => (pts_one (pt_cmpR op_eq (pe_ix ix_str (pv 0) (pv 4) (fun _ _ => rfl)) pe_str (nomark _)))) (fun _ _ _ _ _ => (pe_ix (ix_listK (K := K) rfl) (pv 1) (pv 4) (fun _ _ => rfl)))) pa_nil)))
  (pss_one (ps_ret (pe_ifExp (pt_cmpR op_eq (pv 2) (pv 3) (nomark _)) pe_str (pe_ifExp (pt_cmpR op_gt (pv 2) (pv 3) (nomark _)) pe_str pe_str)))))), run_of (s := B__law_side) (snd_seq (snd_asg (snd_cb c_sum (snd_cons (snd_lc (snd_iR1 (snd_cons (snd_cb c_lenS (snd_cons snd_var snd_nil)) snd_nil)) sndg_name (snd_test (snd_op o_eq (snd_op o_ixS snd_var snd_var) snd_str)) (snd_op o_ixL snd_var snd_var) (by decide)) snd_nil)) sndg_name)
  (snd_seq (snd_asg (snd_cb c_sum (snd_cons (snd_lc (snd_iR1 (snd_cons (snd_cb c_lenS (snd_cons snd_var snd_nil)) snd_nil)) sndg_name (snd_test (snd_op o_eq (snd_op o_ixS snd_var snd_var) snd_str)) (snd_op o_ixL snd_var snd_var) (by decide)) snd_nil)) sndg_name)
  (snd_ret (snd_if (snd_test (snd_op o_eq snd_var snd_var)) snd_str (snd_if (snd_test (snd_op o_gt snd_var snd_var)) snd_str snd_str))))) rfl h⟩)
abbrev s__law_signs : Stmt := top 43
theorem sc__law_signs : FnScope ["many", "lot"] ["many"] (defScope s__law_signs) := ⟨rfl, rfl, rfl, by decide +kernel, rfl, by decide +kernel, by decide +kernel⟩
def B__law_signs : SV := (sRet (eM1 mJoin (eC (.str "")) (eLc (iLstD (eCall S__law_lots (aCons (eCB cLen (aCons (eVar 0) aNil)) aNil))) (gvName 1) vYes (eCall S__law_side (aCons (eVar 1) (aCons (eVar 0) aNil))) [1])))
def S__law_signs : SPEC := runD 1 2 B__law_signs
theorem ok__law_signs {f : Addr} {fd : FuncData} (F : L2.Fun K "_law_signs" "_law_signs" s__law_signs f fd) (X : Ctx K mg pT) {f__law_lots : Addr} {fd__law_lots : FuncData} (d_law_lots : Dok P w K mg base 1 "_law_lots" ["many"] (spW K S__law_lots) f__law_lots fd__law_lots) {f__law_side : Addr} {fd__law_side : FuncData} (d_law_side : Dok P w K mg base 1 "_law_side" ["letters", "many"] (spW K S__law_side) f__law_side fd__law_side) : FnOk P w K mg base CX0 2 f fd ["many"] (spW K S__law_signs) := by
  obtain ⟨B, Z, Y, C, glcm, hmin⟩ := X
  exact F.ok sc__law_signs (fun vs H Q E h => spW_len rfl h) (fun cdv A outer s H vs Q E hr h => ⟨_, (pss_one (ps_ret (pe_join pe_str (pe_lc (own := [("lot", 1)]) (g := gName 1) (tt := tYes) rfl sc__law_signs.nd (pi_list (pe_call d_law_lots.G (hr.mono (by decide)) rfl d_law_lots.g d_law_lots.k d_law_lots.b .nil pass0 (pa_cons (pe_callB call_len_seq (by rfl) B.len PySem.boot_len (pa_cons (pv 0) pa_nil)) pa_nil))) (blkOk_by (N := ["many", "lot"]) (sc := defScope s__law_signs) (by decide +kernel)) (fun _ _ _ _ _ => pg_name (i := 1) sc__law_signs.nd rfl (Or.inl rfl)) (fun _ _ _ _ _ => pts_nil) (fun _ _ _ _ _ => (pe_call d_law_side.G (hr.mono (by decide)) rfl d_law_side.g d_law_side.k d_law_side.b .nil pass0 (pa_cons (pv 1) (pa_cons (pv 0) pa_nil)))))))), run_of (s := B__law_signs) (snd_ret (snd_m1 m_join snd_str (snd_lc (snd_iLst (snd_call (snd_cons (snd_cb c_len (snd_cons snd_var snd_nil)) snd_nil))) sndg_name snd_yes (snd_call (snd_cons snd_var (snd_cons snd_var snd_nil))) (by decide)))) rfl h⟩)
abbrev s__law_pattern : Stmt := top 45
theorem sc__law_pattern : FnScope ["wide", "one"] ["wide"] (defScope s__law_pattern) := ⟨rfl, rfl, rfl, by decide +kernel, rfl, by decide +kernel, by decide +kernel⟩
def B__law_pattern : SV := (sRet (eCB cTup (aCons (eLc (iLstD (eCall S__law_counts (aCons (eVar 0) aNil))) (gvName 1) vYes (eCall S__law_signs (aCons (eVar 1) aNil)) [1]) aNil)))
def S__law_pattern : SPEC := runD 1 2 B__law_pattern
theorem ok__law_pattern {f : Addr} {fd : FuncData} (F : L2.Fun K "_law_pattern" "_law_pattern" s__law_pattern f fd) (X : Ctx K mg pT) {f__law_counts : Addr} {fd__law_counts : FuncData} (d_law_counts : Dok P w K mg base 1 "_law_counts" ["wide_so"] (spW K S__law_counts) f__law_counts fd__law_counts) {f__law_signs : Addr} {fd__law_signs : FuncData} (d_law_signs : Dok P w K mg base 2 "_law_signs" ["many"] (spW K S__law_signs) f__law_signs fd__law_signs) : FnOk P w K mg base CX0 3 f fd ["wide"] (spW K S__law_pattern) := by
  obtain ⟨B, Z, Y, C, glcm, hmin⟩ := X
  exact F.ok sc__law_pattern (fun vs H Q E h => spW_len rfl h) (fun cdv A outer s H vs Q E hr h => ⟨_, (pss_one (ps_ret (pe_callTy call_tuple_of (by rfl) Z.tuple (by decide +kernel) (pa_cons (pe_lc (own := [("one", 1)]) (g := gName 1) (tt := tYes) rfl sc__law_pattern.nd (pi_list (pe_call d_law_counts.G (hr.mono (by decide)) rfl d_law_counts.g d_law_counts.k d_law_counts.b .nil pass0 (pa_cons (pv 0) pa_nil))) (blkOk_by (N := ["wide", "one"]) (sc := defScope s__law_pattern) (by decide +kernel)) (fun _ _ _ _ _ => pg_name (i := 1) sc__law_pattern.nd rfl (Or.inl rfl)) (fun _ _ _ _ _ => pts_nil) (fun _ _ _ _ _ => (pe_call d_law_signs.G (hr.mono (by decide)) rfl d_law_signs.g d_law_signs.k d_law_signs.b .nil pass0 (pa_cons (pv 1) pa_nil)))) pa_nil)))), run_of (s := B__law_pattern) (snd_ret (snd_cb c_tup (snd_cons (snd_lc (snd_iLst (snd_call (snd_cons snd_var snd_nil))) sndg_name snd_yes (snd_call (snd_cons snd_var snd_nil)) (by decide)) snd_nil))) rfl h⟩)
abbrev s__law_frame : Stmt := top 46
theorem sc__law_frame : FnScope ["wide", "found", "body", "group"] ["wide"] (defScope s__law_frame) := ⟨rfl, rfl, rfl, by decide +kernel, rfl, by decide +kernel, by decide +kernel⟩
def B__law_frame : SV := (sSeq (sNew 1)
  (sSeq (sFor (iTupD (eOp opIxT (eVar 0) (eC (.int 0)))) (gvName 2)
  (sApp 1 (eLc (iTupD (eVar 2)) (gvName 3) vYes (eSl slT (eVar 3) oNo (oPart (eC (.int 3)))) [3])))
  (sFrz 1 (sRet (eOp opCatL (eVar 1) (eLst (aCons (eOp opIxT (eVar 0) (eC (.int 1))) aNil)))))))
def S__law_frame : SPEC := runD 1 4 B__law_frame
theorem ok__law_frame {f : Addr} {fd : FuncData} (F : L2.Fun K "_law_frame" "_law_frame" s__law_frame f fd) (X : Ctx K mg pT) : FnOk P w K mg base CX0 1 f fd ["wide"] (spW K S__law_frame) := by
  obtain ⟨B, Z, Y, C, glcm, hmin⟩ := X
  exact F.ok sc__law_frame (fun vs H Q E h => spW_len rfl h) (fun cdv A outer s H vs Q E hr h => ⟨_, (pss_cons (ps_set (i := 1) sc__law_frame.nd rfl (Or.inl rfl) (pe_lst pa_nil))
  (pss_cons (ps_for PassesOwn.never rfl (pi_tup (pe_ix ix_tup (pv 0) pe_int (fun _ _ => rfl))) (pg_name (i := 2) sc__law_frame.nd rfl (Or.inl rfl))
  (pss_one (ps_expr (pe_bm PySem.F.plainAttrs_list PySem.F.slot_list_append PySem.F.type_list_append mt_append (pv 1) (pa_cons (pe_lc (own := [("group", 3)]) (g := gName 3) (tt := tYes) rfl sc__law_frame.nd (pi_tup (pv 2)) (blkOk_by (N := ["wide", "found", "body", "group"]) (sc := defScope s__law_frame) (by decide +kernel)) (fun _ _ _ _ _ => pg_name (i := 3) sc__law_frame.nd rfl (Or.inl rfl)) (fun _ _ _ _ _ => pts_nil) (fun _ _ _ _ _ => (pe_slice (sl_tupAK (K := K) rfl) (pv 3) po_none (po_some pe_int)))) pa_nil)))))
  (pss_one (ps_ret (pe_op op_cat (pv 1) (pe_lst (pa_cons (pe_ix ix_tup (pv 0) pe_int (fun _ _ => rfl)) pa_nil))))))), run_of (s := B__law_frame) (snd_seq snd_new
  (snd_seq (snd_for (snd_iTup (snd_op o_ixT snd_var snd_int)) sndg_name
  (snd_app (snd_lc (snd_iTup snd_var) sndg_name snd_yes (snd_sl sl_T snd_var sndo_no (sndo_part snd_int)) (by decide))))
  (snd_frz (snd_ret (snd_op o_catL snd_var (snd_lst (snd_cons (snd_op o_ixT snd_var snd_int) snd_nil))))))) rfl h⟩)
abbrev s_law : Stmt := top 47
theorem sc_law : FnScope ["script", "m", "turn", "house", "far", "one", "some", "told_so", "sizes_so", "wide", "many", "due", "times", "near", "rows", "other", "is_so", "row"] ["script"] (defScope s_law) := ⟨rfl, rfl, rfl, by decide +kernel, rfl, by decide +kernel, by decide +kernel⟩
def B_law : SV := (sSeq (sFor (iR1 (aCons (eOp opAdd (eC (.int 3)) (eCB cMin2 (aCons (eC (.int 7)) (aCons (eCB cLen (aScr 0 aNil)) aNil)))) aNil)) (gvName 2)
  (sSeq (sAsg (eCall S__law_of (aMemo 1 (aCons (eLst (aCons (eTup (aCons (eC (.int 1)) (aCons (eC (.int 2)) (aCons (eC (.int 3)) aNil)))) (aCons (eTup (aCons (eC (.int 1)) (aCons (eC (.int 1)) (aCons (eC (.int 2)) aNil)))) (aCons (eTup (aCons (eC (.int 2)) (aCons (eC (.int 3)) (aCons (eC (.int 5)) (aCons (eOp opPow (eC (.int 10)) (eC (.int 30))) aNil))))) (aCons (eTup (aCons (eOp opPow (eC (.int 10)) (eC (.int 29))) (aCons (eOp opAdd (eOp opPow (eC (.int 10)) (eC (.int 29))) (eC (.int 1))) (aCons (eC (.int 1)) aNil)))) aNil))))) aNil))) (gvName 8))
  (sSeq (sAsg (eCall S__law_wide (aMemo 1 (aCons (eC (.int 3)) (aCons (eVar 8) aNil)))) (gvName 9))
  (sSeq (sAsg (eCall S__law_counts (aCons (eVar 9) aNil)) (gvName 10))
  (sSeq (sAsg (eCall S__law_pattern (aCons (eVar 9) aNil)) (gvName 11))
  (sSeq (sIf (vNot (vE (eCall S__law_like (aCons (eLst (aCons (eCall S_pattern (aCons (eVar 9) aNil)) (aCons (eCall S_pattern (aCons (eVar 9) aNil)) aNil))) (aCons (eLst (aCons (eVar 11) (aCons (eVar 11) aNil))) aNil))))) (sRet (eC (.bl false))) sNext)
  (sSeq (sAsg (eOp opAdd (eC (.int 1)) (eCall S__law_draw (aMemo 1 (aCons (eC (.int 4)) aNil)))) (gvName 12))
  (sSeq (sAsg (eLc (iLstD (eVar 10)) (gvName 17) vYes (eLc (iLstD (eVar 17)) (gvName 5) vYes (eOp opMul (eVar 12) (eVar 5)) [5]) [17]) (gvName 6))
  (sSeq (sAsg (eLc (iLstD (eVar 10)) (gvName 17) vYes (eLc (iLstD (eVar 17)) (gvName 5) vYes (eOp opAdd (eVar 5) (eCall S__law_draw (aMemo 1 (aCons (eC (.int 2)) aNil)))) [5]) [17]) (gvName 13))
  (sSeq (sFor (iTupD (eTup (aCons (eIf (vE (eOp opLe (eCB cMax (aCons (eLc (iLstD (eVar 6)) (gvName 17) vYes (eCB cMax (aCons (eVar 17) aNil)) [17]) aNil)) (eOp opPow (eC (.int 10)) (eC (.int 30))))) (eVar 6) (eVar 10)) (aCons (eVar 13) (aCons (eVar 10) aNil))))) (gvName 14)
  (sIf (vE (eOp opLe (eCB cMax (aCons (eLc (iLstD (eVar 14)) (gvName 17) vYes (eCB cMax (aCons (eVar 17) aNil)) [17]) aNil)) (eOp opPow (eC (.int 10)) (eC (.int 30))))) (sSeq (sAsg (eCall S__law_sized (aCons (eVar 9) (aCons (eVar 14) aNil))) (gvName 4))
  (sSeq (sAsg (eOp opEqD (eCall S__law_pattern (aCons (eVar 4) aNil)) (eVar 11)) (gvName 16))
  (sIf (vNot (vE (eCall S__law_like (aCons (eLst (aCons (eCall S_go_alike (aCons (eVar 9) (aCons (eVar 4) aNil))) (aCons (eCall S_go_alike (aCons (eVar 4) (aCons (eVar 9) aNil))) aNil))) (aCons (eLst (aCons (eVar 16) (aCons (eVar 16) aNil))) aNil))))) (sRet (eC (.bl false))) sNext))) sNext))
  (sSeq (sAsg (eCall S__law_wide (aMemo 1 (aCons (eC (.int 2)) (aCons (eTup (aCons (eC (.int 1)) (aCons (eC (.int 2)) aNil))) aNil)))) (gvName 15))
  (sSeq (sAsg (eAnd (eOp opEqD (eCall S__law_frame (aCons (eVar 9) aNil)) (eCall S__law_frame (aCons (eVar 15) aNil))) (eOp opEqD (eCall S__law_pattern (aCons (eVar 15) aNil)) (eVar 11))) (gvName 16))
  (sIf (vNot (vE (eCall S__law_like (aCons (eCall S_go_alike (aCons (eVar 9) (aCons (eVar 15) aNil))) (aCons (eVar 16) aNil))))) (sRet (eC (.bl false))) sNext)))))))))))))
  (sSeq (sAsg (eTup (aCons (eTup (aCons (eTup (aCons (eTup (aCons (eC (.int 2)) (aCons (eC (.int 0)) (aCons (eTup (aCons (eC (.str "kept")) aNil)) (aCons (eOp opPow (eC (.int 10)) (eC (.int 30))) aNil))))) (aCons (eTup (aCons (eC (.int 2)) (aCons (eC (.int 1)) (aCons (eTup (aCons (eC (.str "rest")) (aCons (eC (.int 0)) (aCons (eC (.str "a")) aNil)))) (aCons (eOp opSub (eOp opPow (eC (.int 10)) (eC (.int 30))) (eC (.int 1))) aNil))))) aNil))) aNil)) (aCons (eC (.int 0)) aNil))) (gvName 3))
  (sSeq (sAsg (eTup (aCons (eTup (aCons (eTup (aCons (eTup (aCons (eC (.int 2)) (aCons (eC (.int 0)) (aCons (eTup (aCons (eC (.str "kept")) aNil)) (aCons (eC (.int 2)) aNil))))) (aCons (eTup (aCons (eC (.int 2)) (aCons (eC (.int 1)) (aCons (eTup (aCons (eC (.str "rest")) (aCons (eC (.int 0)) (aCons (eC (.str "a")) aNil)))) (aCons (eC (.int 1)) aNil))))) aNil))) aNil)) (aCons (eC (.int 0)) aNil))) (gvName 4))
  (sSeq (sIf (vOr (vE (eOp opNeD (eCall S_pattern (aCons (eVar 3) aNil)) (eTup (aCons (eC (.str "=abaaabbb")) aNil)))) (vNot (vE (eCall S_go_alike (aCons (eVar 3) (aCons (eVar 4) aNil)))))) (sRet (eC (.bl false))) sNext)
  (sSeq (sIf (vE (eCall S_go_alike (aCons (eVar 3) (aCons (eTup (aCons (eTup (aCons (eTup (aCons (eTup (aCons (eC (.int 2)) (aCons (eC (.int 0)) (aCons (eTup (aCons (eC (.str "kept")) aNil)) (aCons (eC (.int 2)) aNil))))) (aCons (eTup (aCons (eC (.int 2)) (aCons (eC (.int 1)) (aCons (eTup (aCons (eC (.str "rest")) (aCons (eC (.int 0)) (aCons (eC (.str "b")) aNil)))) (aCons (eC (.int 1)) aNil))))) aNil))) aNil)) (aCons (eC (.int 0)) aNil))) aNil)))) (sRet (eC (.bl false))) sNext)
  (sSeq (sAsg (eTup (aCons (eTup (aCons (eTup (aCons (eTup (aCons (eC (.int 2)) (aCons (eC (.int 0)) (aCons (eTup (aCons (eC (.str "kept")) aNil)) (aCons (eC (.int 1)) aNil))))) aNil)) aNil)) (aCons (eC (.int 0)) aNil))) (gvName 5))
  (sSeq (sAsg (eLst (aCons (eTup (aCons (eOp opIxT (eVar 5) (eC (.int 0))) (aCons (eC (.int 1)) aNil))) (aCons (eTup (aCons (eTup (aCons (eTup (aCons (eTup (aCons (eC (.int 2)) (aCons (eC (.int 1)) (aCons (eTup (aCons (eC (.str "kept")) aNil)) (aCons (eC (.int 1)) aNil))))) aNil)) aNil)) (aCons (eC (.int 0)) aNil))) (aCons (eTup (aCons (eTup (aCons (eTup (aCons (eTup (aCons (eC (.int 4)) (aCons (eC (.int 0)) (aCons (eTup (aCons (eC (.str "kept")) aNil)) (aCons (eC (.int 1)) aNil))))) aNil)) aNil)) (aCons (eC (.int 0)) aNil))) aNil)))) (gvName 6))
  (sSeq (sAsg (eOp opCatL (eLc (iLstD (eVar 6)) (gvName 4) vYes (eCall S_go_alike (aCons (eVar 5) (aCons (eVar 4) aNil))) [4]) (eLc (iLstD (eVar 6)) (gvName 4) vYes (eCall S_go_alike (aCons (eVar 4) (aCons (eVar 5) aNil))) [4])) (gvName 7))
  (sRet (eAnd (eOp opEqD (eVar 7) (eOp opRepL (eLst (aCons (eC (.bl false)) aNil)) (eC (.int 6)))) (eCall S_go_alike (aCons (eVar 5) (aCons (eTup (aCons (eTup (aCons (eTup (aCons (eTup (aCons (eC (.int 2)) (aCons (eC (.int 0)) (aCons (eTup (aCons (eC (.str "kept")) aNil)) (aCons (eC (.int 7)) aNil))))) aNil)) aNil)) (aCons (eC (.int 0)) aNil))) aNil)))))))))))))
theorem ok_law {f : Addr} {fd : FuncData} (F : L2.Fun K "law" "law" s_law f fd) (X : Ctx K mg pT) {f__law_begun : Addr} {fd__law_begun : FuncData} (d_law_begun : Dok P w K mg base 2 "_law_begun" ["script"] (spBegun K) f__law_begun fd__law_begun) {f__law_counts : Addr} {fd__law_counts : FuncData} (d_law_counts : Dok P w K mg base 1 "_law_counts" ["wide_so"] (spW K S__law_counts) f__law_counts fd__law_counts) {f__law_draw : Addr} {fd__law_draw : FuncData} (d_law_draw : Dok P w K mg base 2 "_law_draw" ["m", "limit"] (spW K S__law_draw) f__law_draw fd__law_draw) {f__law_frame : Addr} {fd__law_frame : FuncData} (d_law_frame : Dok P w K mg base 1 "_law_frame" ["wide"] (spW K S__law_frame) f__law_frame fd__law_frame) {f__law_like : Addr} {fd__law_like : FuncData} (d_law_like : DoG P w K mg base 1 "_law_like" ["answer", "due"] (spW K S__law_like) f__law_like fd__law_like) {f__law_of : Addr} {fd__law_of : FuncData} (d_law_of : Dok P w K mg base 3 "_law_of" ["m", "some"] (spW K S__law_of) f__law_of fd__law_of) {f__law_pattern : Addr} {fd__law_pattern : FuncData} (d_law_pattern : Dok P w K mg base 3 "_law_pattern" ["wide"] (spW K S__law_pattern) f__law_pattern fd__law_pattern) {f__law_sized : Addr} {fd__law_sized : FuncData} (d_law_sized : Dok P w K mg base 1 "_law_sized" ["wide", "many"] (spW K S__law_sized) f__law_sized fd__law_sized) {f__law_wide : Addr} {fd__law_wide : FuncData} (d_law_wide : Dok P w K mg base 6 "_law_wide" ["m", "most", "sizes_so"] (spW K S__law_wide) f__law_wide fd__law_wide) {f_go_alike : Addr} {fd_go_alike : FuncData} (dgo_alike : Dok P w K mg base 7 "go_alike" ["wide", "other"] (spW K S_go_alike) f_go_alike fd_go_alike) {f_pattern : Addr} {fd_pattern : FuncData} (dpattern : Dok P w K mg base 7 "pattern" ["wide"] (spW K S_pattern) f_pattern fd_pattern) (hl : ∀ ns : List Int, ns.length ≤ 63 → B_law { nx := fun _ _ => False, rt := fun d _ => d = .bl true } ((([some (.scr ns)] ++ List.replicate (18 - 1) none) : SD).set 1 (some .memo)) 536870912) : FnG P w K mg base CX0 8 f fd ["script"] (spLaw K) := by
  refine fnG_of0 F sc_law (fun vs H Q E h => by obtain ⟨a, ns, rfl, _⟩ := h; rfl) (fun cdv A outer s H vs Q E gd hr h => ?_)
  obtain ⟨a, ns, rfl, hS, hz, hQ⟩ := h
  have g2 := guards_deeper gd (PyProof.Rows.envOfC "law" (defScope s_law) s.heap.objs.size f cdv)
  obtain ⟨B, Z, Y, C, glcm, hmin⟩ := X
  exact ⟨_, (pss_cons (ps_set (i := 1) sc_law.nd rfl (Or.inr rfl) (pe_call d_law_begun.G (hr.mono (by decide)) rfl d_law_begun.g d_law_begun.k d_law_begun.b .nil pass0 (pa_cons (pv 0) pa_nil)))
  (pss_cons (ps_for PassesOwn.never rfl (pi_range1 rfl B.range (pa_cons (pe_op op_add pe_int (pe_callB (call_min2 rfl) (by rfl) hmin PyProof.Rows.boot_min (pa_cons pe_int (pa_cons (pe_callB call_len_seq (by rfl) B.len PySem.boot_len (pa_cons (pv 0) pa_nil)) pa_nil)))) pa_nil)) (pg_name (i := 2) sc_law.nd rfl (Or.inl rfl))
  (pss_cons (ps_set (i := 8) sc_law.nd rfl (Or.inl rfl) (pe_call d_law_of.G (hr.mono (by decide)) rfl d_law_of.g d_law_of.k d_law_of.b .nil pass0 (pa_cons (pv 1) (pa_cons (pe_lst (pa_cons (pe_tup (pa_cons pe_int (pa_cons pe_int (pa_cons pe_int pa_nil)))) (pa_cons (pe_tup (pa_cons pe_int (pa_cons pe_int (pa_cons pe_int pa_nil)))) (pa_cons (pe_tup (pa_cons pe_int (pa_cons pe_int (pa_cons pe_int (pa_cons (pe_op op_pow pe_int pe_int) pa_nil))))) (pa_cons (pe_tup (pa_cons (pe_op op_pow pe_int pe_int) (pa_cons (pe_op op_add (pe_op op_pow pe_int pe_int) pe_int) (pa_cons pe_int pa_nil)))) pa_nil))))) pa_nil))))
  (pss_cons (ps_set (i := 9) sc_law.nd rfl (Or.inl rfl) (pe_call d_law_wide.G (hr.mono (by decide)) rfl d_law_wide.g d_law_wide.k d_law_wide.b .nil pass0 (pa_cons (pv 1) (pa_cons pe_int (pa_cons (pv 8) pa_nil)))))
  (pss_cons (ps_set (i := 10) sc_law.nd rfl (Or.inl rfl) (pe_call d_law_counts.G (hr.mono (by decide)) rfl d_law_counts.g d_law_counts.k d_law_counts.b .nil pass0 (pa_cons (pv 9) pa_nil)))
  (pss_cons (ps_set (i := 11) sc_law.nd rfl (Or.inl rfl) (pe_call d_law_pattern.G (hr.mono (by decide)) rfl d_law_pattern.g d_law_pattern.k d_law_pattern.b .nil pass0 (pa_cons (pv 9) pa_nil)))
  (pss_cons (ps_if (pt_not (pt_val (pe_callG d_law_like.G g2 (hr.mono (by decide)) rfl d_law_like.g d_law_like.k d_law_like.b pass0 (pa_cons (pe_lst (pa_cons (pe_call dpattern.G (hr.mono (by decide)) rfl dpattern.g dpattern.k dpattern.b .nil pass0 (pa_cons (pv 9) pa_nil)) (pa_cons (pe_call dpattern.G (hr.mono (by decide)) rfl dpattern.g dpattern.k dpattern.b .nil pass0 (pa_cons (pv 9) pa_nil)) pa_nil))) (pa_cons (pe_lst (pa_cons (pv 11) (pa_cons (pv 11) pa_nil))) pa_nil))))) (pss_one (ps_ret pe_bl)) pss_nil)
  (pss_cons (ps_set (i := 12) sc_law.nd rfl (Or.inr rfl) (pe_op op_add pe_int (pe_call d_law_draw.G (hr.mono (by decide)) rfl d_law_draw.g d_law_draw.k d_law_draw.b .nil pass0 (pa_cons (pv 1) (pa_cons pe_int pa_nil)))))
  (pss_cons (ps_setLc (i := 6) (own := [("row", 17)]) (g := gName 17) (tt := tYes) rfl sc_law.nd rfl rfl (sw_true rfl rfl rfl (by decide +kernel)) (pi_list (pv 10)) (blkOk_by (N := ["script", "m", "turn", "house", "far", "one", "some", "told_so", "sizes_so", "wide", "many", "due", "times", "near", "rows", "other", "is_so", "row"]) (sc := defScope s_law) (by decide +kernel)) (fun _ _ _ _ _ => pg_name (i := 17) sc_law.nd rfl (Or.inl rfl)) (fun _ _ _ _ _ => pts_nil) (fun _ _ _ _ _ => (pe_lc (own := [("one", 5)]) (g := gName 5) (tt := tYes) rfl sc_law.nd (pi_listK (K := K) rfl (pv 17)) (blkOk_by (by rfl)) (fun _ _ _ _ _ => pg_name (i := 5) sc_law.nd rfl (Or.inl rfl)) (fun _ _ _ _ _ => pts_nil) (fun _ _ _ _ _ => (pe_op op_mul (pv 12) (pv 5))))))
  (pss_cons (ps_setLc (i := 13) (own := [("row", 17)]) (g := gName 17) (tt := tYes) rfl sc_law.nd rfl rfl (sw_true rfl rfl rfl (by decide +kernel)) (pi_list (pv 10)) (blkOk_by (N := ["script", "m", "turn", "house", "far", "one", "some", "told_so", "sizes_so", "wide", "many", "due", "times", "near", "rows", "other", "is_so", "row"]) (sc := defScope s_law) (by decide +kernel)) (fun _ _ _ _ _ => pg_name (i := 17) sc_law.nd rfl (Or.inl rfl)) (fun _ _ _ _ _ => pts_nil) (fun _ _ _ _ _ => (pe_lc (own := [("one", 5)]) (g := gName 5) (tt := tYes) rfl sc_law.nd (pi_listK (K := K) rfl (pv 17)) (blkOk_by (by rfl)) (fun _ _ _ _ _ => pg_name (i := 5) sc_law.nd rfl (Or.inl rfl)) (fun _ _ _ _ _ => pts_nil) (fun _ _ _ _ _ => (pe_op op_add (pv 5) (pe_call d_law_draw.G (hr.mono (by decide)) rfl d_law_draw.g d_law_draw.k d_law_draw.b .nil pass0 (pa_cons (pv 1) (pa_cons pe_int pa_nil))))))))
  (pss_cons (ps_for PassesOwn.never rfl (pi_tup (pe_tup (pa_cons (pe_ifExp (pt_cmpR op_le (pe_callB (cr_max rfl) (by rfl) Y.max (by decide +kernel) (pa_cons (pe_lc (own := [("row", 17)]) (g := gName 17) (tt := tYes) rfl sc_law.nd (pi_list (pv 6)) (blkOk_by (N := ["script", "m", "turn", "house", "far", "one", "some", "told_so", "sizes_so", "wide", "many", "due", "times", "near", "rows", "other", "is_so", "row"]) (sc := defScope s_law) (by decide +kernel)) (fun _ _ _ _ _ => pg_name (i := 17) sc_law.nd rfl (Or.inl rfl)) (fun _ _ _ _ _ => pts_nil) (fun _ _ _ _ _ => (pe_callB (cr_max rfl) (by rfl) Y.max (by decide +kernel) (pa_cons (pv 17) pa_nil)))) pa_nil)) (pe_op op_pow pe_int pe_int) (nomark _)) (pv 6) (pv 10)) (pa_cons (pv 13) (pa_cons (pv 10) pa_nil))))) (pg_name (i := 14) sc_law.nd rfl (Or.inl rfl))
  (pss_one (ps_if (pt_cmpR op_le (pe_callB (cr_max rfl) (by rfl) Y.max (by decide +kernel) (pa_cons (pe_lc (own := [("row", 17)]) (g := gName 17) (tt := tYes) rfl sc_law.nd (pi_list (pv 14)) (blkOk_by (N := ["script", "m", "turn", "house", "far", "one", "some", "told_so", "sizes_so", "wide", "many", "due", "times", "near", "rows", "other", "is_so", "row"]) (sc := defScope s_law) (by decide +kernel)) (fun _ _ _ _ _ => pg_name (i := 17) sc_law.nd rfl (Or.inl rfl)) (fun _ _ _ _ _ => pts_nil) (fun _ _ _ _ _ => (pe_callB (cr_max rfl) (by rfl) Y.max (by decide +kernel) (pa_cons (pv 17) pa_nil)))) pa_nil)) (pe_op op_pow pe_int pe_int) (nomark _)) (pss_cons (ps_set (i := 4) sc_law.nd rfl (Or.inl rfl) (pe_call d_law_sized.G (hr.mono (by decide)) rfl d_law_sized.g d_law_sized.k d_law_sized.b .nil pass0 (pa_cons (pv 9) (pa_cons (pv 14) pa_nil))))
  (pss_cons (ps_set (i := 16) sc_law.nd rfl (Or.inl rfl) (pe_cmpR (op_eqD hr.units) (pe_call d_law_pattern.G (hr.mono (by decide)) rfl d_law_pattern.g d_law_pattern.k d_law_pattern.b .nil pass0 (pa_cons (pv 4) pa_nil)) (pv 11) (nomark _)))
  (pss_one (ps_if (pt_not (pt_val (pe_callG d_law_like.G g2 (hr.mono (by decide)) rfl d_law_like.g d_law_like.k d_law_like.b pass0 (pa_cons (pe_lst (pa_cons (pe_call dgo_alike.G (hr.mono (by decide)) rfl dgo_alike.g dgo_alike.k dgo_alike.b .nil pass0 (pa_cons (pv 9) (pa_cons (pv 4) pa_nil))) (pa_cons (pe_call dgo_alike.G (hr.mono (by decide)) rfl dgo_alike.g dgo_alike.k dgo_alike.b .nil pass0 (pa_cons (pv 4) (pa_cons (pv 9) pa_nil))) pa_nil))) (pa_cons (pe_lst (pa_cons (pv 16) (pa_cons (pv 16) pa_nil))) pa_nil))))) (pss_one (ps_ret pe_bl)) pss_nil)))) pss_nil)))
  (pss_cons (ps_set (i := 15) sc_law.nd rfl (Or.inl rfl) (pe_call d_law_wide.G (hr.mono (by decide)) rfl d_law_wide.g d_law_wide.k d_law_wide.b .nil pass0 (pa_cons (pv 1) (pa_cons pe_int (pa_cons (pe_tup (pa_cons pe_int (pa_cons pe_int pa_nil))) pa_nil)))))
  (pss_cons (ps_set (i := 16) sc_law.nd rfl (Or.inl rfl) (pe_and (pe_cmpR (op_eqD hr.units) (pe_call d_law_frame.G (hr.mono (by decide)) rfl d_law_frame.g d_law_frame.k d_law_frame.b .nil pass0 (pa_cons (pv 9) pa_nil)) (pe_call d_law_frame.G (hr.mono (by decide)) rfl d_law_frame.g d_law_frame.k d_law_frame.b .nil pass0 (pa_cons (pv 15) pa_nil)) (nomark _)) (pe_one (pe_cmpR (op_eqD hr.units) (pe_call d_law_pattern.G (hr.mono (by decide)) rfl d_law_pattern.g d_law_pattern.k d_law_pattern.b .nil pass0 (pa_cons (pv 15) pa_nil)) (pv 11) (nomark _)))))
  (pss_one (ps_if (pt_not (pt_val (pe_callG d_law_like.G g2 (hr.mono (by decide)) rfl d_law_like.g d_law_like.k d_law_like.b pass0 (pa_cons (pe_call dgo_alike.G (hr.mono (by decide)) rfl dgo_alike.g dgo_alike.k dgo_alike.b .nil pass0 (pa_cons (pv 9) (pa_cons (pv 15) pa_nil))) (pa_cons (pv 16) pa_nil))))) (pss_one (ps_ret pe_bl)) pss_nil))))))))))))))
  (pss_cons (ps_set (i := 3) sc_law.nd rfl (Or.inl rfl) (pe_tup (pa_cons (pe_tup (pa_cons (pe_tup (pa_cons (pe_tup (pa_cons pe_int (pa_cons pe_int (pa_cons (pe_tup (pa_cons pe_str pa_nil)) (pa_cons (pe_op op_pow pe_int pe_int) pa_nil))))) (pa_cons (pe_tup (pa_cons pe_int (pa_cons pe_int (pa_cons (pe_tup (pa_cons pe_str (pa_cons pe_int (pa_cons pe_str pa_nil)))) (pa_cons (pe_op op_sub (pe_op op_pow pe_int pe_int) pe_int) pa_nil))))) pa_nil))) pa_nil)) (pa_cons pe_int pa_nil))))
  (pss_cons (ps_set (i := 4) sc_law.nd rfl (Or.inl rfl) (pe_tup (pa_cons (pe_tup (pa_cons (pe_tup (pa_cons (pe_tup (pa_cons pe_int (pa_cons pe_int (pa_cons (pe_tup (pa_cons pe_str pa_nil)) (pa_cons pe_int pa_nil))))) (pa_cons (pe_tup (pa_cons pe_int (pa_cons pe_int (pa_cons (pe_tup (pa_cons pe_str (pa_cons pe_int (pa_cons pe_str pa_nil)))) (pa_cons pe_int pa_nil))))) pa_nil))) pa_nil)) (pa_cons pe_int pa_nil))))
  (pss_cons (ps_if (PW.pt (pw_or (pt_cmpR (op_neD hr.units) (pe_call dpattern.G (hr.mono (by decide)) rfl dpattern.g dpattern.k dpattern.b .nil pass0 (pa_cons (pv 3) pa_nil)) (pe_tup (pa_cons pe_str pa_nil)) (nomark _)) (pw_or1 (pt_not (pt_val (pe_call dgo_alike.G (hr.mono (by decide)) rfl dgo_alike.g dgo_alike.k dgo_alike.b .nil pass0 (pa_cons (pv 3) (pa_cons (pv 4) pa_nil)))))))) (pss_one (ps_ret pe_bl)) pss_nil)
  (pss_cons (ps_if (pt_val (pe_call dgo_alike.G (hr.mono (by decide)) rfl dgo_alike.g dgo_alike.k dgo_alike.b .nil pass0 (pa_cons (pv 3) (pa_cons (pe_tup (pa_cons (pe_tup (pa_cons (pe_tup (pa_cons (pe_tup (pa_cons pe_int (pa_cons pe_int (pa_cons (pe_tup (pa_cons pe_str pa_nil)) (pa_cons pe_int pa_nil))))) (pa_cons (pe_tup (pa_cons pe_int (pa_cons pe_int (pa_cons (pe_tup (pa_cons pe_str (pa_cons pe_int (pa_cons pe_str pa_nil)))) (pa_cons pe_int pa_nil))))) pa_nil))) pa_nil)) (pa_cons pe_int pa_nil))) pa_nil)))) (pss_one (ps_ret pe_bl)) pss_nil)
  (pss_cons (ps_set (i := 5) sc_law.nd rfl (Or.inr rfl) (pe_tup (pa_cons (pe_tup (pa_cons (pe_tup (pa_cons (pe_tup (pa_cons pe_int (pa_cons pe_int (pa_cons (pe_tup (pa_cons pe_str pa_nil)) (pa_cons pe_int pa_nil))))) pa_nil)) pa_nil)) (pa_cons pe_int pa_nil))))
  (pss_cons (ps_set (i := 6) sc_law.nd rfl (Or.inl rfl) (pe_lst (pa_cons (pe_tup (pa_cons (pe_ix ix_tup (pv 5) pe_int (fun _ _ => rfl)) (pa_cons pe_int pa_nil))) (pa_cons (pe_tup (pa_cons (pe_tup (pa_cons (pe_tup (pa_cons (pe_tup (pa_cons pe_int (pa_cons pe_int (pa_cons (pe_tup (pa_cons pe_str pa_nil)) (pa_cons pe_int pa_nil))))) pa_nil)) pa_nil)) (pa_cons pe_int pa_nil))) (pa_cons (pe_tup (pa_cons (pe_tup (pa_cons (pe_tup (pa_cons (pe_tup (pa_cons pe_int (pa_cons pe_int (pa_cons (pe_tup (pa_cons pe_str pa_nil)) (pa_cons pe_int pa_nil))))) pa_nil)) pa_nil)) (pa_cons pe_int pa_nil))) pa_nil)))))
  (pss_cons (ps_set (i := 7) sc_law.nd rfl (Or.inl rfl) (pe_op op_cat (pe_lc (own := [("far", 4)]) (g := gName 4) (tt := tYes) rfl sc_law.nd (pi_list (pv 6)) (blkOk_by (N := ["script", "m", "turn", "house", "far", "one", "some", "told_so", "sizes_so", "wide", "many", "due", "times", "near", "rows", "other", "is_so", "row"]) (sc := defScope s_law) (by decide +kernel)) (fun _ _ _ _ _ => pg_name (i := 4) sc_law.nd rfl (Or.inl rfl)) (fun _ _ _ _ _ => pts_nil) (fun _ _ _ _ _ => (pe_call dgo_alike.G (hr.mono (by decide)) rfl dgo_alike.g dgo_alike.k dgo_alike.b .nil pass0 (pa_cons (pv 5) (pa_cons (pv 4) pa_nil))))) (pe_lc (own := [("far", 4)]) (g := gName 4) (tt := tYes) rfl sc_law.nd (pi_list (pv 6)) (blkOk_by (N := ["script", "m", "turn", "house", "far", "one", "some", "told_so", "sizes_so", "wide", "many", "due", "times", "near", "rows", "other", "is_so", "row"]) (sc := defScope s_law) (by decide +kernel)) (fun _ _ _ _ _ => pg_name (i := 4) sc_law.nd rfl (Or.inl rfl)) (fun _ _ _ _ _ => pts_nil) (fun _ _ _ _ _ => (pe_call dgo_alike.G (hr.mono (by decide)) rfl dgo_alike.g dgo_alike.k dgo_alike.b .nil pass0 (pa_cons (pv 4) (pa_cons (pv 5) pa_nil)))))))
  (pss_one (ps_ret (pe_and (pe_cmpR (op_eqD hr.units) (pv 7) (pe_op op_rep (pe_lst (pa_cons pe_bl pa_nil)) pe_int) (nomark _)) (pe_one (pe_call dgo_alike.G (hr.mono (by decide)) rfl dgo_alike.g dgo_alike.k dgo_alike.b .nil pass0 (pa_cons (pv 5) (pa_cons (pe_tup (pa_cons (pe_tup (pa_cons (pe_tup (pa_cons (pe_tup (pa_cons pe_int (pa_cons pe_int (pa_cons (pe_tup (pa_cons pe_str pa_nil)) (pa_cons pe_int pa_nil))))) pa_nil)) pa_nil)) (pa_cons pe_int pa_nil))) pa_nil)))))))))))))))), begun_then (sv := B_law) (snd_seq (snd_for (snd_iR1 (snd_cons (snd_op o_add snd_int (snd_cb c_min2 (snd_cons snd_int (snd_cons (snd_cb c_len (snd_scr snd_nil)) snd_nil)))) snd_nil)) sndg_name
  (snd_seq (snd_asg (snd_call (snd_memo (snd_cons (snd_lst (snd_cons (snd_tup (snd_cons snd_int (snd_cons snd_int (snd_cons snd_int snd_nil)))) (snd_cons (snd_tup (snd_cons snd_int (snd_cons snd_int (snd_cons snd_int snd_nil)))) (snd_cons (snd_tup (snd_cons snd_int (snd_cons snd_int (snd_cons snd_int (snd_cons (snd_op o_pow snd_int snd_int) snd_nil))))) (snd_cons (snd_tup (snd_cons (snd_op o_pow snd_int snd_int) (snd_cons (snd_op o_add (snd_op o_pow snd_int snd_int) snd_int) (snd_cons snd_int snd_nil)))) snd_nil))))) snd_nil))) sndg_name)
  (snd_seq (snd_asg (snd_call (snd_memo (snd_cons snd_int (snd_cons snd_var snd_nil)))) sndg_name)
  (snd_seq (snd_asg (snd_call (snd_cons snd_var snd_nil)) sndg_name)
  (snd_seq (snd_asg (snd_call (snd_cons snd_var snd_nil)) sndg_name)
  (snd_seq (snd_ifS (snd_tnot (snd_tb (snd_call (snd_cons (snd_lst (snd_cons (snd_call (snd_cons snd_var snd_nil)) (snd_cons (snd_call (snd_cons snd_var snd_nil)) snd_nil))) (snd_cons (snd_lst (snd_cons snd_var (snd_cons snd_var snd_nil))) snd_nil))))) (snd_ret snd_bl) snd_next)
  (snd_seq (snd_asg (snd_op o_add snd_int (snd_call (snd_memo (snd_cons snd_int snd_nil)))) sndg_name)
  (snd_seq (snd_asg (snd_lc (snd_iLst snd_var) sndg_name snd_yes (snd_lc (snd_iLst snd_var) sndg_name snd_yes (snd_op o_mul snd_var snd_var) (by decide)) (by decide)) sndg_name)
  (snd_seq (snd_asg (snd_lc (snd_iLst snd_var) sndg_name snd_yes (snd_lc (snd_iLst snd_var) sndg_name snd_yes (snd_op o_add snd_var (snd_call (snd_memo (snd_cons snd_int snd_nil)))) (by decide)) (by decide)) sndg_name)
  (snd_seq (snd_for (snd_iTup (snd_tup (snd_cons (snd_if (snd_test (snd_op o_le (snd_cb c_max (snd_cons (snd_lc (snd_iLst snd_var) sndg_name snd_yes (snd_cb c_max (snd_cons snd_var snd_nil)) (by decide)) snd_nil)) (snd_op o_pow snd_int snd_int))) snd_var snd_var) (snd_cons snd_var (snd_cons snd_var snd_nil))))) sndg_name
  (snd_ifS (snd_test (snd_op o_le (snd_cb c_max (snd_cons (snd_lc (snd_iLst snd_var) sndg_name snd_yes (snd_cb c_max (snd_cons snd_var snd_nil)) (by decide)) snd_nil)) (snd_op o_pow snd_int snd_int))) (snd_seq (snd_asg (snd_call (snd_cons snd_var (snd_cons snd_var snd_nil))) sndg_name)
  (snd_seq (snd_asg (snd_op o_eqD (snd_call (snd_cons snd_var snd_nil)) snd_var) sndg_name)
  (snd_ifS (snd_tnot (snd_tb (snd_call (snd_cons (snd_lst (snd_cons (snd_call (snd_cons snd_var (snd_cons snd_var snd_nil))) (snd_cons (snd_call (snd_cons snd_var (snd_cons snd_var snd_nil))) snd_nil))) (snd_cons (snd_lst (snd_cons snd_var (snd_cons snd_var snd_nil))) snd_nil))))) (snd_ret snd_bl) snd_next))) snd_next))
  (snd_seq (snd_asg (snd_call (snd_memo (snd_cons snd_int (snd_cons (snd_tup (snd_cons snd_int (snd_cons snd_int snd_nil))) snd_nil)))) sndg_name)
  (snd_seq (snd_asg (snd_and (snd_op o_eqD (snd_call (snd_cons snd_var snd_nil)) (snd_call (snd_cons snd_var snd_nil))) (snd_op o_eqD (snd_call (snd_cons snd_var snd_nil)) snd_var)) sndg_name)
  (snd_ifS (snd_tnot (snd_tb (snd_call (snd_cons (snd_call (snd_cons snd_var (snd_cons snd_var snd_nil))) (snd_cons snd_var snd_nil))))) (snd_ret snd_bl) snd_next)))))))))))))
  (snd_seq (snd_asg (snd_tup (snd_cons (snd_tup (snd_cons (snd_tup (snd_cons (snd_tup (snd_cons snd_int (snd_cons snd_int (snd_cons (snd_tup (snd_cons snd_str snd_nil)) (snd_cons (snd_op o_pow snd_int snd_int) snd_nil))))) (snd_cons (snd_tup (snd_cons snd_int (snd_cons snd_int (snd_cons (snd_tup (snd_cons snd_str (snd_cons snd_int (snd_cons snd_str snd_nil)))) (snd_cons (snd_op o_sub (snd_op o_pow snd_int snd_int) snd_int) snd_nil))))) snd_nil))) snd_nil)) (snd_cons snd_int snd_nil))) sndg_name)
  (snd_seq (snd_asg (snd_tup (snd_cons (snd_tup (snd_cons (snd_tup (snd_cons (snd_tup (snd_cons snd_int (snd_cons snd_int (snd_cons (snd_tup (snd_cons snd_str snd_nil)) (snd_cons snd_int snd_nil))))) (snd_cons (snd_tup (snd_cons snd_int (snd_cons snd_int (snd_cons (snd_tup (snd_cons snd_str (snd_cons snd_int (snd_cons snd_str snd_nil)))) (snd_cons snd_int snd_nil))))) snd_nil))) snd_nil)) (snd_cons snd_int snd_nil))) sndg_name)
  (snd_seq (snd_ifS (snd_tor (snd_test (snd_op o_neD (snd_call (snd_cons snd_var snd_nil)) (snd_tup (snd_cons snd_str snd_nil)))) (snd_tnot (snd_tb (snd_call (snd_cons snd_var (snd_cons snd_var snd_nil)))))) (snd_ret snd_bl) snd_next)
  (snd_seq (snd_ifS (snd_tb (snd_call (snd_cons snd_var (snd_cons (snd_tup (snd_cons (snd_tup (snd_cons (snd_tup (snd_cons (snd_tup (snd_cons snd_int (snd_cons snd_int (snd_cons (snd_tup (snd_cons snd_str snd_nil)) (snd_cons snd_int snd_nil))))) (snd_cons (snd_tup (snd_cons snd_int (snd_cons snd_int (snd_cons (snd_tup (snd_cons snd_str (snd_cons snd_int (snd_cons snd_str snd_nil)))) (snd_cons snd_int snd_nil))))) snd_nil))) snd_nil)) (snd_cons snd_int snd_nil))) snd_nil)))) (snd_ret snd_bl) snd_next)
  (snd_seq (snd_asg (snd_tup (snd_cons (snd_tup (snd_cons (snd_tup (snd_cons (snd_tup (snd_cons snd_int (snd_cons snd_int (snd_cons (snd_tup (snd_cons snd_str snd_nil)) (snd_cons snd_int snd_nil))))) snd_nil)) snd_nil)) (snd_cons snd_int snd_nil))) sndg_name)
  (snd_seq (snd_asg (snd_lst (snd_cons (snd_tup (snd_cons (snd_op o_ixT snd_var snd_int) (snd_cons snd_int snd_nil))) (snd_cons (snd_tup (snd_cons (snd_tup (snd_cons (snd_tup (snd_cons (snd_tup (snd_cons snd_int (snd_cons snd_int (snd_cons (snd_tup (snd_cons snd_str snd_nil)) (snd_cons snd_int snd_nil))))) snd_nil)) snd_nil)) (snd_cons snd_int snd_nil))) (snd_cons (snd_tup (snd_cons (snd_tup (snd_cons (snd_tup (snd_cons (snd_tup (snd_cons snd_int (snd_cons snd_int (snd_cons (snd_tup (snd_cons snd_str snd_nil)) (snd_cons snd_int snd_nil))))) snd_nil)) snd_nil)) (snd_cons snd_int snd_nil))) snd_nil)))) sndg_name)
  (snd_seq (snd_asg (snd_op o_catL (snd_lc (snd_iLst snd_var) sndg_name snd_yes (snd_call (snd_cons snd_var (snd_cons snd_var snd_nil))) (by decide)) (snd_lc (snd_iLst snd_var) sndg_name snd_yes (snd_call (snd_cons snd_var (snd_cons snd_var snd_nil))) (by decide))) sndg_name)
  (snd_ret (snd_and (snd_op o_eqD snd_var (snd_op o_repL (snd_lst (snd_cons snd_bl snd_nil)) snd_int)) (snd_call (snd_cons snd_var (snd_cons (snd_tup (snd_cons (snd_tup (snd_cons (snd_tup (snd_cons (snd_tup (snd_cons snd_int (snd_cons snd_int (snd_cons (snd_tup (snd_cons snd_str snd_nil)) (snd_cons snd_int snd_nil))))) snd_nil)) snd_nil)) (snd_cons snd_int snd_nil))) snd_nil))))))))))))) rfl hS hz hQ (hl ns hz)⟩
end
end TSx

/-! Own layer, part Y6: how readings over data are gone through. -/
namespace TSx
open PySem L2 TL
section
variable {α β : Type} {g : GV} {t : TV} {e : EV} {δ0 δ : SD} {acc ds : List D} {r : Nat} {P : D → Nat → Prop}
theorem ex_some {α : Type} {a : α} {P : α → Prop} : (∃ z, some a = some z ∧ P z) ↔ P a := ⟨fun ⟨_, e, p⟩ => by cases e; exact p, fun p => ⟨a, rfl, p⟩⟩
theorem ex_if {α : Type} {c : Prop} [Decidable c] {a : α} {P : α → Prop} : (∃ z, (if c then some a else none) = some z ∧ P z) ↔ c ∧ P a := by
  constructor
  · rintro ⟨z, e, p⟩
    split at e
    · cases e; exact ⟨by assumption, p⟩
    · cases e
  · rintro ⟨h, p⟩
    exact ⟨a, if_pos h, p⟩
theorem ex_tup {ds : List D} {P : List D → Prop} : (∃ xs, D.tup ds = .tup xs ∧ P xs) ↔ P ds := ⟨fun ⟨_, e, p⟩ => by cases e; exact p, fun p => ⟨ds, rfl, p⟩⟩
theorem ex_lst {ds : List D} {P : List D → Prop} : (∃ xs, D.lst ds = .lst xs ∧ P xs) ↔ P ds := ⟨fun ⟨_, e, p⟩ => by cases e; exact p, fun p => ⟨ds, rfl, p⟩⟩
theorem ex_bl {b : Bool} {P : Bool → Prop} : (∃ c, D.bl b = .bl c ∧ P c) ↔ P b := ⟨fun ⟨_, e, p⟩ => by cases e; exact p, fun p => ⟨b, rfl, p⟩⟩
theorem ex_str {b : Str} {P : Str → Prop} : (∃ c, D.str b = .str c ∧ P c) ↔ P b := ⟨fun ⟨_, e, p⟩ => by cases e; exact p, fun p => ⟨b, rfl, p⟩⟩
theorem ex_str0 {b : Str} : (∃ c, D.str b = .str c) ↔ True := ⟨fun _ => trivial, fun _ => ⟨b, rfl⟩⟩
theorem ex_int {b : Int} {P : Int → Prop} : (∃ c, D.int b = .int c ∧ P c) ↔ P b := ⟨fun ⟨_, e, p⟩ => by cases e; exact p, fun p => ⟨b, rfl, p⟩⟩
theorem ex_i1 {b : Int} {P : Int → Prop} : (∃ c, [Sl.d (D.int b)] = [.d (.int c)] ∧ P c) ↔ P b := ⟨fun ⟨_, e, p⟩ => by cases e; exact p, fun p => ⟨b, rfl, p⟩⟩
theorem ex_i2 {a b : Int} {P : Int → Int → Prop} : (∃ c d, [Sl.d (D.int a), .d (.int b)] = [.d (.int c), .d (.int d)] ∧ P c d) ↔ P a b := ⟨fun ⟨_, _, e, p⟩ => by cases e; exact p, fun p => ⟨a, b, rfl, p⟩⟩
theorem ex_t1 {xs : List D} {P : List D → Prop} : (∃ c, [Sl.d (D.tup xs)] = [.d (.tup c)] ∧ P c) ↔ P xs := ⟨fun ⟨_, e, p⟩ => by cases e; exact p, fun p => ⟨xs, rfl, p⟩⟩
theorem ex_l1 {xs : List D} {P : List D → Prop} : (∃ c, [Sl.d (D.lst xs)] = [.d (.lst c)] ∧ P c) ↔ P xs := ⟨fun ⟨_, e, p⟩ => by cases e; exact p, fun p => ⟨xs, rfl, p⟩⟩
theorem ex_tt {a b : List D} {P : List D → List D → Prop} : (∃ c d, [Sl.d (D.tup a), .d (.tup b)] = [.d (.tup c), .d (.tup d)] ∧ P c d) ↔ P a b := ⟨fun ⟨_, _, e, p⟩ => by cases e; exact p, fun p => ⟨a, b, rfl, p⟩⟩
theorem ex_ll {a b : List D} {P : List D → List D → Prop} : (∃ c d, [Sl.d (D.lst a), .d (.lst b)] = [.d (.lst c), .d (.lst d)] ∧ P c d) ↔ P a b := ⟨fun ⟨_, _, e, p⟩ => by cases e; exact p, fun p => ⟨a, b, rfl, p⟩⟩
theorem ex_lt {a b : List D} {P : List D → List D → Prop} : (∃ c d, [Sl.d (D.lst a), .d (.tup b)] = [.d (.lst c), .d (.tup d)] ∧ P c d) ↔ P a b := ⟨fun ⟨_, _, e, p⟩ => by cases e; exact p, fun p => ⟨a, b, rfl, p⟩⟩
theorem ex_st {a : Str} {b : List D} {P : Str → List D → Prop} : (∃ c d, [Sl.d (D.str a), .d (.tup b)] = [.d (.str c), .d (.tup d)] ∧ P c d) ↔ P a b := ⟨fun ⟨_, _, e, p⟩ => by cases e; exact p, fun p => ⟨a, b, rfl, p⟩⟩
theorem ex_ts {a : List D} {b : Str} {P : List D → Str → Prop} : (∃ c d, [Sl.d (D.tup a), .d (.str b)] = [.d (.tup c), .d (.str d)] ∧ P c d) ↔ P a b := ⟨fun ⟨_, _, e, p⟩ => by cases e; exact p, fun p => ⟨a, b, rfl, p⟩⟩
theorem ex_ss {a b : Str} {P : Str → Str → Prop} : (∃ c d, [Sl.d (D.str a), .d (.str b)] = [.d (.str c), .d (.str d)] ∧ P c d) ↔ P a b := ⟨fun ⟨_, _, e, p⟩ => by cases e; exact p, fun p => ⟨a, b, rfl, p⟩⟩
theorem ex_own {xs : List D} {P : List D → Prop} : (∃ c, some (some (Sl.own xs)) = some (some (Sl.own c)) ∧ P c) ↔ P xs := ⟨fun ⟨_, e, p⟩ => by cases e; exact p, fun p => ⟨xs, rfl, p⟩⟩
theorem ex_own2 {xs : List D} {P : List D → Prop} : (∃ c, Sl.own xs = Sl.own c ∧ P c) ↔ P xs := ⟨fun ⟨_, e, p⟩ => by cases e; exact p, fun p => ⟨xs, rfl, p⟩⟩
theorem ex_par {a b : Sl} {P : Sl → Sl → Prop} : (∃ s t, [a, b] = [s, t] ∧ P s t) ↔ P a b := ⟨fun ⟨_, _, e, p⟩ => by cases e; exact p, fun p => ⟨a, b, rfl, p⟩⟩
theorem ex_draw {n : Int} {Q : Int → Prop} : (∃ k : Int, [Sl.memo, .d (.int n)] = [Sl.memo, .d (.int k)] ∧ Q k) ↔ Q n := ⟨fun ⟨_, e, p⟩ => by cases e; exact p, fun p => ⟨n, rfl, p⟩⟩
theorem q_isi {T : String} {d : D} {P : Bool → Prop} {b : Bool} (e : d.isE = false) (k : kitB d.ty T = some b) : (d.isE = false ∧ ∃ b, kitB d.ty T = some b ∧ P b) ↔ P b := ⟨fun ⟨_, c, h, p⟩ => by rw [k] at h; cases h; exact p, fun p => ⟨e, b, k, p⟩⟩
theorem kIS : kitB "str" "tuple" = some false := by decide +kernel
theorem kTI : kitB "tuple" "int" = some false := by decide +kernel
theorem kTB : kitB "tuple" "bool" = some false := by decide +kernel
theorem kTS : kitB "tuple" "str" = some false := by decide +kernel
theorem kIT : kitB "int" "tuple" = some false := by decide +kernel
theorem kISt : kitB "int" "str" = some false := by decide +kernel
theorem kBI : kitB "bool" "int" = some true := by decide +kernel
theorem kBB : kitB "bool" "bool" = some true := by decide +kernel
theorem kL1 : kitB "list" "tuple" = some false := by decide +kernel
theorem kL2 : kitB "list" "int" = some false := by decide +kernel
theorem kL3 : kitB "list" "str" = some false := by decide +kernel
theorem kS1 : kitB "str" "int" = some false := by decide +kernel
theorem kS2 : kitB "str" "bool" = some false := by decide +kernel
theorem kN1 : kitB "NoneType" "tuple" = some false := by decide +kernel
theorem kN2 : kitB "NoneType" "int" = some false := by decide +kernel
theorem kN3 : kitB "NoneType" "str" = some false := by decide +kernel
theorem z_isI {i : Int} {T : String} {r : Nat} : (D.int i).ty = "int" := rfl
/-! all of a comprehension at once -/
theorem lc_map {l : List α} {φ f : α → D} (h : ∀ a ∈ l, ∃ δ', g (φ a) δ0 = some δ' ∧ ∀ r P, P (f a) r → e δ' r P) (hz : acc.length + l.length ≤ 100000) (p : P (.lst (acc ++ l.map f)) r) : compD g vYes e δ0 (l.map φ) acc r P := by
  induction l generalizing acc r with
  | nil => show P (.lst acc) r; simpa using p
  | cons a l ih =>
    obtain ⟨δ', h1, h2⟩ := h a (List.mem_cons_self ..)
    rw [List.length_cons] at hz
    refine ⟨δ', h1, h2 _ _ ⟨by omega, ih (fun b hb => h b (List.mem_cons_of_mem _ hb)) (by rw [List.length_append]; simp only [List.length_cons, List.length_nil]; omega) ?_⟩⟩
    rw [List.append_assoc]
    exact p
/-- with a test -/
theorem lc_filt {l : List α} {φ f : α → D} {q : α → Bool} (h : ∀ a ∈ l, ∃ δ', g (φ a) δ0 = some δ' ∧ (∀ r (P : Bool → Nat → Prop), P (q a) r → t δ' r P) ∧ (q a = true → ∀ r P, P (f a) r → e δ' r P)) (hz : acc.length + l.length ≤ 100000) (p : P (.lst (acc ++ (l.filter q).map f)) r) : compD g t e δ0 (l.map φ) acc r P := by
  induction l generalizing acc r with
  | nil => show P (.lst acc) r; simpa using p
  | cons a l ih =>
    obtain ⟨δ', h1, h2, h3⟩ := h a (List.mem_cons_self ..)
    rw [List.length_cons] at hz
    refine ⟨δ', h1, h2 _ _ ?_⟩
    cases hq : q a with
    | true =>
      rw [List.filter_cons, if_pos hq] at p
      refine h3 hq _ _ ⟨by omega, ih (fun b hb => h b (List.mem_cons_of_mem _ hb)) (by rw [List.length_append]; simp only [List.length_cons, List.length_nil]; omega) ?_⟩
      rw [List.append_assoc]
      exact p
    | false =>
      rw [List.filter_cons, if_neg (by rw [hq]; simp)] at p
      exact ih (fun b hb => h b (List.mem_cons_of_mem _ hb)) (by omega) p
/-- with draws: R what may come of what, at most k draws a thing -/
theorem lc_rel {l : List α} {φ : α → D} {R : α → D → Prop} {k : Nat} (h : ∀ a ∈ l, ∃ δ', g (φ a) δ0 = some δ' ∧ ∀ r P, k ≤ r → (∀ d r', R a d → r - k ≤ r' → P d r') → e δ' r P) (hz : acc.length + l.length ≤ 100000) (hr : k * l.length ≤ r)
    (p : ∀ (ds : List D) (r' : Nat), ds.length = l.length → (∀ (i : Nat) (a : α) (d : D), l[i]? = some a → ds[i]? = some d → R a d) → r - k * l.length ≤ r' → P (.lst (acc ++ ds)) r') : compD g vYes e δ0 (l.map φ) acc r P := by
  induction l generalizing acc r with
  | nil =>
    show P (.lst acc) r
    simpa using p [] r rfl (fun i a d h => by simp at h) (by simp)
  | cons a l ih =>
    obtain ⟨δ', h1, h2⟩ := h a (List.mem_cons_self ..)
    rw [List.length_cons] at hz
    rw [List.length_cons, Nat.mul_succ] at hr p
    refine ⟨δ', h1, h2 _ _ (by omega) fun d r' hd hr' => ⟨by omega, ?_⟩⟩
    refine ih (fun b hb => h b (List.mem_cons_of_mem _ hb)) (by rw [List.length_append]; simp only [List.length_cons, List.length_nil]; omega) (by omega) fun ds r2 hl hR hr2 => ?_
    rw [List.append_assoc]
    refine p (d :: ds) r2 (by rw [List.length_cons, hl]) (fun i b c h1 h2 => ?_) (by omega)
    cases i with
    | zero => simp at h1 h2; subst h1 h2; exact hd
    | succ i => exact hR i b c (by simpa using h1) (by simpa using h2)
/-! loops: I by the place -/
theorem for_inv {l : List α} {φ : α → D} {b : SV} {E : EndsD} (I : Nat → SD → Nat → Prop) (h0 : I 0 δ r)
    (h : ∀ (i : Nat) (a : α) (δ : SD) (r : Nat), l[i]? = some a → I i δ r → ∀ N : SD → Nat → Prop, (∀ δ r, I (i + 1) δ r → N δ r) → ∃ δ', g (φ a) δ = some δ' ∧ b { E with nx := N, ct := N, bk := E.nx } δ' r)
    (p : ∀ δ r, I l.length δ r → E.nx δ r) : forD g b E (l.map φ) δ r := by
  suffices H : ∀ (k : Nat) (δ : SD) (r : Nat), k ≤ l.length → I (l.length - k) δ r → forD g b E ((l.drop (l.length - k)).map φ) δ r by
    have := H l.length δ r (Nat.le_refl _) (by rw [Nat.sub_self]; exact h0)
    rwa [Nat.sub_self, List.drop_zero] at this
  intro k
  induction k with
  | zero =>
    intro δ r _ hi
    rw [Nat.sub_zero] at hi ⊢
    rw [List.drop_length]
    exact p δ r hi
  | succ k ih =>
    intro δ r hk hi
    have hlt : l.length - (k + 1) < l.length := by omega
    rw [List.drop_eq_getElem_cons hlt, List.map_cons]
    have e : l.length - (k + 1) + 1 = l.length - k := by omega
    rw [e]
    exact h _ _ δ r (List.getElem?_eq_getElem hlt) hi _ fun δ r x => ih δ r (by omega) (by rw [← e]; exact x)
end
/-! the words by which a reading is laid open -/
theorem sl0 {α : Type} {a : α} {l : List α} {n : Nat} : (a :: l).set (n + 1) = fun b => a :: l.set n b := by funext b; rfl
end TSx

/-! Own layer, part Y7: what == and repr ask of data, by their making. -/
namespace TSx
open PySem L2 TL
/-- plain, and not deep -/
structure Yl (k : Nat) (d : D) : Prop where
  p : d.pl = true
  dp : d.py.depth ≤ k
theorem Yl.up {k k' : Nat} {d : D} (h : Yl k d) (l : k ≤ k') : Yl k' d := ⟨h.p, Nat.le_trans h.dp l⟩
theorem yl_all {k : Nat} : ∀ {ds : List D}, (∀ d ∈ ds, Yl k d) → plA ds = true ∧ PyData.depthAll (pyA ds) ≤ k
  | [], _ => ⟨rfl, by simp only [pyA, PyData.depthAll]; exact Nat.zero_le _⟩
  | d :: ds, h => by
    have a := h d List.mem_cons_self
    have b := yl_all fun e he => h e (List.mem_cons_of_mem _ he)
    refine ⟨?_, ?_⟩
    · show (d.pl && plA ds) = true
      rw [a.p, b.1]; rfl
    · simp only [pyA, PyData.depthAll]
      have := a.dp
      have := b.2
      omega
theorem yl_tup {k : Nat} {ds : List D} (h : ∀ d ∈ ds, Yl k d) : Yl (k + 1) (.tup ds) := by
  have a := yl_all h
  refine ⟨a.1, ?_⟩
  have := a.2
  simp only [D.py, PyData.depth]; omega
theorem yl_lst {k : Nat} {ds : List D} (h : ∀ d ∈ ds, Yl k d) : Yl (k + 1) (.lst ds) := by
  have a := yl_all h
  refine ⟨a.1, ?_⟩
  have := a.2
  simp only [D.py, PyData.depth]; omega
theorem yl_int {i : Int} : Yl 0 (.int i) := ⟨rfl, by simp only [D.py, PyData.depth]; exact Nat.le_refl _⟩
theorem yl_str {x : Str} (h : PySem.PyData.strOk x = true) : Yl 0 (.str x) := ⟨h, by simp only [D.py, PyData.depth]; exact Nat.le_refl _⟩
/-- small enough to be shown -/
structure Ym (w k : Nat) (d : D) : Prop where
  sh : d.sh = true
  sw : d.pd.showable = true
  lf : d.pd.leavesShort 13 = true
  wt : d.pd.weight ≤ w
  dp : d.pd.depth ≤ k
structure YmA (w k : Nat) (ds : List D) : Prop where
  sh : shA ds = true
  sw : PyData.showableAll (pdA ds) = true
  lf : PyData.leavesShortAll 13 (pdA ds) = true
  wt : PyData.weightAll (pdA ds) ≤ (w + 1) * ds.length
  dp : PyData.depthAll (pdA ds) ≤ k
theorem Ym.rd {w k : Nat} {d : D} (h : Ym w k d) (hw : w ≤ 2 ^ 20) (hk : k ≤ 50) : d.rd :=
  ⟨h.sh, h.sw, PyData.shown_fits (B := 13) (by decide) (by decide) h.lf (Nat.le_trans h.wt hw), Nat.le_trans h.dp hk⟩
theorem Ym.up {w k w' k' : Nat} {d : D} (h : Ym w k d) (hw : w ≤ w') (hk : k ≤ k') : Ym w' k' d := ⟨h.sh, h.sw, h.lf, Nat.le_trans h.wt hw, Nat.le_trans h.dp hk⟩
theorem ymA {w k : Nat} : ∀ {ds : List D}, (∀ d ∈ ds, Ym w k d) → YmA w k ds
  | [], _ => ⟨by simp only [shA], by simp only [pdA, PyData.showableAll], by simp only [pdA, PyData.leavesShortAll], by simp only [pdA, PyData.weightAll]; exact Nat.zero_le _, by simp only [pdA, PyData.depthAll]; exact Nat.zero_le _⟩
  | d :: ds, h => by
    have a := h d List.mem_cons_self
    have b := ymA fun e he => h e (List.mem_cons_of_mem _ he)
    refine ⟨?_, ?_, ?_, ?_, ?_⟩
    · simp only [shA, a.sh, b.sh, Bool.and_true]
    · simp only [pdA, PyData.showableAll, a.sw, b.sw, Bool.and_true]
    · simp only [pdA, PyData.leavesShortAll, a.lf, b.lf, Bool.and_true]
    · simp only [pdA, PyData.weightAll, List.length_cons]
      have e : (w + 1) * (ds.length + 1) = (w + 1) * ds.length + (w + 1) := Nat.mul_succ _ _
      have := a.wt
      have := b.wt
      omega
    · simp only [pdA, PyData.depthAll]
      have := a.dp
      have := b.dp
      omega
theorem ym_tup {w k m : Nat} {ds : List D} (h : ∀ d ∈ ds, Ym w k d) (hm : ds.length ≤ m) : Ym ((w + 1) * m) (k + 1) (.tup ds) := by
  have a := ymA h
  have := Nat.mul_le_mul_left (w + 1) hm
  have := a.wt
  have := a.dp
  refine ⟨?_, ?_, ?_, ?_, ?_⟩
  · simp only [D.sh, a.sh]
  · simp only [D.pd, PyData.showable, a.sw]
  · simp only [D.pd, PyData.leavesShort, a.lf]
  · simp only [D.pd, PyData.weight]; omega
  · simp only [D.pd, PyData.depth]; omega
theorem ym_lst {w k m : Nat} {ds : List D} (h : ∀ d ∈ ds, Ym w k d) (hm : ds.length ≤ m) : Ym ((w + 1) * m) (k + 1) (.lst ds) := by
  have a := ymA h
  have := Nat.mul_le_mul_left (w + 1) hm
  have := a.wt
  have := a.dp
  refine ⟨?_, ?_, ?_, ?_, ?_⟩
  · simp only [D.sh, a.sh]
  · simp only [D.pd, PyData.showable, a.sw]
  · simp only [D.pd, PyData.leavesShort, a.lf]
  · simp only [D.pd, PyData.weight]; omega
  · simp only [D.pd, PyData.depth]; omega
theorem ym_int {i : Int} (h : i.natAbs < 1000000) : Ym 20 0 (.int i) := by
  have l2 : i.natAbs ≠ 0 → i.natAbs.log2 < 20 := fun z => (Nat.log2_lt z).2 (by omega)
  have l3 : i.natAbs.log2 < 20 := by
    by_cases z : i.natAbs = 0
    · rw [z]; decide
    · exact l2 z
  refine ⟨rfl, ?_, ?_, ?_, ?_⟩
  · simp only [D.pd, PyData.showable, decide_eq_true_eq]; omega
  · simp only [D.pd, PyData.leavesShort, decide_eq_true_eq]; exact PyData.shown_int_le (by omega)
  · simp only [D.pd, PyData.weight]; split <;> omega
  · simp only [D.pd, PyData.depth]; exact Nat.le_refl _

theorem ym_txt {m : Nat} {x : Str} (h : ∀ c ∈ x.cps.toList, c < 128) (l : x.cps.size ≤ m) : Ym m 0 (.str x) := by
  refine ⟨rfl, ?_, ?_, ?_, ?_⟩
  · simp only [D.pd, PyData.showable]
  · simp only [D.pd, PyData.leavesShort, List.all_eq_true, decide_eq_true_eq]
    intro c hc
    exact Nat.lt_of_lt_of_le (h c hc) (by decide)
  · simp only [D.pd, PyData.weight]
    exact l
  · simp only [D.pd, PyData.depth]; exact Nat.le_refl _
theorem ym_bl {b : Bool} : Ym 20 0 (.bl b) := by
  refine ⟨rfl, ?_, ?_, ?_, ?_⟩
  · simp only [D.pd, PyData.showable]
  · simp only [D.pd, PyData.leavesShort]
  · simp only [D.pd, PyData.weight]; exact Nat.zero_le _
  · simp only [D.pd, PyData.depth]; exact Nat.le_refl _
theorem ym_non : Ym 20 0 .non := by
  refine ⟨rfl, ?_, ?_, ?_, ?_⟩
  · simp only [D.pd, PyData.showable]
  · simp only [D.pd, PyData.leavesShort]
  · simp only [D.pd, PyData.weight]; exact Nat.zero_le _
  · simp only [D.pd, PyData.depth]; exact Nat.le_refl _
theorem yl_bl {b : Bool} : Yl 0 (.bl b) := ⟨rfl, by simp only [D.py, PyData.depth]; exact Nat.le_refl _⟩
theorem yl_non : Yl 0 .non := ⟨rfl, by simp only [D.py, PyData.depth]; exact Nat.le_refl _⟩
theorem yl_txt {x : Str} (h : ∀ c ∈ x.cps.toList, c < 128) : Yl 0 (.str x) := by
  refine yl_str ?_
  unfold PySem.PyData.strOk
  rw [Array.all_eq_true']
  intro c hc
  have := h c (by simpa using hc)
  have key : ∀ c : _root_.Fin 128, PySem.PyData.strOk ⟨#[c.val]⟩ = true := by decide +kernel
  have k := key ⟨c, this⟩
  unfold PySem.PyData.strOk at k
  rw [Array.all_eq_true'] at k
  exact k c (by simp)
/-! data in which == is the very same -/
mutual
def D.ck : D → Bool
  | .int _ => true
  | .str _ => true
  | .lst xs => ckA xs
  | .tup xs => ckA xs
  | _ => false
def ckA : List D → Bool
  | [] => true
  | x :: xs => x.ck && ckA xs
end
theorem ckA_of : ∀ {ds : List D}, (∀ d ∈ ds, d.ck = true) → ckA ds = true
  | [], _ => rfl
  | d :: ds, h => by
    show (d.ck && ckA ds) = true
    rw [h d List.mem_cons_self, ckA_of fun e he => h e (List.mem_cons_of_mem _ he)]
    rfl
theorem ck_tup {ds : List D} (h : ∀ d ∈ ds, d.ck = true) : (D.tup ds).ck = true := ckA_of h
theorem ck_lst {ds : List D} (h : ∀ d ∈ ds, d.ck = true) : (D.lst ds).ck = true := ckA_of h
mutual
theorem eqv_ck : ∀ {d e : D}, d.ck = true → e.ck = true → PyData.eqv d.py e.py = true → d = e
  | .int i, .int j, _, _, h => by
    have h' : (i == j) = true := h
    rw [eq_of_beq h']
  | .int _, .str _, _, _, h => by cases h
  | .int _, .lst _, _, _, h => by cases h
  | .int _, .tup _, _, _, h => by cases h
  | .str x, .str y, _, _, h => by
    have h' : (x == y) = true := h
    rw [eq_of_beq h']
  | .str _, .int _, _, _, h => by cases h
  | .str _, .lst _, _, _, h => by cases h
  | .str _, .tup _, _, _, h => by cases h
  | .lst xs, .lst ys, h1, h2, h => by rw [eqvA_ck (show ckA xs = true from h1) (show ckA ys = true from h2) h]
  | .lst _, .int _, _, _, h => by cases h
  | .lst _, .str _, _, _, h => by cases h
  | .lst _, .tup _, _, _, h => by cases h
  | .tup xs, .tup ys, h1, h2, h => by rw [eqvA_ck (show ckA xs = true from h1) (show ckA ys = true from h2) h]
  | .tup _, .int _, _, _, h => by cases h
  | .tup _, .str _, _, _, h => by cases h
  | .tup _, .lst _, _, _, h => by cases h
  | .non, _, h, _, _ => by cases h
  | .bl _, _, h, _, _ => by cases h
  | .dic _, _, h, _, _ => by cases h
  | .exc _ _, _, h, _, _ => by cases h
  | .int _, .non, _, h, _ => by cases h
  | .int _, .bl _, _, h, _ => by cases h
  | .int _, .dic _, _, h, _ => by cases h
  | .int _, .exc _ _, _, h, _ => by cases h
  | .str _, .non, _, h, _ => by cases h
  | .str _, .bl _, _, h, _ => by cases h
  | .str _, .dic _, _, h, _ => by cases h
  | .str _, .exc _ _, _, h, _ => by cases h
  | .lst _, .non, _, h, _ => by cases h
  | .lst _, .bl _, _, h, _ => by cases h
  | .lst _, .dic _, _, h, _ => by cases h
  | .lst _, .exc _ _, _, h, _ => by cases h
  | .tup _, .non, _, h, _ => by cases h
  | .tup _, .bl _, _, h, _ => by cases h
  | .tup _, .dic _, _, h, _ => by cases h
  | .tup _, .exc _ _, _, h, _ => by cases h
theorem eqvA_ck : ∀ {d e : List D}, ckA d = true → ckA e = true → PyData.eqvAll (pyA d) (pyA e) = true → d = e
  | [], [], _, _, _ => rfl
  | [], _ :: _, _, _, h => by cases h
  | _ :: _, [], _, _, h => by cases h
  | x :: xs, y :: ys, h1, h2, h => by
    have h1' : (x.ck && ckA xs) = true := h1
    have h2' : (y.ck && ckA ys) = true := h2
    have h' : (PyData.eqv x.py y.py && PyData.eqvAll (pyA xs) (pyA ys)) = true := h
    rw [Bool.and_eq_true] at h1' h2' h'
    rw [eqv_ck h1'.1 h2'.1 h'.1, eqvA_ck h1'.2 h2'.2 h'.2]
end
theorem eqv_iff {k k' : Nat} {d e : D} (hd : Yl k d) (he : Yl k' e) (cd : d.ck = true) (ce : e.ck = true) : PyData.eqv d.py e.py = true ↔ d = e := ⟨eqv_ck cd ce, fun h => by subst h; exact PySem.SeqAt.eqv_refl _ (lay_pl d hd.p)⟩
theorem opEqD_of {k k' : Nat} {d e : D} (hd : Yl k d) (he : Yl k' e) (lk : k ≤ 64) (lk' : k' ≤ 64) : opEqD d e = some (.bl (PyData.eqv d.py e.py)) := if_pos ⟨hd.p, he.p, Nat.le_trans hd.dp lk, Nat.le_trans he.dp lk'⟩
theorem opNeD_of {k k' : Nat} {d e : D} (hd : Yl k d) (he : Yl k' e) (lk : k ≤ 64) (lk' : k' ≤ 64) : opNeD d e = some (.bl (!PyData.eqv d.py e.py)) := if_pos ⟨hd.p, he.p, Nat.le_trans hd.dp lk, Nat.le_trans he.dp lk'⟩
/-! some of the numbers -/
theorem intsD_map {α : Type} (f : α → Int) : ∀ l : List α, intsD (l.map fun a => .int (f a)) = some (l.map f)
  | [] => rfl
  | a :: l => by show (intsD (l.map fun a => D.int (f a))).map (f a :: ·) = _; rw [intsD_map f l]; rfl
theorem strsD_map {α : Type} (f : α → Str) : ∀ l : List α, strsD (l.map fun a => .str (f a)) = some (l.map f)
  | [] => rfl
  | a :: l => by show (strsD (l.map fun a => D.str (f a))).map (f a :: ·) = _; rw [strsD_map f l]; rfl
theorem blsD_map {α : Type} (f : α → Bool) : ∀ l : List α, blsD (l.map fun a => .bl (f a)) = some (l.map f)
  | [] => rfl
  | a :: l => by show (blsD (l.map fun a => D.bl (f a))).map (f a :: ·) = _; rw [blsD_map f l]; rfl
theorem atD_nat {xs : List D} {i : Nat} : atD xs (i : Int) = xs[i]? := by
  unfold atD
  rw [if_pos (by omega)]
  simp
theorem at0 {a : D} {l : List D} : atD (a :: l) 0 = some a := rfl
theorem at1 {a b : D} {l : List D} : atD (a :: b :: l) 1 = some b := rfl
theorem at2 {a b c : D} {l : List D} : atD (a :: b :: c :: l) 2 = some c := rfl
theorem at3 {a b c d : D} {l : List D} : atD (a :: b :: c :: d :: l) 3 = some d := rfl
theorem atD_map {α : Type} {f : α → D} {l : List α} {i : Nat} {a : α} (h : l[i]? = some a) : atD (l.map f) (i : Int) = some (f a) := by
  rw [atD_nat, List.getElem?_map, h]
  rfl
theorem atD_mem {xs : List D} {i : Int} (h0 : 0 ≤ i) (h1 : i < xs.length) : ∃ d ∈ xs, atD xs i = some d := by
  have h : i.toNat < xs.length := by omega
  refine ⟨xs[i.toNat], List.getElem_mem h, ?_⟩
  unfold atD
  rw [if_pos h0, List.getElem?_eq_getElem h]
theorem enum_map {α : Type} {f : α → D} {l : List α} : enumD (l.map f) = l.zipIdx.map fun p => .tup [.int (p.2 : Nat), f p.1] := by
  unfold enumD
  rw [List.zipIdx_map, List.map_map]
  rfl
theorem pairs_map {α β : Type} {f : α → D} {h : β → D} {l : List α} {m : List β} : pairsD (l.map f) (m.map h) = (l.zip m).map fun p => .tup [f p.1, h p.2] := by
  unfold pairsD
  rw [List.zip_map, List.map_map]
  rfl
section
variable {α β : Type} {g g1 : GV} {t : TV} {e : EV} {δ0 δ : SD} {acc ds : List D} {r : Nat} {P : D → Nat → Prop}
/-- two clauses -/
theorem lc2_map {i1 : IV} {vs1 : List Nat} {l : List α} {φ : α → D} {m : α → List β} {ψ : β → D} {f : α → β → D}
    (h : ∀ a ∈ l, ∃ δ', g (φ a) δ0 = some δ' ∧ (∀ r P, P ((m a).map ψ) r → i1 δ' r P) ∧ ∀ b ∈ m a, ∃ δ2, g1 (ψ b) (wipeD δ' vs1) = some δ2 ∧ ∀ r P, P (f a b) r → e δ2 r P)
    (hz : acc.length + ((l.map fun a => (m a).length).sum) ≤ 100000) (p : P (.lst (acc ++ (l.map fun a => (m a).map (f a)).flatten)) r) : compD2 g vYes i1 g1 vYes e vs1 δ0 (l.map φ) acc r P := by
  induction l generalizing acc r with
  | nil => show P (.lst acc) r; simpa using p
  | cons a l ih =>
    obtain ⟨δ', h1, h2, h3⟩ := h a (List.mem_cons_self ..)
    rw [List.map_cons, List.sum_cons] at hz
    refine ⟨δ', h1, h2 _ _ (lc_map (f := f a) h3 (by omega) ⟨_, rfl, ?_⟩)⟩
    refine ih (fun b hb => h b (List.mem_cons_of_mem _ hb)) (by rw [List.length_append, List.length_map]; omega) ?_
    rw [List.append_assoc]
    simpa using p
end
end TSx

namespace TSx
open PySem L2 TL
local macro_rules | `(tactic| walk_at "sx") => `(tactic| simp only [runD, sSeq, sNext, sBrk, sCnt, sIf, sRet, sRetN, sDrop, sNew, sApp, sFrz, sPar, sFor, sAsg, eVar, eC, eOp, eUn, eCB, eM1, eCall, eIf, eAnd, eOr, eNot, eTup, eLst, eChain, eLc, eLc2, eIsi, eSl, oNo, oPart, eOwnTup, eOwnLen, eBack, eRepr,
  aNil, aCons, aMemo, aScr, vE, vNot, vAnd, vOr, vYes, iTupD, iLstD, iStrD, iR1, iR2, iEnD, iEnL, iZTT, iZLL, iZLT, iZST, iZTS, iZSS, gvTup, gvCons, gvName, gvNil, wipeD, datas,
  opAdd, opSub, opMul, opMod, opFdiv, opPow, opLt, opLe, opGt, opGe, opNeg, opI, opB, opIC, opCatL, opCatT, opCatS, opRepL, opEq, opNe, eqSc, opIsN, opNotN, opIxL, opIxT, opIx, cLen, cLenS, cTup, cLst, cMin2, cInt, cIntB, cLcm, lstD, cSum, cAll, cAny, cMax, slT, slL, slS, opRev, mCount, mFind, mJoin, seqD, atD_nat, at0, at1, at2, at3, Int.cast_ofNat_Int, Int.reduceEq, Int.reduceLE, Int.reduceLT, decide_true, decide_false, D.ty, D.isE, kInt, kIntB, kTup, kStr, kIS, kTI, kTB, kTS, kIT, kISt, kBI, kBB, kL1, kL2, kL3, kS1, kS2, kN1, kN2, kN3,
  ex_tup, ex_lst, ex_bl, ex_str, ex_str0, ex_int, ex_i1, ex_i2, ex_t1, ex_l1, ex_tt, ex_ll, ex_lt, ex_st, ex_ts, ex_ss, ex_own, ex_par, ex_draw, ex_some, ex_if, Option.some.injEq, exists_eq_left', Option.map_some, Option.bind_some, Option.map_none,
  List.map_cons, List.map_nil, List.cons_append, List.nil_append, List.replicate, List.length_cons, List.length_nil, List.getElem?_cons_zero, List.getElem?_cons_succ, List.set_cons_zero, List.set_cons_succ, cond_true, cond_false, Bool.not_true, Bool.not_false, true_and, and_true, Nat.reduceAdd, Nat.reduceLeDiff, if_true, ite_true, Bool.and_true, Bool.true_and])
theorem q_and {a b : Bool} {r : Nat} {P : D → Nat → Prop} (p : P (.bl (a && b)) r) : bif a then P (.bl b) r else P (.bl false) r := by cases a <;> exact p
theorem q_ite {c : Bool} {A B : Prop} (h1 : c = true → A) (h2 : c = false → B) : bif c then A else B := by
  cases c with
  | true => exact h1 rfl
  | false => exact h2 rfl
/-- a group: a seat, and how many -/
abbrev Grp := Seat × Nat
def gD (g : Grp) : D := .tup [.int (g.1.term : Nat), .int (g.1.phase : Nat), g.1.way.d, .int (g.2 : Nat)]
def gbD (b : List Grp) : D := .tup (b.map gD)
structure WHouse where
  bodies : List (List Grp)
  wards : Nat
def WHouse.d (h : WHouse) : D := .tup [.tup (h.bodies.map gbD), .int (h.wards : Nat)]
def lcmG (c : Nat) (b : List Grp) : Nat := b.foldl (fun c g => (Nat.lcm 1 c).lcm g.1.term) c
structure Grp.ok (n wards : Nat) (g : Grp) : Prop where
  s : g.1.ok n wards
  m1 : 1 ≤ g.2
  m2 : g.2 ≤ 10 ^ 30
structure WHouse.ok (h : WHouse) : Prop where
  w : h.wards ≤ 4
  n1 : 1 ≤ h.bodies.length
  n3 : h.bodies.length ≤ 3
  b : ∀ b ∈ h.bodies, 1 ≤ b.length ∧ b.length ≤ 4
  g : ∀ b ∈ h.bodies, ∀ g ∈ b, Grp.ok h.bodies.length h.wards g
  lc : h.bodies.foldl lcmG 1 ≤ 12
theorem lcm_60 {c t : Nat} (hc : c ∣ 60) (h1 : 1 ≤ t) (h6 : t ≤ 6) : (Nat.lcm 1 c).lcm t ∣ 60 := by
  rw [Nat.lcm_one_left]
  refine Nat.lcm_dvd hc ?_
  have : t = 1 ∨ t = 2 ∨ t = 3 ∨ t = 4 ∨ t = 5 ∨ t = 6 := by omega
  rcases this with rfl | rfl | rfl | rfl | rfl | rfl <;> decide
theorem lcmG_60 {b : List Grp} : ∀ {c : Nat}, c ∣ 60 → (∀ s ∈ b, 1 ≤ s.1.term ∧ s.1.term ≤ 6) → lcmG c b ∣ 60 := by
  induction b with
  | nil => intro c h _; exact h
  | cons s l ih =>
    intro c h a
    have q := a s (List.mem_cons_self ..)
    exact ih (lcm_60 h q.1 q.2) fun x hx => a x (List.mem_cons_of_mem _ hx)
theorem lcmGs_60 {l : List (List Grp)} : ∀ {c : Nat}, c ∣ 60 → (∀ b ∈ l, ∀ s ∈ b, 1 ≤ s.1.term ∧ s.1.term ≤ 6) → l.foldl lcmG c ∣ 60 := by
  induction l with
  | nil => intro c h _; exact h
  | cons b l ih => intro c h a; exact ih (lcmG_60 h (a b (List.mem_cons_self ..))) fun x hx => a x (List.mem_cons_of_mem _ hx)
theorem log60' {n : Nat} (h : n ∣ 60) : ((n : Int)).natAbs.log2 < bitsLine := by
  have le : n ≤ 60 := Nat.le_of_dvd (by decide) h
  have : (n : Int).natAbs = n := by omega
  rw [this]
  have l6 : n.log2 ≤ 6 := by
    by_cases z : n = 0
    · subst z; decide
    · have := (Nat.log2_lt z (k := 6)).2 (by omega)
      omega
  exact Nat.lt_of_le_of_lt l6 (by decide)
section
variable {r : Nat} {P : D → Nat → Prop}
theorem q_whole {i a b : Int} (p : P (.bl (decide (a ≤ i) && decide (i ≤ b))) r) : S_is_whole [.d (.int i), .d (.int a), .d (.int b)] r P := by
  unfold S_is_whole B_is_whole
  walk_at "sx"
  exact q_and p
theorem q_wholeT {i a b : Int} (h1 : a ≤ i) (h2 : i ≤ b) (p : P (.bl true) r) : S_is_whole [.d (.int i), .d (.int a), .d (.int b)] r P := q_whole (by rw [decide_eq_true h1, decide_eq_true h2]; exact p)
theorem q_tuple {xs : List D} {a b : Int} (p : P (.bl (decide (a ≤ xs.length) && decide ((xs.length : Int) ≤ b))) r) : S_is_tuple [.d (.tup xs), .d (.int a), .d (.int b)] r P := by
  unfold S_is_tuple B_is_tuple
  walk_at "sx"
  exact q_and p
theorem q_tupleT {xs : List D} {a b : Int} (h1 : a ≤ xs.length) (h2 : (xs.length : Int) ≤ b) (p : P (.bl true) r) : S_is_tuple [.d (.tup xs), .d (.int a), .d (.int b)] r P := q_tuple (by rw [decide_eq_true h1, decide_eq_true h2]; exact p)
theorem q_word {x : Str} {ws : List Str} (p : P (.bl (ws.any fun y => y == x)) r) : S_is_word [.d (.str x), .d (.tup (ws.map .str))] r P := by
  unfold S_is_word B_is_word
  walk_at "sx"
  have e := strsD_map (fun x : Str => x) ws
  rw [List.map_id'] at e
  exact ⟨_, by unfold opInQ seqD; show (strsD (ws.map .str)).map _ = _; rw [show (ws.map D.str) = ws.map (fun x => D.str x) from rfl, e]; rfl, p⟩
theorem q_wordT {x : Str} {ws : List Str} {ds : List D} (e : ds = ws.map .str) (h : x ∈ ws) (p : P (.bl true) r) : S_is_word [.d (.str x), .d (.tup ds)] r P := by
  subst e
  refine q_word ?_
  rw [show (ws.any fun y => y == x) = true from List.any_eq_true.mpr ⟨x, h, by simp⟩]
  exact p
theorem q_way {w : Way} {n wards : Nat} (h : w.ok n wards) (p : P (.bl true) r) : S_is_way [.d w.d, .d (.int n), .d (.int wards)] r P := by
  unfold S_is_way B_is_way
  cases w with
  | ward i =>
    have hi : i < wards := h
    unfold Way.d
    walk_at "sx"
    refine q_tupleT (by simp) (by simp) ?_
    walk_at "sx"
    refine q_wordT (x := "ward") (ws := ["ward"]) rfl (by simp) ?_
    walk_at "sx"
    exact q_wholeT (by omega) (by omega) p
  | body i t =>
    obtain ⟨hi, ht⟩ : i < n ∧ t ∈ tiesL := h
    unfold Way.d
    walk_at "sx"
    refine q_tupleT (by simp) (by simp) ?_
    walk_at "sx"
    refine q_wordT (x := "body") (ws := ["body", "rest"]) rfl (by simp) ?_
    walk_at "sx"
    refine q_wordT (x := t) (ws := tiesL) rfl ht ?_
    walk_at "sx"
    exact q_wholeT (by omega) (by omega) p
  | rest i t =>
    obtain ⟨hi, ht⟩ : i < n ∧ t ∈ tiesL := h
    unfold Way.d
    walk_at "sx"
    refine q_tupleT (by simp) (by simp) ?_
    walk_at "sx"
    refine q_wordT (x := "rest") (ws := ["body", "rest"]) rfl (by simp) ?_
    walk_at "sx"
    refine q_wordT (x := t) (ws := tiesL) rfl ht ?_
    walk_at "sx"
    exact q_wholeT (by omega) (by omega) p
  | kept =>
    unfold Way.d
    walk_at "sx"
    refine q_tupleT (by simp) (by simp) ?_
    walk_at "sx"
    exact q_wordT (x := "kept") (ws := ["kept"]) rfl (by simp) p
theorem q_seat {s : Seat} {n wards : Nat} (h : s.ok n wards) (p : P (.bl true) r) : S_is_seat [.d s.d, .d (.int n), .d (.int wards)] r P := by
  unfold S_is_seat B_is_seat Seat.d
  obtain ⟨t1, t6, hp, hw⟩ := h
  walk_at "sx"
  refine q_tupleT (by simp) (by simp) ?_
  walk_at "sx"
  refine q_wholeT (by omega) (by omega) ?_
  walk_at "sx"
  refine q_wholeT (by omega) (by omega) ?_
  walk_at "sx"
  exact q_way hw p
theorem q_group {g : Grp} {n wards : Nat} (h : g.ok n wards) (p : P (.bl true) r) : S__is_group [.d (gD g), .d (.int n), .d (.int wards)] r P := by
  unfold S__is_group B__is_group gD
  walk_at "sx"
  refine q_tupleT (by simp) (by simp) ?_
  walk_at "sx"
  rw [show cutD [D.int (g.1.term : Nat), .int (g.1.phase : Nat), g.1.way.d, .int (g.2 : Nat)] none (some 3) = [D.int (g.1.term : Nat), .int (g.1.phase : Nat), g.1.way.d] from rfl]
  refine q_seat (s := g.1) h.s ?_
  walk_at "sx"
  have m1 := h.m1
  have m2 := h.m2
  exact q_wholeT (by omega) (by omega) p
theorem q_groups {b : List Grp} {i : Int} {n wards : Nat} (l1 : 1 ≤ b.length) (l4 : b.length ≤ 4) (h : ∀ g ∈ b, Grp.ok n wards g) (p : P .non r) : S__need_groups [.d (gbD b), .d (.int i), .d (.int n), .d (.int wards)] r P := by
  unfold S__need_groups B__need_groups gbD
  walk_at "sx"
  refine q_tupleT (by rw [List.length_map]; omega) (by rw [List.length_map]; omega) ?_
  walk_at "sx"
  rw [enum_map]
  refine for_inv (fun _ δ r' => r = r' ∧ ∃ o4 o5, δ = [some (.d (.tup (b.map gD))), some (.d (.int i)), some (.d (.int n)), some (.d (.int wards)), o4, o5]) ⟨rfl, _, _, rfl⟩ ?_ ?_
  · rintro k ⟨g, j⟩ δ _ hk ⟨rfl, o4, o5, rfl⟩ N hN
    have hg : g ∈ b := by
      have := List.mem_of_getElem? hk
      exact List.fst_mem_of_mem_zipIdx this
    walk_at "sx"
    refine q_group (h g hg) ?_
    walk_at "sx"
    exact hN _ _ ⟨rfl, _, _, rfl⟩
  · rintro δ _ ⟨rfl, _⟩
    exact p
theorem q_common {bs : List (List Grp)} (h : ∀ b ∈ bs, ∀ s ∈ b, 1 ≤ s.1.term ∧ s.1.term ≤ 6) (p : P (.int (bs.foldl lcmG 1 : Nat)) r) : S_common_term [.d (.tup (bs.map gbD))] r P := by
  unfold S_common_term B_common_term
  walk_at "sx"
  refine for_inv (fun j δ r' => r = r' ∧ ∃ o2 o3, δ = [some (.d (.tup (bs.map gbD))), some (.d (.int ((bs.take j).foldl lcmG 1 : Nat))), o2, o3]) ⟨rfl, _, _, rfl⟩ ?_ ?_
  · rintro j b δ _ hj ⟨rfl, o2, o3, rfl⟩ N hN
    have tk : (bs.take (j + 1)).foldl lcmG 1 = lcmG ((bs.take j).foldl lcmG 1) b := by rw [List.take_add_one, hj, List.foldl_append]; rfl
    have c60 : (bs.take j).foldl lcmG 1 ∣ 60 := lcmGs_60 (by decide) fun b hb => h b (List.mem_of_mem_take hb)
    have tb := h b (List.mem_of_getElem? hj)
    unfold gbD
    walk_at "sx"
    refine for_inv (fun i δ r' => r = r' ∧ ∃ o3, δ = [some (.d (.tup (bs.map gbD))), some (.d (.int (lcmG ((bs.take j).foldl lcmG 1) (b.take i) : Nat))), some (.d (.tup (b.map gD))), o3]) ⟨rfl, _, rfl⟩ ?_ ?_
    · rintro i g δ _ hi ⟨rfl, o3, rfl⟩ M hM
      have t16 := tb g (List.mem_of_getElem? hi)
      have e60 : lcmG ((bs.take j).foldl lcmG 1) (b.take i) ∣ 60 := lcmG_60 c60 fun s hs => tb s (List.mem_of_mem_take hs)
      have l60 := lcm_60 e60 t16.1 t16.2
      have le : lcmG ((bs.take j).foldl lcmG 1) (b.take i) ≤ 60 := Nat.le_of_dvd (by decide) e60
      have tk2 : lcmG ((bs.take j).foldl lcmG 1) (b.take (i + 1)) = (Nat.lcm 1 (lcmG ((bs.take j).foldl lcmG 1) (b.take i))).lcm g.1.term := by
        unfold lcmG
        rw [List.take_add_one, hi, List.foldl_append]
        rfl
      unfold gD
      walk_at "sx"
      refine ⟨⟨by omega, by omega, log60' l60⟩, ?_⟩
      simp only [Int.natAbs_natCast]
      rw [← tk2]
      exact hM _ _ ⟨rfl, _, rfl⟩
    · rintro δ _ ⟨rfl, o3, rfl⟩
      rw [List.take_length]
      exact hN _ _ ⟨rfl, _, _, by rw [tk]⟩
  · rintro δ _ ⟨rfl, o2, o3, rfl⟩
    rw [List.take_length]
    walk_at "sx"
    exact p
theorem q_need_wide {h : WHouse} (ok : h.ok) (p : P h.d r) : S_need_wide [.d h.d] r P := by
  have l1 := ok.n1
  have l3 := ok.n3
  have lw := ok.w
  unfold S_need_wide B_need_wide WHouse.d
  walk_at "sx"
  refine q_tupleT (by simp) (by simp) ?_
  walk_at "sx"
  refine q_wholeT (by omega) (by omega) ?_
  walk_at "sx"
  refine q_tupleT (by rw [List.length_map]; omega) (by rw [List.length_map]; omega) ?_
  walk_at "sx"
  rw [enum_map]
  refine for_inv (fun _ δ r' => r = r' ∧ ∃ o4 o5, δ = [some (.d (.tup [.tup (h.bodies.map gbD), .int h.wards])), some (.d (.tup (h.bodies.map gbD))), some (.d (.int h.wards)), o4, o5]) ⟨rfl, _, _, rfl⟩ ?_ ?_
  · rintro k ⟨b, j⟩ δ _ hk ⟨rfl, o4, o5, rfl⟩ N hN
    have hb : b ∈ h.bodies := by
      have := List.mem_of_getElem? hk
      exact List.fst_mem_of_mem_zipIdx this
    have bb := ok.b b hb
    walk_at "sx"
    rw [List.length_map]
    refine q_groups bb.1 bb.2 (ok.g b hb) ?_
    exact hN _ _ ⟨rfl, _, _, rfl⟩
  · rintro δ _ ⟨rfl, o4, o5, rfl⟩
    walk_at "sx"
    refine q_common (fun b hb s hs => ⟨(ok.g b hb s hs).s.t1, (ok.g b hb s hs).s.t6⟩) ?_
    walk_at "sx"
    rw [decide_eq_false (by have := ok.lc; omega)]
    walk_at "sx"
    exact p
end
end TSx

namespace TSx
open PySem L2 TL
local macro_rules | `(tactic| walk_at "sx") => `(tactic| simp only [runD, sSeq, sNext, sBrk, sCnt, sIf, sRet, sRetN, sDrop, sNew, sApp, sFrz, sPar, sFor, sAsg, eVar, eC, eOp, eUn, eCB, eM1, eCall, eIf, eAnd, eOr, eNot, eTup, eLst, eChain, eLc, eLc2, eIsi, eSl, oNo, oPart, eOwnTup, eOwnLen, eBack, eRepr,
  aNil, aCons, aMemo, aScr, vE, vNot, vAnd, vOr, vYes, iTupD, iLstD, iStrD, iR1, iR2, iEnD, iEnL, iZTT, iZLL, iZLT, iZST, iZTS, iZSS, gvTup, gvCons, gvName, gvNil, wipeD, datas,
  opAdd, opSub, opMul, opMod, opFdiv, opPow, opLt, opLe, opGt, opGe, opNeg, opI, opB, opIC, opCatL, opCatT, opCatS, opRepL, opEq, opNe, eqSc, opIsN, opNotN, opIxL, opIxT, opIx, cLen, cLenS, cTup, cLst, cMin2, cInt, cIntB, cLcm, lstD, cSum, cAll, cAny, cMax, slT, slL, slS, opRev, mCount, mFind, mJoin, seqD, atD_nat, at0, at1, at2, at3, Int.cast_ofNat_Int, Int.reduceEq, Int.reduceLE, Int.reduceLT, decide_true, decide_false, D.ty, D.isE, kInt, kIntB, kTup, kStr, kIS, kTI, kTB, kTS, kIT, kISt, kBI, kBB, kL1, kL2, kL3, kS1, kS2, kN1, kN2, kN3,
  ex_tup, ex_lst, ex_bl, ex_str, ex_str0, ex_int, ex_i1, ex_i2, ex_t1, ex_l1, ex_tt, ex_ll, ex_lt, ex_st, ex_ts, ex_ss, ex_own, ex_par, ex_draw, ex_some, ex_if, Option.some.injEq, exists_eq_left', Option.map_some, Option.bind_some, Option.map_none,
  List.map_cons, List.map_nil, List.cons_append, List.nil_append, List.replicate, List.length_cons, List.length_nil, List.getElem?_cons_zero, List.getElem?_cons_succ, List.set_cons_zero, List.set_cons_succ, cond_true, cond_false, Bool.not_true, Bool.not_false, true_and, and_true, Nat.reduceAdd, Nat.reduceLeDiff, if_true, ite_true, Bool.and_true, Bool.true_and])
/-! ### lots, and sides -/
def picks (s : Nat) (lot : List Nat) (many : List Nat) : List Int := ((lot.zip many).filter fun p => decide (p.1 = s)).map fun p => ((p.2 : Nat) : Int)
def sideV (x y : Int) : Str := if x = y then "=" else if x > y then "a" else "b"
def sideOf (lot : List Nat) (many : List Nat) : Str := sideV (picks 97 lot many).sum (picks 98 lot many).sum
def lotS (l : List Nat) : Str := ⟨l.toArray⟩
def ext3 (ls : List (List Nat)) : List (List Nat) := (ls.map fun l => [45, 97, 98].map fun c => l ++ [c]).flatten
def allLots : Nat → List (List Nat)
  | 0 => [[]]
  | n + 1 => ext3 (allLots n)
theorem ext3_sum (ls : List (List Nat)) : (ls.map fun l => ([45, 97, 98] : List Nat).length).sum = 3 * ls.length := by
  induction ls with
  | nil => rfl
  | cons l ls ih => rw [List.map_cons, List.sum_cons, ih, List.length_cons]; simp only [List.length_cons, List.length_nil]; omega
theorem ext3_len (ls : List (List Nat)) : (ext3 ls).length = 3 * ls.length := by
  unfold ext3
  rw [List.length_flatten, List.map_map, ← ext3_sum]
  rfl
theorem allLots_len : ∀ n, (allLots n).length = 3 ^ n
  | 0 => rfl
  | n + 1 => by
    show (ext3 (allLots n)).length = _
    rw [ext3_len, allLots_len n, Nat.pow_succ]
    omega
theorem ext3_mem {ls : List (List Nat)} {k : Nat} (h : ∀ l ∈ ls, l.length = k) : ∀ l ∈ ext3 ls, l.length = k + 1 := fun l hl => by
  obtain ⟨r, hr, hm⟩ := List.mem_flatten.mp hl
  obtain ⟨x, hx, rfl⟩ := List.mem_map.mp hr
  obtain ⟨c, _, rfl⟩ := List.mem_map.mp hm
  rw [List.length_append, h x hx]; rfl
theorem allLots_mem : ∀ n, ∀ l ∈ allLots n, l.length = n
  | 0 => fun l hl => by rw [List.mem_singleton.mp hl]; rfl
  | n + 1 => ext3_mem (allLots_mem n)
def patS (many : List Nat) : Str := Txt.join "" ((allLots many.length).map fun l => sideOf l many)
def manyT (m : List Nat) : D := .tup (m.map fun n => .int (n : Nat))
def manyL (m : List Nat) : D := .lst (m.map fun n => .int (n : Nat))
def cntH (h : WHouse) : List (List Nat) := h.bodies.map fun b => b.map fun g => g.2
def patD (h : WHouse) : D := .tup ((cntH h).map fun m => .str (patS m))
def woutD (h : WHouse) : D := .tup [.tup (h.bodies.map fun b => .tup (b.map fun g => g.1.d)), .int (h.wards : Nat)]
theorem lotS_len (l : List Nat) : (lotS l).length = l.length := by
  show l.toArray.size = _
  simp
theorem chars_lot (l : List Nat) : chars (lotS l) = l.map fun c => .str ⟨#[c]⟩ := rfl
theorem one_eq {c s : Nat} : ((⟨#[c]⟩ : Str) = ⟨#[s]⟩) ↔ c = s := ⟨fun h => by cases h; rfl, fun h => by rw [h]⟩
theorem lit_a : (Str.ofString "a") = ⟨#[97]⟩ := by decide +kernel
theorem lit_b : (Str.ofString "b") = ⟨#[98]⟩ := by decide +kernel
theorem lit_all : chars (Str.ofString "-ab") = [45, 97, 98].map fun c => .str ⟨#[c]⟩ := by
  have e : (Str.ofString "-ab").cps.toList = [45, 97, 98] := by decide +kernel
  unfold chars
  rw [e]
section
variable {r : Nat} {P : D → Nat → Prop}
theorem q_side_of {lot many : List Nat} (hl : lot.length = many.length) (h4 : many.length ≤ 1000) (p : P (.str (sideOf lot many)) r) : S__side_of [.d (.str (lotS lot)), .d (manyT many)] r P := by
  unfold S__side_of B__side_of manyT
  walk_at "sx"
  rw [lit_a, lit_b, chars_lot, pairs_map]
  have hz : (lotS lot).cps.size = (many.map fun n => D.int (n : Nat)).length := by rw [List.length_map, ← hl]; exact lotS_len lot
  have pick : ∀ (k : Nat) (δ0 : SD) (r : Nat) (P : D → Nat → Prop), 6 ≤ δ0.length → P (.lst ((picks k lot many).map D.int)) r → compD (gvTup 2 (gvCons (gvName 4) (gvCons (gvName 5) gvNil))) (vE (eOp opEq (eVar 4) (eC (.str ⟨#[k]⟩)))) (eVar 5) δ0 ((lot.zip many).map fun p => .tup [.str ⟨#[p.1]⟩, .int (p.2 : Nat)]) [] r P := by
    intro k δ0 r P l6 p
    obtain ⟨a0, a1, a2, a3, a4, a5, δ1, rfl⟩ : ∃ a0 a1 a2 a3 a4 a5 δ1, δ0 = a0 :: a1 :: a2 :: a3 :: a4 :: a5 :: δ1 := by
      match δ0, l6 with
      | a0 :: a1 :: a2 :: a3 :: a4 :: a5 :: δ1, _ => exact ⟨_, _, _, _, _, _, _, rfl⟩
    refine lc_filt (q := fun p => decide (p.1 = k)) (f := fun p => .int (p.2 : Nat)) ?_ ?_ ?_
    · rintro ⟨c, n⟩ _
      refine ⟨_, rfl, fun r P p => ?_, fun _ r P p => ?_⟩
      · walk_at "sx"
        simp only [one_eq]
        exact p
      · walk_at "sx"
        exact p
    · rw [List.length_zip]; simp; omega
    · unfold picks at p
      rw [List.map_map] at p
      exact p
  refine ⟨hz, pick 97 _ r _ (by simp) ?_⟩
  have e1 : ∀ l : List Int, intsD (l.map D.int) = some l := fun l => by
    have := intsD_map (fun i : Int => i) l
    rwa [List.map_id'] at this
  walk_at "sx"
  rw [e1]
  walk_at "sx"
  refine ⟨hz, pick 98 _ r _ (by simp) ?_⟩
  walk_at "sx"
  rw [e1]
  walk_at "sx"
  unfold sideOf sideV at p
  by_cases z : (picks 97 lot many).sum = (picks 98 lot many).sum
  · rw [decide_eq_true z]
    rw [if_pos z] at p
    exact p
  · rw [decide_eq_false z]
    rw [if_neg z] at p
    walk_at "sx"
    by_cases y : (picks 98 lot many).sum < (picks 97 lot many).sum
    · rw [decide_eq_true y]
      rw [if_pos y, lit_a] at p
      exact p
    · rw [decide_eq_false y]
      rw [if_neg y, lit_b] at p
      exact p
theorem q_all_lots {n : Nat} (h4 : n ≤ 4) (p : P (.lst ((allLots n).map fun l => .str (lotS l))) r) : S__all_lots [.d (.int n)] r P := by
  unfold S__all_lots B__all_lots
  walk_at "sx"
  refine ⟨by omega, for_inv (fun j δ r' => r = r' ∧ ∃ o2, δ = [some (.d (.int n)), some (.d (.lst ((allLots j).map fun l => .str (lotS l)))), o2, none, none]) ⟨rfl, _, rfl⟩ ?_ ?_⟩
  · rintro j a δ _ hj ⟨rfl, o2, rfl⟩ N hN
    have hj4 : j < 4 := by
      have := (List.getElem?_eq_some_iff.mp hj).1
      rw [List.length_range] at this
      omega
    have l81 : (allLots j).length ≤ 27 := by
      rw [allLots_len]
      exact Nat.pow_le_pow_right (by decide) (show j ≤ 3 by omega)
    walk_at "sx"
    refine lc2_map (m := fun _ => [45, 97, 98]) (ψ := fun c => .str ⟨#[c]⟩) (f := fun l c => .str (lotS (l ++ [c]))) ?_ ?_ ?_
    · intro l hl
      have ll := allLots_mem j l hl
      refine ⟨_, rfl, fun r P p => ?_, fun c _ => ⟨_, rfl, fun r P p => ?_⟩⟩
      · walk_at "sx"
        rw [lit_all]
        exact p
      · walk_at "sx"
        refine ⟨?_, ?_⟩
        · rw [lotS_len, ll]
          show j + 1 ≤ 100000
          omega
        · have : lotS l ++ (⟨#[c]⟩ : Str) = lotS (l ++ [c]) := by
            show (⟨l.toArray ++ #[c]⟩ : Str) = ⟨(l ++ [c]).toArray⟩
            congr 1
            simp
          rw [this]
          exact p
    · rw [ext3_sum]
      simp only [List.length_nil]
      omega
    · have : ((allLots j).map fun a => ([45, 97, 98] : List Nat).map fun c => D.str (lotS (a ++ [c]))).flatten = (allLots (j + 1)).map fun l => .str (lotS l) := by
        show _ = (ext3 (allLots j)).map _
        unfold ext3
        rw [List.map_flatten, List.map_map]
        congr 1
      rw [List.nil_append, this]
      exact hN _ _ ⟨rfl, _, rfl⟩
  · rintro δ _ ⟨rfl, o2, rfl⟩
    rw [List.length_range] at *
    walk_at "sx"
    simpa using p
theorem str1 (many lot : List Nat) : (sideOf lot many).length = 1 := by
  unfold sideOf sideV
  split
  · decide +kernel
  · split <;> decide +kernel
theorem q_body_pattern {many : List Nat} (h4 : many.length ≤ 4) (p : P (.str (patS many)) r) : S__body_pattern [.d (manyT many)] r P := by
  unfold S__body_pattern B__body_pattern
  have e0 : manyT many = .tup (many.map fun n => .int (n : Nat)) := rfl
  rw [e0]
  walk_at "sx"
  rw [List.length_map]
  refine q_all_lots h4 ?_
  walk_at "sx"
  refine lc_map (f := fun l => .str (sideOf l many)) (fun l hl => ⟨_, rfl, fun r P p => ?_⟩) ?_ ?_
  · walk_at "sx"
    exact q_side_of (allLots_mem _ l hl) (by omega) p
  · have l81 : (allLots many.length).length ≤ 81 := by
      rw [allLots_len]
      exact Nat.pow_le_pow_right (by decide) (show many.length ≤ 4 by omega)
    simp only [List.length_nil]
    omega
  · walk_at "sx"
    rw [strsD_map]
    walk_at "sx"
    refine ⟨?_, p⟩
    have l81 : (allLots many.length).length ≤ 81 := by
      rw [allLots_len]
      exact Nat.pow_le_pow_right (by decide) (show many.length ≤ 4 by omega)
    have s1 : ∀ ls : List (List Nat), ((ls.map fun l => sideOf l many).map (·.length)).sum = ls.length := by
      intro ls
      induction ls with
      | nil => rfl
      | cons l ls ih => rw [List.map_cons, List.map_cons, List.sum_cons, ih, str1, List.length_cons]; omega
    rw [s1, List.length_map]
    have : (Str.ofString "").length = 0 := by decide +kernel
    rw [this]
    omega
theorem q_sizes {h : WHouse} (b4 : ∀ b ∈ h.bodies, b.length ≤ 4) (n3 : h.bodies.length ≤ 3) (p : P (.tup ((cntH h).map manyT)) r) : S__sizes [.d h.d] r P := by
  unfold S__sizes B__sizes WHouse.d
  walk_at "sx"
  refine lc_map (f := fun b => manyT (b.map fun g => g.2)) (fun b hb => ⟨_, rfl, fun r P p => ?_⟩) (by simp only [List.length_nil]; omega) ?_
  · unfold gbD
    walk_at "sx"
    refine lc_map (f := fun g => .int (g.2 : Nat)) (fun g hg => ⟨_, rfl, fun r P p => ?_⟩) (by have := b4 b hb; simp only [List.length_nil]; omega) ?_
    · unfold gD
      walk_at "sx"
      exact p
    · walk_at "sx"
      unfold manyT at p
      rw [List.map_map] at p
      exact p
  · walk_at "sx"
    unfold cntH at p
    rw [List.map_map] at p
    exact p
theorem q__pattern {h : WHouse} (b4 : ∀ b ∈ h.bodies, b.length ≤ 4) (n3 : h.bodies.length ≤ 3) (p : P (patD h) r) : S__pattern [.d h.d] r P := by
  unfold S__pattern B__pattern
  walk_at "sx"
  refine q_sizes b4 n3 ?_
  walk_at "sx"
  refine lc_map (f := fun m => .str (patS m)) (fun m hm => ⟨_, rfl, fun r P p => ?_⟩) (by unfold cntH; rw [List.length_map]; simp only [List.length_nil]; omega) ?_
  · walk_at "sx"
    refine q_body_pattern ?_ p
    obtain ⟨b, hb, rfl⟩ := List.mem_map.mp hm
    rw [List.length_map]
    exact b4 b hb
  · walk_at "sx"
    exact p
theorem q_pattern {h : WHouse} (ok : h.ok) (p : P (patD h) r) : S_pattern [.d h.d] r P := by
  unfold S_pattern B_pattern
  walk_at "sx"
  refine q_need_wide ok ?_
  exact q__pattern (fun b hb => (ok.b b hb).2) ok.n3 p
theorem q_wout {h : WHouse} (b4 : ∀ b ∈ h.bodies, b.length ≤ 4) (n3 : h.bodies.length ≤ 3) (p : P (woutD h) r) : S__without_many [.d h.d] r P := by
  unfold S__without_many B__without_many WHouse.d
  walk_at "sx"
  refine lc_map (f := fun b => .tup (b.map fun g => g.1.d)) (fun b hb => ⟨_, rfl, fun r P p => ?_⟩) (by simp only [List.length_nil]; omega) ?_
  · unfold gbD
    walk_at "sx"
    refine lc_map (f := fun g => g.1.d) (fun g hg => ⟨_, rfl, fun r P p => ?_⟩) (by have := b4 b hb; simp only [List.length_nil]; omega) ?_
    · unfold gD
      walk_at "sx"
      exact p
    · walk_at "sx"
      exact p
  · walk_at "sx"
    exact p
end
end TSx

namespace TSx
open PySem L2 TL
local macro_rules | `(tactic| walk_at "sx") => `(tactic| simp only [runD, sSeq, sNext, sBrk, sCnt, sIf, sRet, sRetN, sDrop, sNew, sApp, sFrz, sPar, sFor, sAsg, eVar, eC, eOp, eUn, eCB, eM1, eCall, eIf, eAnd, eOr, eNot, eTup, eLst, eChain, eLc, eLc2, eIsi, eSl, oNo, oPart, eOwnTup, eOwnLen, eBack, eRepr,
  aNil, aCons, aMemo, aScr, vE, vNot, vAnd, vOr, vYes, iTupD, iLstD, iStrD, iR1, iR2, iEnD, iEnL, iZTT, iZLL, iZLT, iZST, iZTS, iZSS, gvTup, gvCons, gvName, gvNil, wipeD, datas,
  opAdd, opSub, opMul, opMod, opFdiv, opPow, opLt, opLe, opGt, opGe, opNeg, opI, opB, opIC, opCatL, opCatT, opCatS, opRepL, opEq, opNe, eqSc, opIsN, opNotN, opIxL, opIxT, opIx, cLen, cLenS, cTup, cLst, cMin2, cInt, cIntB, cLcm, lstD, cSum, cAll, cAny, cMax, slT, slL, slS, opRev, mCount, mFind, mJoin, seqD, atD_nat, at0, at1, at2, at3, Int.cast_ofNat_Int, Int.reduceEq, Int.reduceLE, Int.reduceLT, decide_true, decide_false, D.ty, D.isE, kInt, kIntB, kTup, kStr, kIS, kTI, kTB, kTS, kIT, kISt, kBI, kBB, kL1, kL2, kL3, kS1, kS2, kN1, kN2, kN3,
  ex_tup, ex_lst, ex_bl, ex_str, ex_str0, ex_int, ex_i1, ex_i2, ex_t1, ex_l1, ex_tt, ex_ll, ex_lt, ex_st, ex_ts, ex_ss, ex_own, ex_par, ex_draw, ex_some, ex_if, Option.some.injEq, exists_eq_left', Option.map_some, Option.bind_some, Option.map_none,
  List.map_cons, List.map_nil, List.cons_append, List.nil_append, List.replicate, List.length_cons, List.length_nil, List.getElem?_cons_zero, List.getElem?_cons_succ, List.set_cons_zero, List.set_cons_succ, cond_true, cond_false, Bool.not_true, Bool.not_false, true_and, and_true, Nat.reduceAdd, Nat.reduceLeDiff, if_true, ite_true, Bool.and_true, Bool.true_and])
theorem yl_way {n k : Nat} {w : Way} (h : w.ok n k) : Yl 1 w.d := by
  have tie : ∀ t ∈ tiesL, Yl 0 (.str t) := fun t ht => by
    simp only [tiesL, List.mem_cons, List.mem_nil_iff, or_false] at ht
    rcases ht with rfl | rfl | rfl <;> exact yl_str (by decide +kernel)
  cases w with
  | ward i =>
    refine yl_tup fun d hd => ?_
    simp only [List.mem_cons, List.mem_nil_iff, or_false] at hd
    rcases hd with rfl | rfl
    · exact yl_str (by decide +kernel)
    · exact yl_int
  | body b t =>
    obtain ⟨_, ht⟩ : b < n ∧ t ∈ tiesL := h
    refine yl_tup fun d hd => ?_
    simp only [List.mem_cons, List.mem_nil_iff, or_false] at hd
    rcases hd with rfl | rfl | rfl
    · exact yl_str (by decide +kernel)
    · exact yl_int
    · exact tie t ht
  | rest b t =>
    obtain ⟨_, ht⟩ : b < n ∧ t ∈ tiesL := h
    refine yl_tup fun d hd => ?_
    simp only [List.mem_cons, List.mem_nil_iff, or_false] at hd
    rcases hd with rfl | rfl | rfl
    · exact yl_str (by decide +kernel)
    · exact yl_int
    · exact tie t ht
  | kept =>
    refine yl_tup fun d hd => ?_
    simp only [List.mem_cons, List.mem_nil_iff, or_false] at hd
    subst hd
    exact yl_str (by decide +kernel)
theorem ck_way (w : Way) : w.d.ck = true := by cases w <;> rfl
theorem yl_seat {n k : Nat} {s : Seat} (h : s.ok n k) : Yl 2 s.d := by
  refine yl_tup fun d hd => ?_
  simp only [List.mem_cons, List.mem_nil_iff, or_false] at hd
  rcases hd with rfl | rfl | rfl
  · exact yl_int.up (by decide)
  · exact yl_int.up (by decide)
  · exact yl_way h.w
theorem ck_seat (s : Seat) : s.d.ck = true := by
  refine ck_tup fun d hd => ?_
  simp only [List.mem_cons, List.mem_nil_iff, or_false] at hd
  rcases hd with rfl | rfl | rfl
  · rfl
  · rfl
  · exact ck_way _
theorem join_tl (ys : List Str) : (Txt.join (Str.ofString "") ys).cps.toList = (ys.map fun y => y.cps.toList).flatten := by
  have e : tl (Str.ofString "") = [] := by decide +kernel
  have j : ∀ ps : List (List Nat), joinL [] ps = ps.flatten := by
    intro ps
    induction ps with
    | nil => rfl
    | cons p r ih =>
      cases r with
      | nil => simp [joinL]
      | cons q r =>
        show p ++ ([] ++ joinL [] (q :: r)) = _
        rw [ih]
        rfl
  show tl (Txt.join (Str.ofString "") ys) = _
  rw [join_eq, tl_join, e, j]
theorem pat_tl (m : List Nat) : (patS m).cps.toList = ((allLots m.length).map fun l => (sideOf l m).cps.toList).flatten := by
  unfold patS
  rw [join_tl, List.map_map]
  rfl
theorem side_tl (l m : List Nat) : (sideOf l m).cps.toList = [61] ∨ (sideOf l m).cps.toList = [97] ∨ (sideOf l m).cps.toList = [98] := by
  unfold sideOf sideV
  split
  · exact Or.inl (by decide +kernel)
  · split
    · exact Or.inr (Or.inl (by decide +kernel))
    · exact Or.inr (Or.inr (by decide +kernel))
theorem pat_low (m : List Nat) : ∀ c ∈ (patS m).cps.toList, c < 128 := by
  rw [pat_tl]
  intro c hc
  obtain ⟨l, hl, hc⟩ := List.mem_flatten.mp hc
  obtain ⟨a, _, rfl⟩ := List.mem_map.mp hl
  rcases side_tl a m with e | e | e <;> rw [e] at hc <;> rw [List.mem_singleton.mp hc] <;> decide
theorem pat_size {m : List Nat} (h : m.length ≤ 4) : (patS m).cps.size ≤ 81 := by
  rw [← Array.length_toList, pat_tl, List.length_flatten, List.map_map]
  have : ∀ ls : List (List Nat), (ls.map (List.length ∘ fun l => (sideOf l m).cps.toList)).sum = ls.length := by
    intro ls
    induction ls with
    | nil => rfl
    | cons l ls ih =>
      rw [List.map_cons, List.sum_cons, ih, List.length_cons]
      have : (List.length ∘ fun l => (sideOf l m).cps.toList) l = 1 := by
        show (sideOf l m).cps.toList.length = 1
        rcases side_tl l m with e | e | e <;> rw [e] <;> rfl
      rw [this]; omega
  rw [this, allLots_len]
  exact Nat.pow_le_pow_right (by decide) (show m.length ≤ 4 by omega)
theorem yl_pat (h : WHouse) : Yl 1 (patD h) := yl_tup fun d hd => by
  obtain ⟨m, _, rfl⟩ := List.mem_map.mp hd
  exact yl_txt (pat_low m)
theorem ck_pat (h : WHouse) : (patD h).ck = true := ck_tup fun d hd => by
  obtain ⟨m, _, rfl⟩ := List.mem_map.mp hd
  rfl
theorem ym_pat {h : WHouse} (ok : h.ok) : Ym 300 1 (patD h) := (ym_tup (w := 81) (m := 3) (fun d hd => by
  obtain ⟨m, hm, rfl⟩ := List.mem_map.mp hd
  obtain ⟨b, hb, rfl⟩ := List.mem_map.mp hm
  exact ym_txt (pat_low _) (pat_size (by rw [List.length_map]; exact (ok.b b hb).2))) (by unfold cntH; rw [List.length_map, List.length_map]; exact ok.n3)).up (by decide) (by decide)
theorem yl_wout {h : WHouse} (ok : h.ok) : Yl 5 (woutD h) := yl_tup fun d hd => by
  simp only [List.mem_cons, List.mem_nil_iff, or_false] at hd
  rcases hd with rfl | rfl
  · refine yl_tup fun d hd => ?_
    obtain ⟨b, hb, rfl⟩ := List.mem_map.mp hd
    refine yl_tup fun d hd => ?_
    obtain ⟨g, hg, rfl⟩ := List.mem_map.mp hd
    exact (yl_seat (ok.g b hb g hg).s)
  · exact yl_int.up (by decide)
theorem ck_wout (h : WHouse) : (woutD h).ck = true := ck_tup fun d hd => by
  simp only [List.mem_cons, List.mem_nil_iff, or_false] at hd
  rcases hd with rfl | rfl
  · refine ck_tup fun d hd => ?_
    obtain ⟨b, hb, rfl⟩ := List.mem_map.mp hd
    refine ck_tup fun d hd => ?_
    obtain ⟨g, hg, rfl⟩ := List.mem_map.mp hd
    exact ck_seat _
  · rfl
/-- all but the numbers -/
def frameX (h : WHouse) : List (List D) := h.bodies.map fun b => b.map fun g => g.1.d
theorem wout_X (h : WHouse) : woutD h = .tup [.tup ((frameX h).map .tup), .int h.wards] := by
  unfold woutD frameX
  rw [List.map_map]
  rfl
theorem wout_iff {h k : WHouse} : woutD h = woutD k ↔ frameX h = frameX k ∧ h.wards = k.wards := by
  rw [wout_X, wout_X]
  constructor
  · intro e
    simp only [D.tup.injEq, List.cons.injEq, D.int.injEq, and_true] at e
    refine ⟨?_, by omega⟩
    exact (List.map_inj_right (fun _ _ z => D.tup.inj z)).mp e.1
  · rintro ⟨e1, e2⟩
    rw [e1, e2]
def sameB (h k : WHouse) : Bool := PyData.eqv (woutD h).py (woutD k).py && PyData.eqv (patD h).py (patD k).py
section
variable {r : Nat} {P : D → Nat → Prop}
theorem q_alike {h k : WHouse} (ok : h.ok) (ok' : k.ok) (p : P (.bl (sameB h k)) r) : S_go_alike [.d h.d, .d k.d] r P := by
  unfold S_go_alike B_go_alike
  walk_at "sx"
  refine q_need_wide ok (q_need_wide ok' ?_)
  refine q_wout (fun b hb => (ok.b b hb).2) ok.n3 (q_wout (fun b hb => (ok'.b b hb).2) ok'.n3 ?_)
  rw [opEqD_of (yl_wout ok) (yl_wout ok') (by decide) (by decide)]
  walk_at "sx"
  unfold sameB at p
  refine q_ite (fun e => ?_) fun e => ?_
  · rw [e] at p
    refine q__pattern (fun b hb => (ok.b b hb).2) ok.n3 (q__pattern (fun b hb => (ok'.b b hb).2) ok'.n3 ?_)
    rw [opEqD_of (yl_pat h) (yl_pat k) (by decide) (by decide)]
    walk_at "sx"
    simpa using p
  · rw [e] at p
    simpa using p
theorem same_iff {h k : WHouse} (ok : h.ok) (ok' : k.ok) : sameB h k = true ↔ woutD h = woutD k ∧ patD h = patD k := by
  unfold sameB
  rw [Bool.and_eq_true, eqv_iff (yl_wout ok) (yl_wout ok') (ck_wout h) (ck_wout k), eqv_iff (yl_pat h) (yl_pat k) (ck_pat h) (ck_pat k)]
end
end TSx

namespace TSx
open PySem L2 TL
local macro_rules | `(tactic| walk_at "sx") => `(tactic| try simp only [runD, sSeq, sNext, sBrk, sCnt, sIf, sRet, sRetN, sDrop, sNew, sApp, sFrz, sPar, sFor, sAsg, eVar, eC, eOp, eUn, eCB, eM1, eCall, eIf, eAnd, eOr, eNot, eTup, eLst, eChain, eLc, eLc2, eIsi, eSl, oNo, oPart, eOwnTup, eOwnLen, eBack, eRepr,
  aNil, aCons, aMemo, aScr, vE, vNot, vAnd, vOr, vYes, iTupD, iLstD, iStrD, iR1, iR2, iEnD, iEnL, iZTT, iZLL, iZLT, iZST, iZTS, iZSS, gvTup, gvCons, gvName, gvNil, wipeD, datas,
  opAdd, opSub, opMul, opMod, opFdiv, opPow, opLt, opLe, opGt, opGe, opNeg, opI, opB, opIC, opCatL, opCatT, opCatS, opRepL, opEq, opNe, eqSc, opIsN, opNotN, opIxL, opIxT, opIx, cLen, cLenS, cTup, cLst, cMin2, cInt, cIntB, cLcm, lstD, cSum, cAll, cAny, cMax, slT, slL, slS, opRev, mCount, mFind, mJoin, seqD, atD_nat, at0, at1, at2, at3, Int.cast_ofNat_Int, Int.reduceEq, Int.reduceLE, Int.reduceLT, decide_true, decide_false, D.ty, D.isE, kInt, kIntB, kTup, kStr, kIS, kTI, kTB, kTS, kIT, kISt, kBI, kBB, kL1, kL2, kL3, kS1, kS2, kN1, kN2, kN3,
  ex_tup, ex_lst, ex_bl, ex_str, ex_str0, ex_int, ex_i1, ex_i2, ex_t1, ex_l1, ex_tt, ex_ll, ex_lt, ex_st, ex_ts, ex_ss, ex_own, ex_own2, ex_par, ex_draw, ex_some, ex_if, Option.some.injEq, exists_eq_left', Option.map_some, Option.bind_some, Option.map_none,
  List.map_cons, List.map_nil, List.cons_append, List.nil_append, List.replicate, List.length_cons, List.length_nil, List.getElem?_cons_zero, List.getElem?_cons_succ, List.set_cons_zero, List.set_cons_succ, cond_true, cond_false, Bool.not_true, Bool.not_false, true_and, and_true, Nat.reduceAdd, Nat.reduceLeDiff, if_true, ite_true, Bool.and_true, Bool.true_and])
/-- some sizes -/
structure SzOk (n : Nat) : Prop where
  a : 1 ≤ n
  b : n ≤ 10 ^ 30
theorem range_map {a : Int} {n : Nat} : rangeD a n = (List.range n).map fun k => .int (a + (k : Nat)) := rfl
theorem zip_range (lot many : List Nat) (h : lot.length = many.length) : lot.zip many = (List.range lot.length).map fun k => (lot.getD k 0, many.getD k 0) := by
  refine List.ext_getElem? fun i => ?_
  by_cases hi : i < lot.length
  · rw [List.getElem?_map, List.getElem?_range hi, (List.getElem?_zip_eq_some (z := (lot[i], many[i]'(by omega)))).mpr ⟨List.getElem?_eq_getElem hi, List.getElem?_eq_getElem (by omega)⟩]
    simp only [Option.map_some, List.getD_eq_getElem?_getD, List.getElem?_eq_getElem hi, List.getElem?_eq_getElem (show i < many.length by omega), Option.getD_some]
  · rw [List.getElem?_eq_none (by rw [List.length_zip]; omega), List.getElem?_eq_none (by rw [List.length_map, List.length_range]; omega)]
theorem picks_range (s : Nat) (lot many : List Nat) (h : lot.length = many.length) : ((List.range lot.length).filter fun k => decide (lot.getD k 0 = s)).map (fun k => ((many.getD k 0 : Nat) : Int)) = picks s lot many := by
  unfold picks
  rw [zip_range lot many h, List.filter_map, List.map_map]
  rfl
theorem ints_id (l : List Int) : intsD (l.map D.int) = some l := by
  have := intsD_map (fun i : Int => i) l
  rwa [List.map_id'] at this
section
variable {r : Nat} {P : D → Nat → Prop}
theorem q_like {d : D} (h : d.rd) (p : P (.bl true) r) : S__law_like [.d d, .d d] r P := by
  unfold S__law_like B__law_like
  walk_at "sx"
  exact ⟨h, h, p⟩
theorem q_draw {n : Int} (n0 : 0 < n) (n1 : n < 1073741824) (hr : 0 < r) (p : ∀ v : Int, 0 ≤ v → v < n → P (.int v) (r - 1)) : S__law_draw [.memo, .d (.int n)] r P := ⟨n, rfl, ⟨n0, n1⟩, hr, p⟩
theorem q_ofL {xs : List D} (h0 : 0 < xs.length) (h1 : xs.length < 100000) (hr : 0 < r) (p : ∀ d ∈ xs, P d (r - 1)) : S__law_of [.memo, .d (.lst xs)] r P := by
  unfold S__law_of B__law_of
  walk_at "sx"
  refine q_draw (by omega) (by omega) hr fun v v0 v1 => ?_
  obtain ⟨d, hd, e⟩ := atD_mem v0 v1
  exact ⟨d, e, p d hd⟩
theorem q_ofT {xs : List D} (h0 : 0 < xs.length) (h1 : xs.length < 100000) (hr : 0 < r) (p : ∀ d ∈ xs, P d (r - 1)) : S__law_of [.memo, .d (.tup xs)] r P := by
  unfold S__law_of B__law_of
  walk_at "sx"
  refine q_draw (by omega) (by omega) hr fun v v0 v1 => ?_
  obtain ⟨d, hd, e⟩ := atD_mem v0 v1
  exact ⟨d, e, p d hd⟩
theorem q_lway {n wards : Nat} (n1 : 1 ≤ n) (n2 : n ≤ 1000) (w2 : wards ≤ 1000) (hr : 4 ≤ r) (p : ∀ (w : Way) r', w.ok n wards → r - 4 ≤ r' → P w.d r') : S__law_way [.memo, .d (.int n), .d (.int wards)] r P := by
  unfold S__law_way B__law_way
  have ward : ∀ (r' : Nat), 0 < wards → r - 3 ≤ r' → S__law_draw [.memo, .d (.int wards)] r' fun d r1 => P (.tup [.str "ward", d]) r1 := fun r' w0 hr' => by
    refine q_draw (by omega) (by omega) (by omega) fun v v0 v1 => ?_
    obtain ⟨i, rfl⟩ : ∃ i : Nat, v = i := ⟨v.toNat, by omega⟩
    exact p (.ward i) _ (show i < wards by omega) (by omega)
  have two : S__law_draw [Sl.memo, Sl.d (D.int 2)] (r - 1) fun e r2 => ∃ z, opIxL (.lst [.str "body", .str "rest"]) e = some z ∧
      S__law_draw [Sl.memo, Sl.d (D.int ↑n)] r2 fun d r1 => S__law_of [Sl.memo, Sl.d (D.lst [.str "a", .str "b", .str "kept"])] r1 fun d_1 r1 => P (D.tup [z, d, d_1]) r1 := by
    refine q_draw (by decide) (by decide) (by omega) fun v v0 v1 => ?_
    have go : ∀ (z : D) (mk : Nat → Str → Way), (∀ i t, (mk i t).d = .tup [z, .int (i : Nat), .str t]) → (∀ i t, i < n → t ∈ tiesL → (mk i t).ok n wards) → S__law_draw [Sl.memo, Sl.d (D.int ↑n)] (r - 1 - 1) fun d r1 => S__law_of [Sl.memo, Sl.d (D.lst [.str "a", .str "b", .str "kept"])] r1 fun d_1 r1 => P (D.tup [z, d, d_1]) r1 := by
      intro z mk hd hok
      refine q_draw (by omega) (by omega) (by omega) fun i i0 i1 => ?_
      obtain ⟨i, rfl⟩ : ∃ j : Nat, i = j := ⟨i.toNat, by omega⟩
      refine q_ofL (by simp) (by simp) (by omega) fun d hd' => ?_
      obtain ⟨t, ht, rfl⟩ : ∃ t ∈ tiesL, d = .str t := by
        simp only [List.mem_cons, List.mem_nil_iff, or_false] at hd'
        rcases hd' with rfl | rfl | rfl
        · exact ⟨_, by simp [tiesL], rfl⟩
        · exact ⟨_, by simp [tiesL], rfl⟩
        · exact ⟨_, by simp [tiesL], rfl⟩
      rw [← hd]
      exact p _ _ (hok _ _ (by omega) ht) (by omega)
    have : v = 0 ∨ v = 1 := by omega
    rcases this with rfl | rfl
    · exact ⟨_, rfl, go _ Way.body (fun _ _ => rfl) fun _ _ h1 h2 => ⟨h1, h2⟩⟩
    · exact ⟨_, rfl, go _ Way.rest (fun _ _ => rfl) fun _ _ h1 h2 => ⟨h1, h2⟩⟩
  walk_at "sx"
  refine q_draw (by decide) (by decide) (by omega) fun v v0 v1 => ?_
  walk_at "sx"
  have last : bif decide (v < 3) then (S__law_draw [Sl.memo, Sl.d (D.int 2)] (r - 1) fun e r2 => ∃ z, opIxL (.lst [.str "body", .str "rest"]) e = some z ∧
      S__law_draw [Sl.memo, Sl.d (D.int ↑n)] r2 fun d r1 => S__law_of [Sl.memo, Sl.d (D.lst [.str "a", .str "b", .str "kept"])] r1 fun d_1 r1 => P (D.tup [z, d, d_1]) r1)
      else (S__law_draw [Sl.memo, Sl.d (D.int 3)] (r - 1) fun d r1 => ∃ z, opEq d (.int 0) = some z ∧ ∃ b, z = .bl b ∧ bif b then P (D.tup [.str "kept"]) r1 else bif decide ((wards : Int) = 0) then P (D.tup [.str "kept"]) r1
        else S__law_draw [Sl.memo, Sl.d (D.int ↑wards)] r1 fun d r1 => P (D.tup [.str "ward", d]) r1) := by
    refine q_ite (fun _ => two) fun _ => ?_
    refine q_draw (by decide) (by decide) (by omega) fun u u0 u1 => ⟨_, rfl, _, rfl, ?_⟩
    have kept : P (D.tup [.str "kept"]) (r - 1 - 1) := p .kept _ trivial (by omega)
    refine q_ite (fun _ => kept) fun _ => q_ite (fun _ => kept) fun e => ward _ (by have := of_decide_eq_false e; omega) (by omega)
  refine q_ite (fun e => ?_) fun e => ?_
  · refine q_ite (fun e2 => ?_) fun e2 => ?_
    · refine ward _ (by have := of_decide_eq_true e2; omega) (by omega)
    · exact last
  · exact last
theorem q_lseat {ts : List Nat} {n wards : Nat} (t0 : 0 < ts.length) (t1 : ts.length < 1000) (ht : ∀ t ∈ ts, 1 ≤ t ∧ t ≤ 6) (n1 : 1 ≤ n) (n2 : n ≤ 1000) (w2 : wards ≤ 1000) (hr : 6 ≤ r) (p : ∀ (s : Seat) r', s.ok n wards → s.term ∈ ts → r - 6 ≤ r' → P s.d r') :
    S__law_seat [.memo, .d (manyT ts), .d (.int n), .d (.int wards)] r P := by
  unfold S__law_seat B__law_seat manyT
  walk_at "sx"
  refine q_ofT (by rw [List.length_map]; omega) (by rw [List.length_map]; omega) (by omega) fun d hd => ?_
  obtain ⟨t, htm, rfl⟩ := List.mem_map.mp hd
  have t16 := ht t htm
  walk_at "sx"
  refine q_draw (by omega) (by omega) (by omega) fun v v0 v1 => ?_
  obtain ⟨i, rfl⟩ : ∃ j : Nat, v = j := ⟨v.toNat, by omega⟩
  refine q_lway n1 n2 w2 (by omega) fun w r' hw hr' => ?_
  walk_at "sx"
  exact p ⟨t, i, w⟩ r' ⟨t16.1, t16.2, by show i < t; omega, hw⟩ htm (by omega)
theorem q_counts {h : WHouse} (b4 : ∀ b ∈ h.bodies, b.length ≤ 4) (n3 : h.bodies.length ≤ 3) (p : P (.lst ((cntH h).map manyL)) r) : S__law_counts [.d h.d] r P := by
  unfold S__law_counts B__law_counts WHouse.d
  walk_at "sx"
  refine lc_map (f := fun b => manyL (b.map fun g => g.2)) (fun b hb => ⟨_, rfl, fun r P p => ?_⟩) (by simp only [List.length_nil]; omega) ?_
  · unfold gbD
    walk_at "sx"
    refine lc_map (f := fun g => .int (g.2 : Nat)) (fun g hg => ⟨_, rfl, fun r P p => ?_⟩) (by have := b4 b hb; simp only [List.length_nil]; omega) ?_
    · unfold gD
      walk_at "sx"
      exact p
    · walk_at "sx"
      unfold manyL at p
      rw [List.map_map] at p
      exact p
  · walk_at "sx"
    unfold cntH at p
    rw [List.map_map] at p
    exact p
theorem q_frame {h : WHouse} (b4 : ∀ b ∈ h.bodies, b.length ≤ 4) (n3 : h.bodies.length ≤ 3) (p : P (.lst ((frameX h).map .lst ++ [.int h.wards])) r) : S__law_frame [.d h.d] r P := by
  unfold S__law_frame B__law_frame WHouse.d
  walk_at "sx"
  refine for_inv (fun j δ r' => r = r' ∧ ∃ o2, δ = [some (.d (.tup [.tup (h.bodies.map gbD), .int h.wards])), some (.own (((frameX h).take j).map .lst)), o2, none]) ⟨rfl, _, rfl⟩ ?_ ?_
  · rintro j b δ _ hj ⟨rfl, o2, rfl⟩ N hN
    have hb := List.mem_of_getElem? hj
    have jl := (List.getElem?_eq_some_iff.mp hj).1
    unfold gbD
    walk_at "sx"
    refine lc_map (f := fun g : Grp => g.1.d) (fun g hg => ⟨_, rfl, fun r P p => ?_⟩) (by have := b4 b hb; simp only [List.length_nil]; omega) ?_
    · unfold gD
      walk_at "sx"
      exact p
    · have tk : (frameX h).take (j + 1) = (frameX h).take j ++ [b.map fun g => g.1.d] := by
        rw [List.take_add_one]
        unfold frameX
        rw [List.getElem?_map, hj]
        rfl
      rw [tk, List.map_append] at hN
      exact ⟨by rw [List.length_map, List.length_take]; omega, hN _ _ ⟨rfl, _, rfl⟩⟩
  · rintro δ _ ⟨rfl, o2, rfl⟩
    have l : h.bodies.length = (frameX h).length := by unfold frameX; rw [List.length_map]
    rw [l, List.take_length]
    walk_at "sx"
    refine ⟨by rw [List.length_map, ← l]; omega, p⟩
theorem q_lside {lot many : List Nat} (hl : lot.length = many.length) (h4 : many.length ≤ 1000) (p : P (.str (sideOf lot many)) r) : S__law_side [.d (.str (lotS lot)), .d (manyL many)] r P := by
  unfold S__law_side B__law_side manyL
  walk_at "sx"
  rw [lit_a, lit_b]
  have pick : ∀ (k : Nat) (o2 o3 : Option Sl) (r : Nat) (P : D → Nat → Prop), P (.lst ((picks k lot many).map D.int)) r → compD (gvName 4) (vE (eOp opEq (eOp opIxS (eVar 0) (eVar 4)) (eC (.str ⟨#[k]⟩)))) (eOp opIxL (eVar 1) (eVar 4)) [some (.d (.str (lotS lot))), some (.d (.lst (many.map fun n => .int (n : Nat)))), o2, o3, none] (rangeD 0 ((lotS lot).length : Int).toNat) [] r P := by
    intro k o2 o3 r P p
    rw [range_map, show ((lotS lot).length : Int).toNat = lot.length by rw [lotS_len]; omega]
    refine lc_filt (q := fun i => decide (lot.getD i 0 = k)) (f := fun i => .int (many.getD i 0 : Nat)) ?_ ?_ ?_
    · intro i hi
      have il : i < lot.length := List.mem_range.mp hi
      have g1 : lot[i]? = some (lot.getD i 0) := by rw [List.getElem?_eq_getElem il, List.getD_eq_getElem?_getD, List.getElem?_eq_getElem il]; rfl
      have g2 : many[i]? = some (many.getD i 0) := by rw [List.getElem?_eq_getElem (show i < many.length by omega), List.getD_eq_getElem?_getD, List.getElem?_eq_getElem (show i < many.length by omega)]; rfl
      have ix : opIxS (.str (lotS lot)) (.int (0 + (i : Int))) = some (.str ⟨#[lot.getD i 0]⟩) := by
        show (if (lotS lot).length ≤ 100000 ∧ 0 ≤ (0 + (i : Int)) then ((lotS lot).cps[(0 + (i : Int)).toNat]?).map fun c => D.str ⟨#[c]⟩ else none) = _
        rw [if_pos ⟨by rw [lotS_len]; omega, by omega⟩]
        have : (lotS lot).cps[(0 + (i : Int)).toNat]? = some (lot.getD i 0) := by
          rw [show (0 + (i : Int)).toNat = i by omega]
          show lot.toArray[i]? = _
          rw [List.getElem?_toArray, g1]
        rw [this]
        rfl
      refine ⟨_, rfl, fun r P p => ?_, fun _ r P p => ?_⟩
      · walk_at "sx"
        refine ⟨_, ix, ?_⟩
        walk_at "sx"
        simp only [one_eq]
        exact p
      · walk_at "sx"
        refine ⟨_, by rw [show (0 + (i : Int)) = (i : Int) by omega, atD_map g2], p⟩
    · simp only [List.length_nil, List.length_range]; omega
    · rw [← picks_range k lot many hl, List.map_map] at p
      exact p
  have sz : (lotS lot).length ≤ 100000 ∧ (-(2 ^ 62) ≤ ((lotS lot).length : Int) ∧ ((lotS lot).length : Int) < 2 ^ 62) := by rw [lotS_len]; omega
  refine ⟨sz.1, sz.2, pick 97 _ _ r _ ?_⟩
  walk_at "sx"
  rw [ints_id]
  walk_at "sx"
  refine ⟨sz.1, sz.2, pick 98 _ _ r _ ?_⟩
  walk_at "sx"
  rw [ints_id]
  walk_at "sx"
  unfold sideOf sideV at p
  by_cases z : (picks 97 lot many).sum = (picks 98 lot many).sum
  · rw [decide_eq_true z]
    rw [if_pos z] at p
    exact p
  · rw [decide_eq_false z]
    rw [if_neg z] at p
    walk_at "sx"
    by_cases y : (picks 98 lot many).sum < (picks 97 lot many).sum
    · rw [decide_eq_true y]
      rw [if_pos y, lit_a] at p
      exact p
    · rw [decide_eq_false y]
      rw [if_neg y, lit_b] at p
      exact p
end
end TSx

namespace TSx
open PySem L2 TL
local macro_rules | `(tactic| walk_at "sx") => `(tactic| try simp only [runD, sSeq, sNext, sBrk, sCnt, sIf, sRet, sRetN, sDrop, sNew, sApp, sFrz, sPar, sFor, sAsg, eVar, eC, eOp, eUn, eCB, eM1, eCall, eIf, eAnd, eOr, eNot, eTup, eLst, eChain, eLc, eLc2, eIsi, eSl, oNo, oPart, eOwnTup, eOwnLen, eBack, eRepr,
  aNil, aCons, aMemo, aScr, vE, vNot, vAnd, vOr, vYes, iTupD, iLstD, iStrD, iR1, iR2, iEnD, iEnL, iZTT, iZLL, iZLT, iZST, iZTS, iZSS, gvTup, gvCons, gvName, gvNil, wipeD, datas,
  opAdd, opSub, opMul, opMod, opFdiv, opPow, opLt, opLe, opGt, opGe, opNeg, opI, opB, opIC, opCatL, opCatT, opCatS, opRepL, opEq, opNe, eqSc, opIsN, opNotN, opIxL, opIxT, opIx, cLen, cLenS, cTup, cLst, cMin2, cInt, cIntB, cLcm, lstD, cSum, cAll, cAny, cMax, slT, slL, slS, opRev, mCount, mFind, mJoin, seqD, atD_nat, at0, at1, at2, at3, Int.cast_ofNat_Int, Int.reduceEq, Int.reduceLE, Int.reduceLT, decide_true, decide_false, D.ty, D.isE, kInt, kIntB, kTup, kStr, kIS, kTI, kTB, kTS, kIT, kISt, kBI, kBB, kL1, kL2, kL3, kS1, kS2, kN1, kN2, kN3,
  ex_tup, ex_lst, ex_bl, ex_str, ex_str0, ex_int, ex_i1, ex_i2, ex_t1, ex_l1, ex_tt, ex_ll, ex_lt, ex_st, ex_ts, ex_ss, ex_own, ex_own2, ex_par, ex_draw, ex_some, ex_if, Option.some.injEq, exists_eq_left', Option.map_some, Option.bind_some, Option.map_none,
  List.map_cons, List.map_nil, List.cons_append, List.nil_append, List.replicate, List.length_cons, List.length_nil, List.getElem?_cons_zero, List.getElem?_cons_succ, List.set_cons_zero, List.set_cons_succ, cond_true, cond_false, Bool.not_true, Bool.not_false, true_and, and_true, Nat.reduceAdd, Nat.reduceLeDiff, if_true, ite_true, Bool.and_true, Bool.true_and])
theorem ext3_take {ls : List (List Nat)} {i : Nat} {l : List Nat} (h : ls[i]? = some l) : ext3 (ls.take (i + 1)) = ext3 (ls.take i) ++ [l ++ [45], l ++ [97], l ++ [98]] := by
  unfold ext3
  rw [List.take_add_one, h, List.map_append, List.flatten_append]
  rfl
theorem lit_nil : Str.ofString "" = lotS [] := by decide +kernel
theorem lit_d : Str.ofString "-" = lotS [45] := by decide +kernel
theorem lit_a' : Str.ofString "a" = lotS [97] := by decide +kernel
theorem lit_b' : Str.ofString "b" = lotS [98] := by decide +kernel
theorem lot_cat (l m : List Nat) : lotS l ++ lotS m = lotS (l ++ m) := by
  show (⟨l.toArray ++ m.toArray⟩ : Str) = ⟨(l ++ m).toArray⟩
  congr 1
  simp
theorem ext3_card (ls : List (List Nat)) (h : ls.length ≤ 27) : (ext3 ls).length ≤ 81 := by rw [ext3_len]; omega
/-- one body with other numbers -/
def sizedB (b : List Grp) (m : List Nat) : List Grp := (b.zip m).map fun q => (q.1.1, q.2)
def sizedH (h : WHouse) (ms : List (List Nat)) : WHouse := ⟨(h.bodies.zip ms).map fun p => sizedB p.1 p.2, h.wards⟩
structure Fit (h : WHouse) (ms : List (List Nat)) : Prop where
  l : ms.length = h.bodies.length
  b : ∀ (i : Nat) (b : List Grp) (m : List Nat), h.bodies[i]? = some b → ms[i]? = some m → m.length = b.length
  z : ∀ m ∈ ms, ∀ n ∈ m, 1 ≤ n ∧ n ≤ 10 ^ 30
theorem range_zip {α β γ : Type} {l : List α} {m : List β} {f : Nat → γ} {g : α × β → γ} (hl : l.length = m.length) (h : ∀ (i : Nat) a b, l[i]? = some a → m[i]? = some b → f i = g (a, b)) : (List.range l.length).map f = (l.zip m).map g := by
  refine List.ext_getElem? fun i => ?_
  by_cases hi : i < l.length
  · have h2 : i < m.length := by omega
    rw [List.getElem?_map, List.getElem?_range hi, List.getElem?_map, (List.getElem?_zip_eq_some (z := (l[i], m[i]))).mpr ⟨List.getElem?_eq_getElem hi, List.getElem?_eq_getElem h2⟩]
    show some (f i) = some (g _)
    rw [h i _ _ (List.getElem?_eq_getElem hi) (List.getElem?_eq_getElem h2)]
  · rw [List.getElem?_eq_none (by rw [List.length_map, List.length_range]; omega), List.getElem?_eq_none (by rw [List.length_map, List.length_zip]; omega)]
theorem sized_terms {b : List Grp} {m : List Nat} (h : m.length = b.length) : (sizedB b m).map (fun g => g.1) = b.map fun g => g.1 := by
  unfold sizedB
  rw [List.map_map]
  have : (b.zip m).map ((fun g : Grp => g.1) ∘ fun q => (q.1.1, q.2)) = ((b.zip m).map Prod.fst).map fun g => g.1 := by rw [List.map_map]; rfl
  rw [this, List.map_fst_zip (by omega)]
theorem sized_many {b : List Grp} {m : List Nat} (h : m.length = b.length) : (sizedB b m).map (fun g => g.2) = m := by
  unfold sizedB
  rw [List.map_map]
  have : (b.zip m).map ((fun g : Grp => g.2) ∘ fun q => (q.1.1, q.2)) = (b.zip m).map Prod.snd := rfl
  rw [this, List.map_snd_zip (by omega)]
theorem lcmG_seats (c : Nat) (b : List Grp) : lcmG c b = (b.map fun g => g.1).foldl (fun c s => (Nat.lcm 1 c).lcm s.term) c := by
  unfold lcmG
  rw [List.foldl_map]
theorem sized_seats {h : WHouse} {ms : List (List Nat)} (f : Fit h ms) : (sizedH h ms).bodies.map (fun b => b.map fun g => g.1) = h.bodies.map fun b => b.map fun g => g.1 := by
  refine List.ext_getElem? fun i => ?_
  unfold sizedH
  rw [List.map_map, List.getElem?_map, List.getElem?_map]
  by_cases hi : i < h.bodies.length
  · have h2 : i < ms.length := by rw [f.l]; exact hi
    rw [(List.getElem?_zip_eq_some (z := (h.bodies[i], ms[i]))).mpr ⟨List.getElem?_eq_getElem hi, List.getElem?_eq_getElem h2⟩, List.getElem?_eq_getElem hi]
    show some _ = some _
    exact congrArg some (sized_terms (f.b i _ _ (List.getElem?_eq_getElem hi) (List.getElem?_eq_getElem h2)))
  · rw [List.getElem?_eq_none (by rw [List.length_zip]; omega), List.getElem?_eq_none (by omega)]
    rfl
theorem sized_cnt {h : WHouse} {ms : List (List Nat)} (f : Fit h ms) : cntH (sizedH h ms) = ms := by
  refine List.ext_getElem? fun i => ?_
  unfold cntH sizedH
  rw [List.map_map, List.getElem?_map]
  by_cases hi : i < h.bodies.length
  · have h2 : i < ms.length := by rw [f.l]; exact hi
    rw [(List.getElem?_zip_eq_some (z := (h.bodies[i], ms[i]))).mpr ⟨List.getElem?_eq_getElem hi, List.getElem?_eq_getElem h2⟩, List.getElem?_eq_getElem h2]
    show some _ = some _
    exact congrArg some (sized_many (f.b i _ _ (List.getElem?_eq_getElem hi) (List.getElem?_eq_getElem h2)))
  · rw [List.getElem?_eq_none (by rw [List.length_zip]; omega), List.getElem?_eq_none (by rw [f.l]; omega)]
    rfl
theorem lcmH_seats : ∀ {bs cs : List (List Grp)} (c : Nat), bs.map (fun b => b.map fun g => g.1) = cs.map (fun b => b.map fun g => g.1) → bs.foldl lcmG c = cs.foldl lcmG c
  | [], [], _, _ => rfl
  | [], _ :: _, _, h => by cases h
  | _ :: _, [], _, h => by cases h
  | b :: bs, d :: cs, c, h => by
    rw [List.map_cons, List.map_cons] at h
    have h1 := (List.cons.inj h).1
    have h2 := (List.cons.inj h).2
    show bs.foldl lcmG (lcmG c b) = cs.foldl lcmG (lcmG c d)
    rw [lcmG_seats c b, lcmG_seats c d, h1]
    exact lcmH_seats _ h2
theorem sized_mem {h : WHouse} {ms : List (List Nat)} (f : Fit h ms) {b' : List Grp} (hb : b' ∈ (sizedH h ms).bodies) : ∃ b ∈ h.bodies, ∃ m ∈ ms, m.length = b.length ∧ b' = sizedB b m := by
  obtain ⟨⟨b, m⟩, hp, rfl⟩ := List.mem_map.mp hb
  obtain ⟨i, hi⟩ := List.mem_iff_getElem?.mp hp
  have := List.getElem?_zip_eq_some.mp hi
  exact ⟨b, List.mem_of_getElem? this.1, m, List.mem_of_getElem? this.2, f.b i b m this.1 this.2, rfl⟩
theorem sized_ok {h : WHouse} {ms : List (List Nat)} (ok : h.ok) (f : Fit h ms) : (sizedH h ms).ok := by
  have lb : (sizedH h ms).bodies.length = h.bodies.length := by
    unfold sizedH
    rw [List.length_map, List.length_zip, f.l, Nat.min_self]
  refine ⟨ok.w, by rw [lb]; exact ok.n1, by rw [lb]; exact ok.n3, fun b' hb => ?_, fun b' hb g hg => ?_, ?_⟩
  · obtain ⟨b, hb0, m, hm, hl, rfl⟩ := sized_mem f hb
    unfold sizedB
    rw [List.length_map, List.length_zip, hl, Nat.min_self]
    exact ok.b b hb0
  · rw [lb]
    obtain ⟨b, hb0, m, hm, hl, rfl⟩ := sized_mem f hb
    obtain ⟨⟨g0, n⟩, hq, rfl⟩ := List.mem_map.mp hg
    have := List.of_mem_zip hq
    exact ⟨(ok.g b hb0 g0 this.1).s, (f.z m hm n this.2).1, (f.z m hm n this.2).2⟩
  · rw [lcmH_seats 1 (sized_seats f)]
    exact ok.lc
theorem sized_frame {h : WHouse} {ms : List (List Nat)} (f : Fit h ms) : frameX (sizedH h ms) = frameX h := by
  have e : ∀ k : WHouse, frameX k = (k.bodies.map fun b => b.map fun g => g.1).map fun b => b.map Seat.d := fun k => by
    unfold frameX
    rw [List.map_map]
    refine List.map_congr_left fun b _ => ?_
    show _ = (b.map fun g => g.1).map Seat.d
    rw [List.map_map]
    rfl
  rw [e, e, sized_seats f]
section
variable {r : Nat} {P : D → Nat → Prop}
theorem q_llots {n : Nat} (h4 : n ≤ 4) (p : P (.lst ((allLots n).map fun l => .str (lotS l))) r) : S__law_lots [.d (.int n)] r P := by
  unfold S__law_lots B__law_lots
  rw [lit_nil, lit_d, lit_a', lit_b']
  walk_at "sx"
  refine ⟨by omega, for_inv (fun j δ r' => r = r' ∧ ∃ o2 o3 o4, δ = [some (.d (.int n)), some (.d (.lst ((allLots j).map fun l => .str (lotS l)))), o2, o3, o4]) ⟨rfl, _, _, _, rfl⟩ ?_ ?_⟩
  · rintro j a δ _ hj ⟨rfl, o2, o3, o4, rfl⟩ N hN
    have hj4 : j < 4 := by
      have := (List.getElem?_eq_some_iff.mp hj).1
      rw [List.length_range] at this
      omega
    have l81 : (allLots j).length ≤ 27 := by
      rw [allLots_len]
      exact Nat.pow_le_pow_right (by decide) (show j ≤ 3 by omega)
    walk_at "sx"
    refine for_inv (fun i δ r' => r = r' ∧ ∃ o4, δ = [some (.d (.int n)), some (.d (.lst ((allLots j).map fun l => .str (lotS l)))), some (.d (.int (0 + (a : Int)))), some (.d (.lst ((ext3 ((allLots j).take i)).map fun l => .str (lotS l)))), o4]) ⟨rfl, _, rfl⟩ ?_ ?_
    · rintro i l δ _ hi ⟨rfl, o4, rfl⟩ M hM
      have ll := allLots_mem j l (List.mem_of_getElem? hi)
      have li : ((allLots j).take i).length ≤ 27 := by rw [List.length_take]; omega
      have l81 := ext3_card _ li
      rw [ext3_take hi, List.map_append] at hM
      walk_at "sx"
      rw [lot_cat, lot_cat, lot_cat]
      have z1 : ∀ c, (lotS l).length + (lotS [c]).length ≤ 100000 := fun c => by rw [lotS_len, lotS_len, ll]; simp only [List.length_cons, List.length_nil]; omega
      exact ⟨z1 _, z1 _, z1 _, by rw [List.length_map]; omega, hM _ _ ⟨rfl, _, rfl⟩⟩
    · rintro δ _ ⟨rfl, o4, rfl⟩
      rw [List.take_length]
      walk_at "sx"
      exact hN _ _ ⟨rfl, _, _, _, rfl⟩
  · rintro δ _ ⟨rfl, o2, o3, o4, rfl⟩
    rw [List.length_range] at *
    walk_at "sx"
    simpa using p
theorem q_lsigns {many : List Nat} (h4 : many.length ≤ 4) (p : P (.str (patS many)) r) : S__law_signs [.d (manyL many)] r P := by
  unfold S__law_signs B__law_signs
  have e0 : manyL many = .lst (many.map fun n => .int (n : Nat)) := rfl
  rw [e0]
  walk_at "sx"
  rw [List.length_map]
  refine q_llots h4 ?_
  walk_at "sx"
  refine lc_map (f := fun l => .str (sideOf l many)) (fun l hl => ⟨_, rfl, fun r P p => ?_⟩) ?_ ?_
  · walk_at "sx"
    exact q_lside (allLots_mem _ l hl) (by omega) p
  · have l81 : (allLots many.length).length ≤ 81 := by
      rw [allLots_len]
      exact Nat.pow_le_pow_right (by decide) (show many.length ≤ 4 by omega)
    simp only [List.length_nil]
    omega
  · walk_at "sx"
    rw [strsD_map]
    walk_at "sx"
    refine ⟨?_, p⟩
    have l81 : (allLots many.length).length ≤ 81 := by
      rw [allLots_len]
      exact Nat.pow_le_pow_right (by decide) (show many.length ≤ 4 by omega)
    have s1 : ∀ ls : List (List Nat), ((ls.map fun l => sideOf l many).map (·.length)).sum = ls.length := by
      intro ls
      induction ls with
      | nil => rfl
      | cons l ls ih => rw [List.map_cons, List.map_cons, List.sum_cons, ih, str1, List.length_cons]; omega
    rw [s1, List.length_map]
    have : (Str.ofString "").length = 0 := by decide +kernel
    rw [this]
    omega
theorem q_lpattern {h : WHouse} (b4 : ∀ b ∈ h.bodies, b.length ≤ 4) (n3 : h.bodies.length ≤ 3) (p : P (patD h) r) : S__law_pattern [.d h.d] r P := by
  unfold S__law_pattern B__law_pattern
  walk_at "sx"
  refine q_counts b4 n3 ?_
  walk_at "sx"
  refine lc_map (f := fun m => .str (patS m)) (fun m hm => ⟨_, rfl, fun r P p => ?_⟩) (by unfold cntH; rw [List.length_map]; simp only [List.length_nil]; omega) ?_
  · walk_at "sx"
    refine q_lsigns ?_ p
    obtain ⟨b, hb, rfl⟩ := List.mem_map.mp hm
    rw [List.length_map]
    exact b4 b hb
  · walk_at "sx"
    exact p
theorem q_sized {h : WHouse} {ms : List (List Nat)} (ok : h.ok) (f : Fit h ms) (p : P (sizedH h ms).d r) : S__law_sized [.d h.d, .d (.lst (ms.map manyL))] r P := by
  have n3 := ok.n3
  have fl := f.l
  unfold S__law_sized B__law_sized
  have e0 : h.d = .tup [.tup (h.bodies.map gbD), .int h.wards] := rfl
  rw [e0]
  walk_at "sx"
  rw [List.length_map]
  refine ⟨by omega, for_inv (fun j δ r' => r = r' ∧ ∃ o3 o4, δ = [some (.d (.tup [.tup (h.bodies.map gbD), .int h.wards])), some (.d (.lst (ms.map manyL))), some (.own (((sizedH h ms).bodies.take j).map gbD)), o3, o4, none]) ⟨rfl, _, _, rfl⟩ ?_ ?_⟩
  · rintro j a δ _ hj ⟨rfl, o3, o4, rfl⟩ N hN
    have hjl : j < ms.length := by
      have := (List.getElem?_eq_some_iff.mp hj).1
      rw [List.length_range] at this
      omega
    obtain rfl : a = j := by
      have h1 : j < ((ms.length : Int)).toNat := by omega
      rw [List.getElem?_range h1] at hj
      cases hj; rfl
    have g1 : h.bodies[a]? = some (h.bodies[a]'(by omega)) := List.getElem?_eq_getElem _
    have g2 : ms[a]? = some (ms[a]) := List.getElem?_eq_getElem _
    generalize h.bodies[a]'(by omega) = b at g1
    generalize ms[a] = m at g2
    have ml := f.b a b m g1 g2
    have bb := ok.b b (List.mem_of_getElem? g1)
    have tk : (sizedH h ms).bodies.take (a + 1) = (sizedH h ms).bodies.take a ++ [sizedB b m] := by
      rw [List.take_add_one]
      have : (sizedH h ms).bodies[a]? = some (sizedB b m) := by
        unfold sizedH
        rw [List.getElem?_map, (List.getElem?_zip_eq_some (z := (b, m))).mpr ⟨g1, g2⟩]
        rfl
      rw [this]
      rfl
    rw [tk, List.map_append] at hN
    walk_at "sx"
    refine ⟨_, by rw [show (0 + (a : Int)) = (a : Int) by omega, atD_map g1], ?_⟩
    have e1 : gbD b = .tup (b.map gD) := rfl
    rw [e1]
    walk_at "sx"
    rw [List.length_map]
    refine ⟨by omega, ?_⟩
    rw [range_map, show ((b.length : Int)).toNat = b.length by omega]
    refine lc_map (f := fun i => match b[i]?, m[i]? with | some g, some n => gD (g.1, n) | _, _ => .non) (fun i hi => ?_) (by rw [List.length_range]; simp only [List.length_nil]; omega) ?_
    · have il : i < b.length := List.mem_range.mp hi
      have k1 : b[i]? = some b[i] := List.getElem?_eq_getElem _
      have k2 : m[i]? = some (m[i]'(by omega)) := List.getElem?_eq_getElem _
      generalize b[i] = g at k1
      generalize m[i]'(by omega) = n at k2
      refine ⟨_, rfl, fun r P p => ?_⟩
      simp only [k1, k2] at p
      walk_at "sx"
      refine ⟨_, by rw [show (0 + (i : Int)) = (i : Int) by omega, atD_map k1], ?_⟩
      unfold gD
      walk_at "sx"
      refine ⟨_, by rw [show (0 + (a : Int)) = (a : Int) by omega, atD_map g2], ?_⟩
      unfold manyL
      walk_at "sx"
      refine ⟨_, by rw [show (0 + (i : Int)) = (i : Int) by omega, atD_map k2], ?_⟩
      exact ⟨show 3 ≤ 99999 by decide, p⟩
    · walk_at "sx"
      rw [range_zip (g := fun q : Grp × Nat => gD (q.1.1, q.2)) ml.symm (fun i g n k1 k2 => by simp only [k1, k2])]
      refine ⟨by rw [List.length_map, List.length_take]; have : (sizedH h ms).bodies.length ≤ 3 := (sized_ok ok f).n3; omega, ?_⟩
      have e2 : (b.zip m).map (fun q : Grp × Nat => gD (q.1.1, q.2)) = (sizedB b m).map gD := by unfold sizedB; rw [List.map_map]; rfl
      rw [e2]
      exact hN _ _ ⟨rfl, _, _, rfl⟩
  · rintro δ _ ⟨rfl, o3, o4, rfl⟩
    rw [List.length_range] at *
    walk_at "sx"
    have l2 : ((ms.length : Int)).toNat = (sizedH h ms).bodies.length := by
      unfold sizedH
      rw [List.length_map, List.length_zip]
      omega
    rw [l2, List.take_length]
    exact p
end
end TSx

namespace TSx
open PySem L2 TL
local macro_rules | `(tactic| walk_at "sx") => `(tactic| try simp only [runD, sSeq, sNext, sBrk, sCnt, sIf, sRet, sRetN, sDrop, sNew, sApp, sFrz, sPar, sFor, sAsg, eVar, eC, eOp, eUn, eCB, eM1, eCall, eIf, eAnd, eOr, eNot, eTup, eLst, eChain, eLc, eLc2, eIsi, eSl, oNo, oPart, eOwnTup, eOwnLen, eBack, eRepr,
  aNil, aCons, aMemo, aScr, vE, vNot, vAnd, vOr, vYes, iTupD, iLstD, iStrD, iR1, iR2, iEnD, iEnL, iZTT, iZLL, iZLT, iZST, iZTS, iZSS, gvTup, gvCons, gvName, gvNil, wipeD, datas,
  opAdd, opSub, opMul, opMod, opFdiv, opPow, opLt, opLe, opGt, opGe, opNeg, opI, opB, opIC, opCatL, opCatT, opCatS, opRepL, opEq, opNe, eqSc, opIsN, opNotN, opIxL, opIxT, opIx, cLen, cLenS, cTup, cLst, cMin2, cInt, cIntB, cLcm, lstD, cSum, cAll, cAny, cMax, slT, slL, slS, opRev, mCount, mFind, mJoin, seqD, atD_nat, at0, at1, at2, at3, Int.cast_ofNat_Int, Int.reduceEq, Int.reduceLE, Int.reduceLT, decide_true, decide_false, D.ty, D.isE, kInt, kIntB, kTup, kStr, kIS, kTI, kTB, kTS, kIT, kISt, kBI, kBB, kL1, kL2, kL3, kS1, kS2, kN1, kN2, kN3,
  ex_tup, ex_lst, ex_bl, ex_str, ex_str0, ex_int, ex_i1, ex_i2, ex_t1, ex_l1, ex_tt, ex_ll, ex_lt, ex_st, ex_ts, ex_ss, ex_own, ex_own2, ex_par, ex_draw, ex_some, ex_if, Option.some.injEq, exists_eq_left', Option.map_some, Option.bind_some, Option.map_none,
  List.map_cons, List.map_nil, List.cons_append, List.nil_append, List.replicate, List.length_cons, List.length_nil, List.getElem?_cons_zero, List.getElem?_cons_succ, List.set_cons_zero, List.set_cons_succ, cond_true, cond_false, Bool.not_true, Bool.not_false, true_and, and_true, Nat.reduceAdd, Nat.reduceLeDiff, if_true, ite_true, Bool.and_true, Bool.true_and])
def termsL : List (List Nat) := [[1, 2], [1, 2, 4], [2, 3, 6], [1, 3, 4], [6, 4], [5]]
theorem termsL_ok : ∀ ts ∈ termsL, 0 < ts.length ∧ ts.length < 1000 ∧ (∀ t ∈ ts, 1 ≤ t ∧ t ≤ 6) ∧ ts.foldl Nat.lcm 1 ≤ 12 ∧ 1 ≤ ts.foldl Nat.lcm 1 ∧ ∀ t ∈ ts, t ∣ ts.foldl Nat.lcm 1 := by decide
theorem lcmG_dvd {L : Nat} {b : List Grp} : ∀ {c : Nat}, c ∣ L → (∀ g ∈ b, g.1.term ∣ L) → lcmG c b ∣ L := by
  induction b with
  | nil => intro c h _; exact h
  | cons s l ih =>
    intro c h a
    refine ih ?_ fun x hx => a x (List.mem_cons_of_mem _ hx)
    show (Nat.lcm 1 c).lcm s.1.term ∣ L
    rw [Nat.lcm_one_left]
    exact Nat.lcm_dvd h (a s (List.mem_cons_self ..))
theorem lcmGs_dvd {L : Nat} {bs : List (List Grp)} : ∀ {c : Nat}, c ∣ L → (∀ b ∈ bs, ∀ g ∈ b, g.1.term ∣ L) → bs.foldl lcmG c ∣ L := by
  induction bs with
  | nil => intro c h _; exact h
  | cons b l ih => intro c h a; exact ih (lcmG_dvd h (a b (List.mem_cons_self ..))) fun x hx => a x (List.mem_cons_of_mem _ hx)
/-- a drawn group -/
structure DrawnG (n wards : Nat) (ts szs : List Nat) (g : Grp) : Prop where
  s : g.1.ok n wards
  t : g.1.term ∈ ts
  m : g.2 ∈ szs
section
variable {r : Nat} {P : D → Nat → Prop}
theorem q_lwide {most : Nat} {szs : List Nat} (m1 : 1 ≤ most) (m3 : most ≤ 3) (s0 : 0 < szs.length) (s1 : szs.length < 1000) (hs : ∀ n ∈ szs, 1 ≤ n ∧ n ≤ 10 ^ 30) (hr : 100 ≤ r) (p : ∀ (h : WHouse) r', h.ok → r - 100 ≤ r' → P h.d r') : S__law_wide [.memo, .d (.int most), .d (manyT szs)] r P := by
  unfold S__law_wide B__law_wide
  walk_at "sx"
  refine q_draw (by omega) (by omega) (by omega) fun v v0 v1 => ?_
  obtain ⟨nb, rfl⟩ : ∃ j : Nat, v = j := ⟨v.toNat, by omega⟩
  walk_at "sx"
  refine q_draw (by omega) (by omega) (by omega) fun v v0 v2 => ?_
  obtain ⟨wards, rfl⟩ : ∃ j : Nat, v = j := ⟨v.toNat, by omega⟩
  walk_at "sx"
  rw [show [D.tup [.int 1, .int 2], .tup [.int 1, .int 2, .int 4], .tup [.int 2, .int 3, .int 6], .tup [.int 1, .int 3, .int 4], .tup [.int 6, .int 4], .tup [.int 5]] = termsL.map manyT from rfl]
  refine q_ofL (by decide) (by decide) (by omega) fun d hd => ?_
  obtain ⟨ts, hts, rfl⟩ := List.mem_map.mp hd
  obtain ⟨t0, t1, t16, tL, tL1, tdv⟩ := termsL_ok ts hts
  walk_at "sx"
  have en : (1 : Int) + (nb : Int) = ((nb + 1 : Nat) : Int) := by omega
  rw [en]
  refine ⟨by omega, ?_⟩
  rw [range_map]
  refine for_inv (fun j δ r' => r - 3 - 29 * j ≤ r' ∧ ∃ (bs : List (List Grp)) (o5 o8 o9 o10 : Option Sl), bs.length = j ∧ (∀ b ∈ bs, 1 ≤ b.length ∧ b.length ≤ 4 ∧ ∀ g ∈ b, DrawnG (nb + 1) wards ts szs g) ∧ δ = [some .memo, some (.d (.int most)), some (.d (manyT szs)), some (.d (manyT ts)), some (.own (bs.map gbD)), o5, some (.d (.int (nb + 1 : Nat))), some (.d (.int wards)), o8, o9, o10])
    ⟨by omega, [], _, _, _, _, rfl, (fun b hb => by cases hb), rfl⟩ ?_ ?_
  · rintro j a δ r1 hj ⟨hr1, bs, o5, o8, o9, o10, hbl, hbs, rfl⟩ N hN
    have jl : j < nb + 1 := by
      have := (List.getElem?_eq_some_iff.mp hj).1
      rw [List.length_range] at this
      omega
    walk_at "sx"
    refine q_draw (by decide) (by decide) (by omega) fun v v0 v3 => ?_
    obtain ⟨c, rfl⟩ : ∃ j : Nat, v = j := ⟨v.toNat, by omega⟩
    walk_at "sx"
    have ec : (1 : Int) + (c : Int) = ((c + 1 : Nat) : Int) := by omega
    rw [ec]
    refine ⟨by omega, ?_⟩
    rw [range_map]
    refine for_inv (fun i δ r' => r1 - 1 - 7 * i ≤ r' ∧ ∃ (gs : List Grp) (o9 o10 : Option Sl), gs.length = i ∧ (∀ g ∈ gs, DrawnG (nb + 1) wards ts szs g) ∧ δ = [some .memo, some (.d (.int most)), some (.d (manyT szs)), some (.d (manyT ts)), some (.own (bs.map gbD)), some (.d (.int (0 + (a : Int)))), some (.d (.int (nb + 1 : Nat))), some (.d (.int wards)), some (.own (gs.map gD)), o9, o10])
      ⟨by omega, [], _, _, rfl, (fun b hb => by cases hb), rfl⟩ ?_ ?_
    · rintro i a2 δ r2 hi ⟨hr2, gs, o9, o10, hgl, hgs, rfl⟩ M hM
      have il : i < c + 1 := by
        have := (List.getElem?_eq_some_iff.mp hi).1
        rw [List.length_range] at this
        omega
      walk_at "sx"
      refine q_lseat t0 t1 t16 (by omega) (by omega) (by omega) (by omega) fun s r3 hs2 hst hr3 => ?_
      walk_at "sx"
      have e1 : manyT szs = .tup (szs.map fun n => .int (n : Nat)) := rfl
      rw [e1]
      refine q_ofT (by rw [List.length_map]; exact s0) (by rw [List.length_map]; omega) (by omega) fun d hd => ?_
      obtain ⟨n, hn, rfl⟩ := List.mem_map.mp hd
      unfold Seat.d
      walk_at "sx"
      refine ⟨by rw [List.length_map]; omega, ?_⟩
      have eg : gs.map gD ++ [D.tup [.int (s.term : Nat), .int (s.phase : Nat), s.way.d, .int (n : Nat)]] = (gs ++ [(s, n)]).map gD := by rw [List.map_append]; rfl
      rw [eg]
      have mg : ∀ g ∈ gs ++ [(s, n)], DrawnG (nb + 1) wards ts szs g := fun g hg => by
        rcases List.mem_append.mp hg with q | q
        · exact hgs g q
        · rw [List.mem_singleton.mp q]
          exact ⟨hs2, hst, hn⟩
      exact hM _ _ ⟨by omega, gs ++ [(s, n)], _, _, by rw [List.length_append, hgl]; rfl, mg, rfl⟩
    · rintro δ r2 ⟨hr2, gs, o9, o10, hgl, hgs, rfl⟩
      rw [List.length_range] at *
      walk_at "sx"
      have eg : bs.map gbD ++ [D.tup (gs.map gD)] = (bs ++ [gs]).map gbD := by rw [List.map_append]; rfl
      rw [eg]
      have mg : ∀ b ∈ bs ++ [gs], 1 ≤ b.length ∧ b.length ≤ 4 ∧ ∀ g ∈ b, DrawnG (nb + 1) wards ts szs g := fun b hb => by
        rcases List.mem_append.mp hb with q | q
        · exact hbs b q
        · rw [List.mem_singleton.mp q]
          exact ⟨by omega, by omega, hgs⟩
      exact ⟨by rw [List.length_map]; omega, hN _ _ ⟨by omega, bs ++ [gs], _, _, _, _, by rw [List.length_append, hbl]; rfl, mg, rfl⟩⟩
  · rintro δ r1 ⟨hr1, bs, o5, o8, o9, o10, hbl, hbs, rfl⟩
    rw [List.length_range] at *
    walk_at "sx"
    have bl : bs.length = nb + 1 := by omega
    refine p ⟨bs, wards⟩ r1 ⟨by show wards ≤ 4; omega, by show 1 ≤ bs.length; omega, by show bs.length ≤ 3; omega, fun b hb => ⟨(hbs b hb).1, (hbs b hb).2.1⟩, fun b hb g hg => ?_, ?_⟩ (by omega)
    · have q := (hbs b hb).2.2 g hg
      show Grp.ok bs.length wards g
      rw [bl]
      exact ⟨q.s, (hs _ q.m).1, (hs _ q.m).2⟩
    · refine Nat.le_trans (Nat.le_of_dvd tL1 (lcmGs_dvd (Nat.one_dvd _) fun b hb g hg => tdv _ ((hbs b hb).2.2 g hg).t)) tL
end
end TSx

namespace TSx
open PySem L2 TL
local macro_rules | `(tactic| walk_at "sx") => `(tactic| try simp only [runD, sSeq, sNext, sBrk, sCnt, sIf, sRet, sRetN, sDrop, sNew, sApp, sFrz, sPar, sFor, sAsg, eVar, eC, eOp, eUn, eCB, eM1, eCall, eIf, eAnd, eOr, eNot, eTup, eLst, eChain, eLc, eLc2, eIsi, eSl, oNo, oPart, eOwnTup, eOwnLen, eBack, eRepr,
  aNil, aCons, aMemo, aScr, vE, vNot, vAnd, vOr, vYes, iTupD, iLstD, iStrD, iR1, iR2, iEnD, iEnL, iZTT, iZLL, iZLT, iZST, iZTS, iZSS, gvTup, gvCons, gvName, gvNil, wipeD, datas,
  opAdd, opSub, opMul, opMod, opFdiv, opPow, opLt, opLe, opGt, opGe, opNeg, opI, opB, opIC, opCatL, opCatT, opCatS, opRepL, opEq, opNe, eqSc, opIsN, opNotN, opIxL, opIxT, opIx, cLen, cLenS, cTup, cLst, cMin2, cInt, cIntB, cLcm, lstD, cSum, cAll, cAny, cMax, slT, slL, slS, opRev, mCount, mFind, mJoin, seqD, atD_nat, at0, at1, at2, at3, Int.cast_ofNat_Int, Int.reduceEq, Int.reduceLE, Int.reduceLT, decide_true, decide_false, D.ty, D.isE, kInt, kIntB, kTup, kStr, kIS, kTI, kTB, kTS, kIT, kISt, kBI, kBB, kL1, kL2, kL3, kS1, kS2, kN1, kN2, kN3,
  ex_tup, ex_lst, ex_bl, ex_str, ex_str0, ex_int, ex_i1, ex_i2, ex_t1, ex_l1, ex_tt, ex_ll, ex_lt, ex_st, ex_ts, ex_ss, ex_own, ex_own2, ex_par, ex_draw, ex_some, ex_if, Option.some.injEq, exists_eq_left', Option.map_some, Option.bind_some, Option.map_none,
  List.map_cons, List.map_nil, List.cons_append, List.nil_append, List.replicate, List.length_cons, List.length_nil, List.getElem?_cons_zero, List.getElem?_cons_succ, List.set_cons_zero, List.set_cons_succ, cond_true, cond_false, Bool.not_true, Bool.not_false, true_and, and_true, Nat.reduceAdd, Nat.reduceLeDiff, if_true, ite_true, Bool.and_true, Bool.true_and])
local macro_rules | `(tactic| walk_at "sy") => `(tactic| try simp only [runD, sSeq, sNext, sBrk, sCnt, sIf, sRet, sRetN, sDrop, sNew, sApp, sFrz, sPar, sFor, sAsg, eVar, eC, eOp, eUn, eCB, eM1, eCall, eAnd, eOr, eNot, eTup, eLst, eChain, eLc, eLc2, eIsi, eSl, oNo, oPart, eOwnTup, eOwnLen, eBack, eRepr,
  aNil, aCons, aMemo, aScr, vE, vNot, vAnd, vOr, vYes, iTupD, iLstD, iStrD, iR1, iR2, iEnD, iEnL, iZTT, iZLL, iZLT, iZST, iZTS, iZSS, gvTup, gvCons, gvName, gvNil, wipeD, datas,
  opAdd, opSub, opMul, opMod, opFdiv, opPow, opLt, opLe, opGt, opGe, opNeg, opI, opB, opIC, opCatL, opCatT, opCatS, opRepL, opEq, opNe, eqSc, opIsN, opNotN, opIxL, opIxT, opIx, cLen, cLenS, cTup, cLst, cMin2, cInt, cIntB, cLcm, lstD, cSum, cAll, cAny, cMax, slT, slL, slS, opRev, mCount, mFind, mJoin, seqD, atD_nat, at0, at1, at2, at3, Int.cast_ofNat_Int, Int.reduceEq, Int.reduceLE, Int.reduceLT, decide_true, decide_false, D.ty, D.isE, kInt, kIntB, kTup, kStr, kIS, kTI, kTB, kTS, kIT, kISt, kBI, kBB, kL1, kL2, kL3, kS1, kS2, kN1, kN2, kN3,
  ex_tup, ex_lst, ex_bl, ex_str, ex_str0, ex_int, ex_i1, ex_i2, ex_t1, ex_l1, ex_tt, ex_ll, ex_lt, ex_st, ex_ts, ex_ss, ex_own, ex_own2, ex_par, ex_draw, ex_some, ex_if, Option.some.injEq, exists_eq_left', Option.map_some, Option.bind_some, Option.map_none,
  List.map_cons, List.map_nil, List.cons_append, List.nil_append, List.replicate, List.length_cons, List.length_nil, List.getElem?_cons_zero, List.getElem?_cons_succ, List.set_cons_zero, List.set_cons_succ, cond_true, cond_false, Bool.not_true, Bool.not_false, true_and, and_true, Nat.reduceAdd, Nat.reduceLeDiff, if_true, ite_true, Bool.and_true, Bool.true_and])
theorem cpow30 : CPow 10 30 = True := eq_true (by decide)
theorem cpow29 : CPow 10 29 = True := eq_true (by decide)
theorem pow30 : opPow (.int 10) (.int 30) = some (.int (10 ^ (30 : Int).toNat)) := by
  show (if CPow 10 30 then some (D.int (10 ^ (30 : Int).toNat)) else none) = _
  rw [if_pos (by decide)]
theorem pow29 : opPow (.int 10) (.int 29) = some (.int (10 ^ (29 : Int).toNat)) := by
  show (if CPow 10 29 then some (D.int (10 ^ (29 : Int).toNat)) else none) = _
  rw [if_pos (by decide)]
def big : Nat := 1000000000000000000000000000000
theorem big_eq : ((10 : Int) ^ (30 : Int).toNat) = (big : Nat) := by decide +kernel
def sizesL : List (List Nat) := [[1, 2, 3], [1, 1, 2], [2, 3, 5, 10 ^ 30], [10 ^ 29, 10 ^ 29 + 1, 1]]
theorem sizesL_ok : ∀ s ∈ sizesL, 0 < s.length ∧ s.length < 1000 ∧ ∀ n ∈ s, 1 ≤ n ∧ n ≤ 10 ^ 30 := by decide +kernel
structure FitS (h : WHouse) (ms : List (List Nat)) : Prop where
  l : ms.length = h.bodies.length
  b : ∀ (i : Nat) (b : List Grp) (m : List Nat), h.bodies[i]? = some b → ms[i]? = some m → m.length = b.length
  z : ∀ m ∈ ms, ∀ n ∈ m, 1 ≤ n
def mxR (m : List Nat) : Int := maxI (m.map fun n : Nat => (n : Int))
def mx (ms : List (List Nat)) : Int := maxI (ms.map mxR)
theorem mx_fit {h : WHouse} {ms : List (List Nat)} (f : FitS h ms) (e : mx ms ≤ (big : Nat)) : Fit h ms := ⟨f.l, f.b, fun m hm n hn => ⟨f.z m hm n hn, by
  have h1 := (maxI_mem (ns := m.map fun n : Nat => (n : Int)) (by intro q; rw [List.map_eq_nil_iff] at q; rw [q] at hn; cases hn)).2 n (List.mem_map.mpr ⟨n, hn, rfl⟩)
  have h2 := (maxI_mem (ns := ms.map mxR) (by intro q; rw [List.map_eq_nil_iff] at q; rw [q] at hm; cases hm)).2 (mxR m) (List.mem_map.mpr ⟨m, hm, rfl⟩)
  have h3 : (n : Int) ≤ (big : Nat) := Int.le_trans h1 (Int.le_trans h2 e)
  have h4 : big = 10 ^ 30 := by decide +kernel
  omega⟩⟩
theorem fit_cnt {h : WHouse} (ok : h.ok) : FitS h (cntH h) := ⟨by unfold cntH; rw [List.length_map], fun i b m h1 h2 => by
  unfold cntH at h2
  rw [List.getElem?_map, h1] at h2
  cases h2
  rw [List.length_map], fun m hm n hn => by
  obtain ⟨b, hb, rfl⟩ := List.mem_map.mp hm
  obtain ⟨g, hg, rfl⟩ := List.mem_map.mp hn
  exact (ok.g b hb g hg).m1⟩
theorem FitS.row {h : WHouse} {ms : List (List Nat)} (ok : h.ok) (f : FitS h ms) {m : List Nat} (hm : m ∈ ms) : 1 ≤ m.length ∧ m.length ≤ 4 := by
  obtain ⟨i, hi⟩ := List.mem_iff_getElem?.mp hm
  have il : i < h.bodies.length := by rw [← f.l]; exact (List.getElem?_eq_some_iff.mp hi).1
  rw [f.b i _ m (List.getElem?_eq_getElem il) hi]
  exact ok.b _ (List.getElem_mem il)
theorem FitS.of {h : WHouse} {ms ms' : List (List Nat)} (f : FitS h ms) (l : ms'.length = ms.length) (b : ∀ (i : Nat) (m m' : List Nat), ms[i]? = some m → ms'[i]? = some m' → m'.length = m.length ∧ ∀ n ∈ m', 1 ≤ n) : FitS h ms' := ⟨l.trans f.l, fun i x m' h1 h2 => by
  have il : i < ms.length := by rw [← l]; exact (List.getElem?_eq_some_iff.mp h2).1
  rw [(b i _ m' (List.getElem?_eq_getElem il) h2).1]
  exact f.b i x _ h1 (List.getElem?_eq_getElem il), fun m' hm => by
  obtain ⟨i, hi⟩ := List.mem_iff_getElem?.mp hm
  have il : i < ms.length := by rw [← l]; exact (List.getElem?_eq_some_iff.mp hi).1
  exact (b i _ m' (List.getElem?_eq_getElem il) hi).2⟩
theorem rel_list {α β : Type} {f : β → D} {Q : α → β → Prop} : ∀ {l : List α} {ds : List D}, ds.length = l.length → (∀ (i : Nat) a d, l[i]? = some a → ds[i]? = some d → ∃ b, d = f b ∧ Q a b) → ∃ bs : List β, ds = bs.map f ∧ bs.length = l.length ∧ ∀ (i : Nat) a b, l[i]? = some a → bs[i]? = some b → Q a b
  | [], [], _, _ => ⟨[], rfl, rfl, fun i a b h => by simp at h⟩
  | [], _ :: _, h, _ => by cases h
  | _ :: _, [], h, _ => by cases h
  | a :: l, d :: ds, h, k => by
    obtain ⟨bs, e, hl, hq⟩ := rel_list (l := l) (ds := ds) (by simpa using h) fun i x y h1 h2 => k (i + 1) x y (by simpa using h1) (by simpa using h2)
    obtain ⟨b, rfl, q⟩ := k 0 a d rfl rfl
    refine ⟨b :: bs, by rw [e]; rfl, by rw [List.length_cons, hl]; rfl, fun i x y h1 h2 => ?_⟩
    cases i with
    | zero => simp at h1 h2; subst h1 h2; exact q
    | succ i => exact hq i x y (by simpa using h1) (by simpa using h2)
def rowsD (ms : List (List Nat)) : D := .lst (ms.map manyL)
section
variable {r : Nat} {P : D → Nat → Prop}
theorem cmax_row {m : List Nat} (h : 1 ≤ m.length) : cMax [.d (manyL m)] = some (.int (mxR m)) := by
  unfold cMax manyL lstD
  show (intsD (m.map fun n => D.int (n : Nat))).bind _ = _
  rw [intsD_map (fun n : Nat => (n : Int)) m]
  show (if m.map (fun n : Nat => (n : Int)) = [] then none else some _) = _
  rw [if_neg (by intro q; rw [List.map_eq_nil_iff] at q; rw [q] at h; simp at h)]
  rfl
theorem q_mx {h : WHouse} {ms : List (List Nat)} (ok : h.ok) (f : FitS h ms) {δ0 : SD} (hδ : 17 < δ0.length) (p : P (.lst (ms.map fun m => .int (mxR m))) r) : compD (gvName 17) vYes (eCB cMax (aCons (eVar 17) aNil)) δ0 (ms.map manyL) [] r P := by
  have l3 := ok.n3
  have fl := f.l
  refine lc_map (f := fun m => .int (mxR m)) (fun m hm => ⟨_, rfl, fun r P p => ?_⟩) (by simp only [List.length_nil]; omega) p
  show eVar 17 (δ0.set 17 (some (.d (manyL m)))) r fun d r1 => ∃ z, cMax [.d d] = some z ∧ P z r1
  unfold eVar
  rw [List.getElem?_set_self hδ]
  exact ⟨_, cmax_row (f.row ok hm).1, p⟩
theorem cmax_all {h : WHouse} {ms : List (List Nat)} (ok : h.ok) (f : FitS h ms) : cMax [.d (.lst (ms.map fun m => .int (mxR m)))] = some (.int (mx ms)) := by
  unfold cMax lstD
  show (intsD (ms.map fun m => D.int (mxR m))).bind _ = _
  rw [intsD_map mxR ms]
  show (if ms.map mxR = [] then none else some _) = _
  rw [if_neg (by intro q; rw [List.map_eq_nil_iff] at q; have := f.l; have := ok.n1; rw [q] at *; simp at *; omega)]
  rfl
theorem q_rows {h : WHouse} {A B : List (List Nat)} (ok : h.ok) (fA : FitS h A) {δ : SD} (hδ : δ.length = 18) (h6 : δ[6]? = some (some (.d (rowsD A)))) (h10 : δ[10]? = some (some (.d (rowsD B)))) (pA : P (rowsD A) r) (pB : P (rowsD B) r) :
    eIf (vE (eOp opLe (eCB cMax (aCons (eLc (iLstD (eVar 6)) (gvName 17) vYes (eCB cMax (aCons (eVar 17) aNil)) [17]) aNil)) (eOp opPow (eC (.int 10)) (eC (.int 30))))) (eVar 6) (eVar 10) δ r P := by
  simp only [eIf, vE, eOp, eLc, iLstD, eC, eCB, aCons, aNil, eVar, h6, h10]
  refine ⟨_, rfl, q_mx ok fA (by show 17 < (δ.set 17 none).length; rw [List.length_set]; omega) ?_⟩
  refine ⟨_, cmax_all ok fA, _, pow30, _, rfl, _, rfl, ?_⟩
  refine q_ite (fun _ => pA) fun _ => pB
theorem same_sized {h : WHouse} {ms : List (List Nat)} (ok : h.ok) (f : Fit h ms) : sameB h (sizedH h ms) = PyData.eqv (patD (sizedH h ms)).py (patD h).py ∧ sameB (sizedH h ms) h = PyData.eqv (patD (sizedH h ms)).py (patD h).py := by
  have ok' := sized_ok ok f
  have w : woutD h = woutD (sizedH h ms) := wout_iff.mpr ⟨(sized_frame f).symm, rfl⟩
  have q := eqv_iff (yl_pat (sizedH h ms)) (yl_pat h) (ck_pat _) (ck_pat _)
  constructor
  · rw [Bool.eq_iff_iff, same_iff ok ok', q]
    exact ⟨fun x => x.2.symm, fun x => ⟨w, x.symm⟩⟩
  · rw [Bool.eq_iff_iff, same_iff ok' ok, q]
    exact ⟨fun x => x.2, fun x => ⟨w.symm, x⟩⟩
def frameD (h : WHouse) : D := .lst ((frameX h).map .lst ++ [.int h.wards])
theorem yl_frame {h : WHouse} (ok : h.ok) : Yl 5 (frameD h) := yl_lst fun d hd => by
  rcases List.mem_append.mp hd with q | q
  · obtain ⟨x, hx, rfl⟩ := List.mem_map.mp q
    obtain ⟨b, hb, rfl⟩ := List.mem_map.mp hx
    refine (yl_lst (k := 2) fun d hd => ?_).up (by decide)
    obtain ⟨g, hg, rfl⟩ := List.mem_map.mp hd
    exact yl_seat (ok.g b hb g hg).s
  · rw [List.mem_singleton.mp q]
    exact yl_int.up (by decide)
theorem ck_frame (h : WHouse) : (frameD h).ck = true := ck_lst fun d hd => by
  rcases List.mem_append.mp hd with q | q
  · obtain ⟨x, hx, rfl⟩ := List.mem_map.mp q
    obtain ⟨b, hb, rfl⟩ := List.mem_map.mp hx
    refine ck_lst fun d hd => ?_
    obtain ⟨g, hg, rfl⟩ := List.mem_map.mp hd
    exact ck_seat _
  · rw [List.mem_singleton.mp q]
    rfl
theorem frame_iff {h k : WHouse} : frameD h = frameD k ↔ frameX h = frameX k ∧ h.wards = k.wards := by
  unfold frameD
  constructor
  · intro e
    have e := D.lst.inj e
    have := List.append_inj' e rfl
    refine ⟨(List.map_inj_right (fun _ _ z => D.lst.inj z)).mp this.1, ?_⟩
    have := this.2
    simp only [List.cons.injEq, D.int.injEq, and_true] at this
    omega
  · rintro ⟨e1, e2⟩
    rw [e1, e2]
theorem same_other {h k : WHouse} (ok : h.ok) (ok' : k.ok) : sameB h k = (PyData.eqv (frameD h).py (frameD k).py && PyData.eqv (patD k).py (patD h).py) := by
  rw [Bool.eq_iff_iff, same_iff ok ok', Bool.and_eq_true, eqv_iff (yl_frame ok) (yl_frame ok') (ck_frame _) (ck_frame _), eqv_iff (yl_pat k) (yl_pat h) (ck_pat _) (ck_pat _), wout_iff, frame_iff]
  exact ⟨fun x => ⟨x.1, x.2.symm⟩, fun x => ⟨x.1, x.2.symm⟩⟩
end
end TSx

namespace TSx
open PySem L2 TL
local macro_rules | `(tactic| walk_at "sx") => `(tactic| try simp only [runD, sSeq, sNext, sBrk, sCnt, sIf, sRet, sRetN, sDrop, sNew, sApp, sFrz, sPar, sFor, sAsg, eVar, eC, eOp, eUn, eCB, eM1, eCall, eIf, eAnd, eOr, eNot, eTup, eLst, eChain, eLc, eLc2, eIsi, eSl, oNo, oPart, eOwnTup, eOwnLen, eBack, eRepr,
  aNil, aCons, aMemo, aScr, vE, vNot, vAnd, vOr, vYes, iTupD, iLstD, iStrD, iR1, iR2, iEnD, iEnL, iZTT, iZLL, iZLT, iZST, iZTS, iZSS, gvTup, gvCons, gvName, gvNil, wipeD, datas,
  opAdd, opSub, opMul, opMod, opFdiv, opPow, opLt, opLe, opGt, opGe, opNeg, opI, opB, opIC, opCatL, opCatT, opCatS, opRepL, opEq, opNe, eqSc, opIsN, opNotN, opIxL, opIxT, opIx, cLen, cLenS, cTup, cLst, cMin2, cInt, cIntB, cLcm, lstD, cSum, cAll, cAny, cMax, slT, slL, slS, opRev, mCount, mFind, mJoin, seqD, atD_nat, at0, at1, at2, at3, Int.cast_ofNat_Int, Int.reduceEq, Int.reduceLE, Int.reduceLT, decide_true, decide_false, D.ty, D.isE, kInt, kIntB, kTup, kStr, kIS, kTI, kTB, kTS, kIT, kISt, kBI, kBB, kL1, kL2, kL3, kS1, kS2, kN1, kN2, kN3,
  ex_tup, ex_lst, ex_bl, ex_str, ex_str0, ex_int, ex_i1, ex_i2, ex_t1, ex_l1, ex_tt, ex_ll, ex_lt, ex_st, ex_ts, ex_ss, ex_own, ex_own2, ex_par, ex_draw, ex_some, ex_if, Option.some.injEq, exists_eq_left', Option.map_some, Option.bind_some, Option.map_none,
  List.map_cons, List.map_nil, List.cons_append, List.nil_append, List.replicate, List.length_cons, List.length_nil, List.getElem?_cons_zero, List.getElem?_cons_succ, List.set_cons_zero, List.set_cons_succ, cond_true, cond_false, Bool.not_true, Bool.not_false, true_and, and_true, Nat.reduceAdd, Nat.reduceLeDiff, if_true, ite_true, Bool.and_true, Bool.true_and])
local macro_rules | `(tactic| walk_at "sy") => `(tactic| try simp only [runD, sSeq, sNext, sBrk, sCnt, sIf, sRet, sRetN, sDrop, sNew, sApp, sFrz, sPar, sFor, sAsg, eVar, eC, eOp, eUn, eCB, eM1, eCall, eAnd, eOr, eNot, eTup, eLst, eChain, eLc, eLc2, eIsi, eSl, oNo, oPart, eOwnTup, eOwnLen, eBack, eRepr,
  aNil, aCons, aMemo, aScr, vE, vNot, vAnd, vOr, vYes, iTupD, iLstD, iStrD, iR1, iR2, iEnD, iEnL, iZTT, iZLL, iZLT, iZST, iZTS, iZSS, gvTup, gvCons, gvName, gvNil, wipeD, datas,
  opAdd, opSub, opMul, opMod, opFdiv, opPow, opLt, opLe, opGt, opGe, opNeg, opI, opB, opIC, opCatL, opCatT, opCatS, opRepL, opEq, opNe, eqSc, opIsN, opNotN, opIxL, opIxT, opIx, cLen, cLenS, cTup, cLst, cMin2, cInt, cIntB, cLcm, lstD, cSum, cAll, cAny, cMax, slT, slL, slS, opRev, mCount, mFind, mJoin, seqD, atD_nat, at0, at1, at2, at3, Int.cast_ofNat_Int, Int.reduceEq, Int.reduceLE, Int.reduceLT, decide_true, decide_false, D.ty, D.isE, kInt, kIntB, kTup, kStr, kIS, kTI, kTB, kTS, kIT, kISt, kBI, kBB, kL1, kL2, kL3, kS1, kS2, kN1, kN2, kN3,
  ex_tup, ex_lst, ex_bl, ex_str, ex_str0, ex_int, ex_i1, ex_i2, ex_t1, ex_l1, ex_tt, ex_ll, ex_lt, ex_st, ex_ts, ex_ss, ex_own, ex_own2, ex_par, ex_draw, ex_some, ex_if, Option.some.injEq, exists_eq_left', Option.map_some, Option.bind_some, Option.map_none,
  List.map_cons, List.map_nil, List.cons_append, List.nil_append, List.replicate, List.length_cons, List.length_nil, List.getElem?_cons_zero, List.getElem?_cons_succ, List.set_cons_zero, List.set_cons_succ, cond_true, cond_false, Bool.not_true, Bool.not_false, true_and, and_true, Nat.reduceAdd, Nat.reduceLeDiff, if_true, ite_true, Bool.and_true, Bool.true_and])
theorem pw30 : ((10 : Int) ^ Int.toNat 30) = ((10 ^ 30 : Nat) : Int) := by decide +kernel
theorem pw29 : ((10 : Int) ^ Int.toNat 29) = ((10 ^ 29 : Nat) : Int) := by decide +kernel
theorem pw30b : ((10 : Int) ^ Int.toNat 30) = (big : Nat) := by decide +kernel
section
variable {r : Nat} {P : D → Nat → Prop}
theorem q_rows' {h : WHouse} {A B : List (List Nat)} (ok : h.ok) (fA : FitS h A) (fB : FitS h B) {δ : SD} (hδ : δ.length = 18) (h6 : δ[6]? = some (some (.d (rowsD A)))) (h10 : δ[10]? = some (some (.d (rowsD B)))) (p : ∀ X, FitS h X → P (rowsD X) r) :
    eIf (vE (eOp opLe (eCB cMax (aCons (eLc (iLstD (eVar 6)) (gvName 17) vYes (eCB cMax (aCons (eVar 17) aNil)) [17]) aNil)) (eOp opPow (eC (.int 10)) (eC (.int 30))))) (eVar 6) (eVar 10) δ r P := q_rows ok fA hδ h6 h10 (p A fA) (p B fB)
theorem rd_bb {a b : Bool} : (D.lst [.bl a, .bl b]).rd := (ym_lst (w := 20) (k := 0) (m := 2) (fun d hd => by
  simp only [List.mem_cons, List.mem_nil_iff, or_false] at hd
  rcases hd with rfl | rfl <;> exact ym_bl) (by simp)).rd (by decide) (by decide)
theorem rd_b {a : Bool} : (D.bl a).rd := ym_bl.rd (by decide) (by decide)
theorem rd_pp {h : WHouse} (ok : h.ok) : (D.lst [patD h, patD h]).rd := (ym_lst (w := 300) (k := 1) (m := 2) (fun d hd => by
  simp only [List.mem_cons, List.mem_nil_iff, or_false] at hd
  rcases hd with rfl | rfl <;> exact ym_pat ok) (by simp)).rd (by decide) (by decide)
theorem q_like' {d e : D} (h : d.rd) (he : e = d) (p : P (.bl true) r) : S__law_like [.d d, .d e] r P := by
  subst he
  exact q_like h p
end
theorem ok_one {gs : List Grp} {w : Nat} (w4 : w ≤ 4) (l1 : 1 ≤ gs.length) (l4 : gs.length ≤ 4) (hg : ∀ g ∈ gs, Grp.ok 1 w g) (lc : lcmG 1 gs ≤ 12) : (⟨[gs], w⟩ : WHouse).ok :=
  ⟨w4, Nat.le_refl _, by show 1 ≤ 3; decide, fun b hb => by rw [List.mem_singleton.mp hb]; exact ⟨l1, l4⟩, fun b hb g hg' => by rw [List.mem_singleton.mp hb] at hg'; exact hg g hg', lc⟩
def H1 : WHouse := ⟨[[(⟨2, 0, .kept⟩, 10 ^ 30), (⟨2, 1, .rest 0 "a"⟩, 10 ^ 30 - 1)]], 0⟩
def H2 : WHouse := ⟨[[(⟨2, 0, .kept⟩, 2), (⟨2, 1, .rest 0 "a"⟩, 1)]], 0⟩
def H3 : WHouse := ⟨[[(⟨2, 0, .kept⟩, 2), (⟨2, 1, .rest 0 "b"⟩, 1)]], 0⟩
def O1 : WHouse := ⟨[[(⟨2, 0, .kept⟩, 1)]], 0⟩
def O7 : WHouse := ⟨[[(⟨2, 0, .kept⟩, 7)]], 0⟩
def F1 : WHouse := ⟨[[(⟨2, 0, .kept⟩, 1)]], 1⟩
def F2 : WHouse := ⟨[[(⟨2, 1, .kept⟩, 1)]], 0⟩
def F3 : WHouse := ⟨[[(⟨4, 0, .kept⟩, 1)]], 0⟩
theorem okk {t p n w : Nat} (a : 1 ≤ t) (b : t ≤ 6) (c : p < t) (d : 1 ≤ n) (e : n ≤ 10 ^ 30) : Grp.ok 1 w (⟨t, p, .kept⟩, n) := ⟨⟨a, b, c, trivial⟩, d, e⟩
theorem okr {t p n w : Nat} {x : Str} (hx : x ∈ tiesL) (a : 1 ≤ t) (b : t ≤ 6) (c : p < t) (d : 1 ≤ n) (e : n ≤ 10 ^ 30) : Grp.ok 1 w (⟨t, p, .rest 0 x⟩, n) := ⟨⟨a, b, c, ⟨by decide, hx⟩⟩, d, e⟩
theorem ok_two {g1 g2 : Grp} (h1 : Grp.ok 1 0 g1) (h2 : Grp.ok 1 0 g2) (lc : lcmG 1 [g1, g2] ≤ 12) : (⟨[[g1, g2]], 0⟩ : WHouse).ok := ok_one (by decide) (by show 1 ≤ 2; decide) (by show 2 ≤ 4; decide) (fun g hg => by
  simp only [List.mem_cons, List.mem_nil_iff, or_false] at hg
  rcases hg with rfl | rfl
  · exact h1
  · exact h2) lc
theorem ok_sole {g1 : Grp} {w : Nat} (w4 : w ≤ 4) (h1 : Grp.ok 1 w g1) (lc : lcmG 1 [g1] ≤ 12) : (⟨[[g1]], w⟩ : WHouse).ok := ok_one w4 (by show 1 ≤ 1; decide) (by show 1 ≤ 4; decide) (fun g hg => by rw [List.mem_singleton.mp hg]; exact h1) lc
theorem okH1 : H1.ok := ok_two (okk (by decide) (by decide) (by decide) (by decide) (by decide)) (okr (by simp [tiesL]) (by decide) (by decide) (by decide) (by decide) (by decide)) (by decide)
theorem okH2 : H2.ok := ok_two (okk (by decide) (by decide) (by decide) (by decide) (by decide)) (okr (by simp [tiesL]) (by decide) (by decide) (by decide) (by decide) (by decide)) (by decide)
theorem okH3 : H3.ok := ok_two (okk (by decide) (by decide) (by decide) (by decide) (by decide)) (okr (by simp [tiesL]) (by decide) (by decide) (by decide) (by decide) (by decide)) (by decide)
theorem okO1 : O1.ok := ok_sole (by decide) (okk (by decide) (by decide) (by decide) (by decide) (by decide)) (by decide)
theorem okO7 : O7.ok := ok_sole (by decide) (okk (by decide) (by decide) (by decide) (by decide) (by decide)) (by decide)
theorem okF1 : F1.ok := ok_sole (by decide) (okk (by decide) (by decide) (by decide) (by decide) (by decide)) (by decide)
theorem okF2 : F2.ok := ok_sole (by decide) (okk (by decide) (by decide) (by decide) (by decide) (by decide)) (by decide)
theorem okF3 : F3.ok := ok_sole (by decide) (okk (by decide) (by decide) (by decide) (by decide) (by decide)) (by decide)
theorem sH12 : sameB H1 H2 = true := by decide +kernel
theorem sH13 : sameB H1 H3 = false := by decide +kernel
theorem sO1 : sameB O1 F1 = false := by decide +kernel
theorem sO2 : sameB O1 F2 = false := by decide +kernel
theorem sO3 : sameB O1 F3 = false := by decide +kernel
theorem s1O : sameB F1 O1 = false := by decide +kernel
theorem s2O : sameB F2 O1 = false := by decide +kernel
theorem s3O : sameB F3 O1 = false := by decide +kernel
theorem sO7 : sameB O1 O7 = true := by decide +kernel
theorem pH1 : patD H1 = .tup [.str "=abaaabbb"] := by
  show D.tup [.str (patS [10 ^ 30, 10 ^ 30 - 1])] = _
  rw [show patS [10 ^ 30, 10 ^ 30 - 1] = "=abaaabbb" from by decide +kernel]
theorem law_turns (ns : List Int) (hz : ns.length ≤ 63) : B_law { nx := fun _ _ => False, rt := fun d _ => d = .bl true } ((([some (.scr ns)] ++ List.replicate (18 - 1) none) : SD).set 1 (some .memo)) 536870912 := by
  unfold B_law
  walk_at "sy"
  have el : 3 + (if (ns.length : Int) < 7 then (ns.length : Int) else 7) ≤ 10 ∧ 0 ≤ 3 + (if (ns.length : Int) < 7 then (ns.length : Int) else 7) := by split <;> omega
  generalize 3 + (if (ns.length : Int) < 7 then (ns.length : Int) else 7) = T at el
  refine ⟨by omega, for_inv (fun i δ r' => 536870912 - 1000 * i ≤ r' ∧ ∃ o2 o3 o4 o5 o6 o7 o8 o9 o10 o11 o12 o13 o14 o15 o16 o17 : Option Sl, δ = [some (.scr ns), some .memo, o2, o3, o4, o5, o6, o7, o8, o9, o10, o11, o12, o13, o14, o15, o16, o17]) ⟨by omega, _, _, _, _, _, _, _, _, _, _, _, _, _, _, _, _, rfl⟩ ?_ ?_⟩
  · rintro i a δ r1 hi ⟨hr1, o2, o3, o4, o5, o6, o7, o8, o9, o10, o11, o12, o13, o14, o15, o16, o17, rfl⟩ N hN
    have il : i < 10 := by
      have := (List.getElem?_eq_some_iff.mp hi).1
      rw [List.length_range] at this
      omega
    walk_at "sy"
    have es : [D.tup [D.int 1, D.int 2, D.int 3], D.tup [D.int 1, D.int 1, D.int 2], D.tup [D.int 2, D.int 3, D.int 5, D.int (10 ^ Int.toNat 30)], D.tup [D.int (10 ^ Int.toNat 29), D.int (10 ^ Int.toNat 29 + 1), D.int 1]] = sizesL.map manyT := by
      rw [pw30, pw29]
      rfl
    rw [es]
    refine ⟨by decide, by decide, by decide, q_ofL (by decide) (by decide) (by omega) fun d hd => ?_⟩
    obtain ⟨szs, hs, rfl⟩ := List.mem_map.mp hd
    obtain ⟨s0, s1, s2⟩ := sizesL_ok szs hs
    refine q_lwide (most := 3) (by decide) (by decide) s0 s1 s2 (by omega) fun h r2 ok hr2 => ?_
    have b4 : ∀ b ∈ h.bodies, b.length ≤ 4 := fun b hb => (ok.b b hb).2
    have n3 := ok.n3
    have fC := fit_cnt ok
    have lc : (cntH h).length = h.bodies.length := fC.l
    refine q_counts b4 n3 (q_lpattern b4 n3 (q_pattern ok (q_pattern ok (q_like (rd_pp ok) ?_))))
    walk_at "sy"
    refine q_draw (by decide) (by decide) (by omega) fun v v0 v1 => ?_
    obtain ⟨t, rfl⟩ : ∃ j : Nat, v = j := ⟨v.toNat, by omega⟩
    walk_at "sy"
    refine lc_map (f := fun m => manyL (m.map fun n => (t + 1) * n)) (fun m hm => ⟨_, rfl, fun r P p => ?_⟩) (by simp only [List.length_nil]; omega) ?_
    · have ml := fC.row ok hm
      have e0 : manyL m = .lst (m.map fun n => .int (n : Nat)) := rfl
      rw [e0]
      walk_at "sy"
      refine lc_map (f := fun n => .int (((t + 1) * n : Nat) : Int)) (fun n hn => ⟨_, rfl, fun r P p => ?_⟩) (by simp only [List.length_nil]; omega) ?_
      · walk_at "sy"
        refine ⟨Or.inl (by omega), ?_⟩
        have : (1 + (t : Int)) * (n : Int) = (((t + 1) * n : Nat) : Int) := by
          rw [Int.natCast_mul]
          congr 1
          omega
        rw [this]
        exact p
      · have e1 : [] ++ m.map (fun n => D.int (((t + 1) * n : Nat) : Int)) = (m.map fun n => (t + 1) * n).map fun n => D.int (n : Nat) := by rw [List.nil_append, List.map_map]; rfl
        rw [e1]
        exact p
    have fA : FitS h ((cntH h).map fun m => m.map fun n => (t + 1) * n) := fC.of (by rw [List.length_map]) fun i m m' h1 h2 => by
      rw [List.getElem?_map, h1] at h2
      cases h2
      refine ⟨by rw [List.length_map], fun n hn => ?_⟩
      obtain ⟨k, hk, rfl⟩ := List.mem_map.mp hn
      have := fC.z m (List.mem_of_getElem? h1) k hk
      exact Nat.mul_pos (by omega) this
    have eA : (cntH h).map (fun m => manyL (m.map fun n => (t + 1) * n)) = ((cntH h).map fun m => m.map fun n => (t + 1) * n).map manyL := by rw [List.map_map]; rfl
    rw [List.nil_append, eA]
    generalize (cntH h).map (fun m => m.map fun n => (t + 1) * n) = A at fA
    walk_at "sy"
    refine lc_rel (k := 4) (R := fun m d => ∃ m', d = manyL m' ∧ m'.length = m.length ∧ ∀ n ∈ m', 1 ≤ n) (fun m hm => ⟨_, rfl, fun r P hr p => ?_⟩) (by simp only [List.length_nil]; omega) (by omega) fun ds r3 hl hR hr3 => ?_
    · have ml := fC.row ok hm
      have e0 : manyL m = .lst (m.map fun n => .int (n : Nat)) := rfl
      rw [e0]
      walk_at "sy"
      refine lc_rel (k := 1) (R := fun n d => ∃ k : Nat, d = .int (k : Nat) ∧ n ≤ k) (fun n hn => ⟨_, rfl, fun r P hr p => ?_⟩) (by simp only [List.length_nil]; omega) (by omega) fun ds r3 hl hR hr3 => ?_
      · walk_at "sy"
        refine q_draw (by decide) (by decide) (by omega) fun v v0 v1 => ?_
        walk_at "sy"
        exact p _ _ ⟨n + v.toNat, by congr 1; omega, by omega⟩ (by omega)
      · obtain ⟨m', e, hl', hq⟩ := rel_list (f := fun k : Nat => D.int (k : Nat)) hl hR
        refine p _ _ ⟨m', by rw [e]; rfl, hl', fun k hk => ?_⟩ (by omega)
        obtain ⟨i, hi⟩ := List.mem_iff_getElem?.mp hk
        have im : i < m.length := by rw [← hl']; exact (List.getElem?_eq_some_iff.mp hi).1
        have h1 := hq i _ k (List.getElem?_eq_getElem im) hi
        have h2 := fC.z m hm _ (List.getElem_mem im)
        omega
    obtain ⟨B, rfl, hBl, hB⟩ := rel_list (f := manyL) hl hR
    have fB : FitS h B := fC.of hBl fun i m m' h1 h2 => hB i m m' h1 h2
    rw [List.nil_append]
    walk_at "sy"
    refine q_rows' (A := A) (B := cntH h) ok fA fC rfl rfl rfl fun X fX => ?_
    walk_at "sy"
    have ex : [rowsD X, D.lst (B.map manyL), D.lst ((cntH h).map manyL)] = [X, B, cntH h].map rowsD := rfl
    rw [ex]
    refine for_inv (fun i δ r' => r3 = r' ∧ ∃ o2 o3 o4 o5 o6 o7 o8 o10 o12 o13 o14 o15 o16 o17 : Option Sl, δ = [some (.scr ns), some .memo, o2, o3, o4, o5, o6, o7, o8, some (.d h.d), o10, some (.d (patD h)), o12, o13, o14, o15, o16, o17]) ⟨rfl, _, _, _, _, _, _, _, _, _, _, _, _, _, _, rfl⟩ ?_ ?_
    · rintro j ms δ _ hj ⟨rfl, o2, o3, o4, o5, o6, o7, o8, o10, o12, o13, o14, o15, o16, o17, rfl⟩ M hM
      have fm : FitS h ms := by
        have := List.mem_of_getElem? hj
        simp only [List.mem_cons, List.mem_nil_iff, or_false] at this
        rcases this with rfl | rfl | rfl
        · exact fX
        · exact fB
        · exact fC
      have e0 : rowsD ms = .lst (ms.map manyL) := rfl
      rw [e0]
      walk_at "sx"
      refine q_mx ok fm (by simp) ?_
      refine ⟨_, cmax_all ok fm, ?_⟩
      walk_at "sx"
      refine ⟨by decide, ?_⟩
      rw [pw30b]
      refine q_ite (fun e => ?_) fun e => ?_
      · have ft := mx_fit fm (of_decide_eq_true e)
        have ok' := sized_ok ok ft
        obtain ⟨sa, sb⟩ := same_sized ok ft
        refine q_sized ok ft ?_
        walk_at "sx"
        refine q_lpattern (fun b hb => (ok'.b b hb).2) ok'.n3 ?_
        rw [opEqD_of (yl_pat _) (yl_pat h) (by decide) (by decide)]
        walk_at "sx"
        refine q_alike ok ok' (q_alike ok' ok ?_)
        rw [sa, sb]
        refine q_like rd_bb ?_
        walk_at "sx"
        exact hM _ _ ⟨rfl, _, _, _, _, _, _, _, _, _, _, _, _, _, _, rfl⟩
      · exact hM _ _ ⟨rfl, _, _, _, _, _, _, _, _, _, _, _, _, _, _, rfl⟩
    · rintro δ _ ⟨rfl, o2, o3, o4, o5, o6, o7, o8, o10, o12, o13, o14, o15, o16, o17, rfl⟩
      walk_at "sx"
      have e12 : D.tup [D.int 1, D.int 2] = manyT [1, 2] := rfl
      rw [e12]
      refine q_lwide (most := 2) (by decide) (by decide) (by decide) (by decide) (by decide) (by omega) fun k r4 ok' hr4 => ?_
      walk_at "sx"
      refine q_frame b4 n3 (q_frame (fun b hb => (ok'.b b hb).2) ok'.n3 ?_)
      rw [show D.lst ((frameX h).map D.lst ++ [D.int h.wards]) = frameD h from rfl, show D.lst ((frameX k).map D.lst ++ [D.int k.wards]) = frameD k from rfl, opEqD_of (yl_frame ok) (yl_frame ok') (by decide) (by decide)]
      walk_at "sx"
      have fin : ∀ c : Bool, c = sameB h k → ∀ o2 o3 o4 o5 o6 o7 o8 o10 o12 o13 o14 o17 : Option Sl, S_go_alike [.d h.d, .d k.d] r4 fun d r1 => S__law_like [.d d, .d (.bl c)] r1 fun d r1 => ∃ b, d = .bl b ∧ bif !b then D.bl false = D.bl true else N [some (.scr ns), some .memo, o2, o3, o4, o5, o6, o7, o8, some (.d h.d), o10, some (.d (patD h)), o12, o13, o14, some (.d k.d), some (.d (.bl c)), o17] r1 := by
        intro c hc _ _ _ _ _ _ _ _ _ _ _ _
        subst hc
        refine q_alike ok ok' (q_like rd_b ?_)
        walk_at "sx"
        exact hN _ _ ⟨by omega, _, _, _, _, _, _, _, _, _, _, _, _, _, _, _, _, rfl⟩
      refine q_ite (fun e => ?_) fun e => ?_
      · refine q_lpattern (fun b hb => (ok'.b b hb).2) ok'.n3 ?_
        rw [opEqD_of (yl_pat _) (yl_pat h) (by decide) (by decide)]
        walk_at "sx"
        exact fin _ (by rw [same_other ok ok', e, Bool.true_and]) _ _ _ _ _ _ _ _ _ _ _ _
      · exact fin _ (by rw [same_other ok ok', e, Bool.false_and]) _ _ _ _ _ _ _ _ _ _ _ _
  · rintro δ r1 ⟨hr1, o2, o3, o4, o5, o6, o7, o8, o9, o10, o11, o12, o13, o14, o15, o16, o17, rfl⟩
    walk_at "sx"
    have e30 : ((10 : Int) ^ Int.toNat 30) - 1 = ((10 ^ 30 - 1 : Nat) : Int) := by decide +kernel
    rw [e30, pw30]
    have d1 : D.tup [D.tup [D.tup [D.tup [D.int 2, D.int 0, D.tup [D.str (Str.ofString "kept")], D.int ((10 ^ 30 : Nat) : Int)], D.tup [D.int 2, D.int 1, D.tup [D.str (Str.ofString "rest"), D.int 0, D.str (Str.ofString "a")], D.int ((10 ^ 30 - 1 : Nat) : Int)]]], D.int 0] = H1.d := rfl
    have d2 : D.tup [D.tup [D.tup [D.tup [D.int 2, D.int 0, D.tup [D.str (Str.ofString "kept")], D.int 2], D.tup [D.int 2, D.int 1, D.tup [D.str (Str.ofString "rest"), D.int 0, D.str (Str.ofString "a")], D.int 1]]], D.int 0] = H2.d := rfl
    have d3 : D.tup [D.tup [D.tup [D.tup [D.int 2, D.int 0, D.tup [D.str (Str.ofString "kept")], D.int 2], D.tup [D.int 2, D.int 1, D.tup [D.str (Str.ofString "rest"), D.int 0, D.str (Str.ofString "b")], D.int 1]]], D.int 0] = H3.d := rfl
    have d4 : D.tup [D.tup [D.tup [D.tup [D.int 2, D.int 0, D.tup [D.str (Str.ofString "kept")], D.int 1]]], D.int 0] = O1.d := rfl
    have d5 : D.tup [D.tup [D.tup [D.tup [D.int 2, D.int 0, D.tup [D.str (Str.ofString "kept")], D.int 1]]], D.int 1] = F1.d := rfl
    have d6 : D.tup [D.tup [D.tup [D.tup [D.int 2, D.int 1, D.tup [D.str (Str.ofString "kept")], D.int 1]]], D.int 0] = F2.d := rfl
    have d7 : D.tup [D.tup [D.tup [D.tup [D.int 4, D.int 0, D.tup [D.str (Str.ofString "kept")], D.int 1]]], D.int 0] = F3.d := rfl
    have d8 : D.tup [D.tup [D.tup [D.tup [D.int 2, D.int 0, D.tup [D.str (Str.ofString "kept")], D.int 7]]], D.int 0] = O7.d := rfl
    rw [d1, d2, d3, d4, d5, d6, d7, d8]
    refine ⟨by decide, by decide, q_pattern okH1 ?_⟩
    have yp : Yl 1 (.tup [D.str (Str.ofString "=abaaabbb")]) := by rw [← pH1]; exact yl_pat H1
    rw [opNeD_of (yl_pat H1) yp (by decide) (by decide), pH1, PySem.SeqAt.eqv_refl _ (lay_pl _ yp.p)]
    walk_at "sx"
    refine q_alike okH1 okH2 ?_
    rw [sH12]
    walk_at "sx"
    refine q_alike okH1 okH3 ?_
    rw [sH13]
    walk_at "sx"
    refine lc_map (l := [F1, F2, F3]) (φ := WHouse.d) (f := fun k => .bl false) (fun k hk => ⟨_, rfl, fun r P p => ?_⟩) (by decide) ?_
    · walk_at "sx"
      simp only [List.mem_cons, List.mem_nil_iff, or_false] at hk
      rcases hk with rfl | rfl | rfl
      · exact q_alike okO1 okF1 (by rw [sO1]; exact p)
      · exact q_alike okO1 okF2 (by rw [sO2]; exact p)
      · exact q_alike okO1 okF3 (by rw [sO3]; exact p)
    refine lc_map (l := [F1, F2, F3]) (φ := WHouse.d) (f := fun k => .bl false) (fun k hk => ⟨_, rfl, fun r P p => ?_⟩) (by decide) ?_
    · walk_at "sx"
      simp only [List.mem_cons, List.mem_nil_iff, or_false] at hk
      rcases hk with rfl | rfl | rfl
      · exact q_alike okF1 okO1 (by rw [s1O]; exact p)
      · exact q_alike okF2 okO1 (by rw [s2O]; exact p)
      · exact q_alike okF3 okO1 (by rw [s3O]; exact p)
    walk_at "sx"
    have yb : Yl 1 (.lst [D.bl false, D.bl false, D.bl false, D.bl false, D.bl false, D.bl false]) := yl_lst (k := 0) fun d hd => by
      simp only [List.mem_cons, List.mem_nil_iff, or_false, or_self] at hd
      rw [hd]
      exact yl_bl
    rw [show D.lst (List.replicate (Int.toNat 6) [D.bl false]).flatten = .lst [D.bl false, D.bl false, D.bl false, D.bl false, D.bl false, D.bl false] from rfl, opEqD_of yb yb (by decide) (by decide), PySem.SeqAt.eqv_refl _ (lay_pl _ yb.p)]
    walk_at "sx"
    exact q_alike okO1 okO7 (by rw [sO7])
end TSx

namespace TSx
open PySem L2
/-! ### the end: what the top has written -/
theorem all_mk {l : PySem.W.OpenLaw} {w : World} {K : PySem.W.Frag} {h : Heap} {mg : Str → Option Value} {fa p_TIES f__law_mixed f__law_folded f__law_draw f__law_begun f__all_lots f__side_of f__body_pattern f__sizes f__pattern f_is_tuple f_is_whole f_is_word f_is_way f_is_seat f__is_group f__need_groups f_common_term f_need_wide f_pattern f__without_many f_go_alike f__law_like f__law_of f__law_way f__law_seat f__law_wide f__law_counts f__law_sized f__law_lots f__law_side f__law_signs f__law_pattern f__law_frame f_law : Addr} (X : K.In h) (G : h.Ns mainGlobals mg) (hfa : mg "law" = some (.ref fa))
    {t_MOST_BODIES : Tok}
    {t_MOST_GROUPS : Tok}
    {t_MOST_MANY : Tok}
    {t_MOST_ROUND : Tok}
    {t_MOST_TERM : Tok}
    {t_MOST_WARDS : Tok}
    {t0_TIES t1_TIES t2_TIES : Tok} {n_TIES : Nat} {od_TIES : Option Addr} {sl_TIES : Array (Option Value)}
    {od__law_mixed an__law_mixed : Option Addr} {sl__law_mixed : Array (Option Value)} {oc__law_mixed kV__law_mixed dc__law_mixed pm__law_mixed cd__law_mixed ct__law_mixed : Value}
    {od__law_folded an__law_folded : Option Addr} {sl__law_folded : Array (Option Value)} {oc__law_folded kV__law_folded dc__law_folded pm__law_folded cd__law_folded ct__law_folded : Value}
    {od__law_draw an__law_draw : Option Addr} {sl__law_draw : Array (Option Value)} {oc__law_draw kV__law_draw dc__law_draw pm__law_draw cd__law_draw ct__law_draw : Value}
    {od__law_begun an__law_begun : Option Addr} {sl__law_begun : Array (Option Value)} {oc__law_begun kV__law_begun dc__law_begun pm__law_begun cd__law_begun ct__law_begun : Value}
    {od__all_lots an__all_lots : Option Addr} {sl__all_lots : Array (Option Value)} {oc__all_lots kV__all_lots dc__all_lots pm__all_lots cd__all_lots ct__all_lots : Value}
    {od__side_of an__side_of : Option Addr} {sl__side_of : Array (Option Value)} {oc__side_of kV__side_of dc__side_of pm__side_of cd__side_of ct__side_of : Value}
    {od__body_pattern an__body_pattern : Option Addr} {sl__body_pattern : Array (Option Value)} {oc__body_pattern kV__body_pattern dc__body_pattern pm__body_pattern cd__body_pattern ct__body_pattern : Value}
    {od__sizes an__sizes : Option Addr} {sl__sizes : Array (Option Value)} {oc__sizes kV__sizes dc__sizes pm__sizes cd__sizes ct__sizes : Value}
    {od__pattern an__pattern : Option Addr} {sl__pattern : Array (Option Value)} {oc__pattern kV__pattern dc__pattern pm__pattern cd__pattern ct__pattern : Value}
    {od_is_tuple an_is_tuple : Option Addr} {sl_is_tuple : Array (Option Value)} {oc_is_tuple kV_is_tuple dc_is_tuple pm_is_tuple cd_is_tuple ct_is_tuple : Value}
    {od_is_whole an_is_whole : Option Addr} {sl_is_whole : Array (Option Value)} {oc_is_whole kV_is_whole dc_is_whole pm_is_whole cd_is_whole ct_is_whole : Value}
    {od_is_word an_is_word : Option Addr} {sl_is_word : Array (Option Value)} {oc_is_word kV_is_word dc_is_word pm_is_word cd_is_word ct_is_word : Value}
    {od_is_way an_is_way : Option Addr} {sl_is_way : Array (Option Value)} {oc_is_way kV_is_way dc_is_way pm_is_way cd_is_way ct_is_way : Value}
    {od_is_seat an_is_seat : Option Addr} {sl_is_seat : Array (Option Value)} {oc_is_seat kV_is_seat dc_is_seat pm_is_seat cd_is_seat ct_is_seat : Value}
    {od__is_group an__is_group : Option Addr} {sl__is_group : Array (Option Value)} {oc__is_group kV__is_group dc__is_group pm__is_group cd__is_group ct__is_group : Value}
    {od__need_groups an__need_groups : Option Addr} {sl__need_groups : Array (Option Value)} {oc__need_groups kV__need_groups dc__need_groups pm__need_groups cd__need_groups ct__need_groups : Value}
    {od_common_term an_common_term : Option Addr} {sl_common_term : Array (Option Value)} {oc_common_term kV_common_term dc_common_term pm_common_term cd_common_term ct_common_term : Value}
    {od_need_wide an_need_wide : Option Addr} {sl_need_wide : Array (Option Value)} {oc_need_wide kV_need_wide dc_need_wide pm_need_wide cd_need_wide ct_need_wide : Value}
    {od_pattern an_pattern : Option Addr} {sl_pattern : Array (Option Value)} {oc_pattern kV_pattern dc_pattern pm_pattern cd_pattern ct_pattern : Value}
    {od__without_many an__without_many : Option Addr} {sl__without_many : Array (Option Value)} {oc__without_many kV__without_many dc__without_many pm__without_many cd__without_many ct__without_many : Value}
    {od_go_alike an_go_alike : Option Addr} {sl_go_alike : Array (Option Value)} {oc_go_alike kV_go_alike dc_go_alike pm_go_alike cd_go_alike ct_go_alike : Value}
    {od__law_like an__law_like : Option Addr} {sl__law_like : Array (Option Value)} {oc__law_like kV__law_like dc__law_like pm__law_like cd__law_like ct__law_like : Value}
    {od__law_of an__law_of : Option Addr} {sl__law_of : Array (Option Value)} {oc__law_of kV__law_of dc__law_of pm__law_of cd__law_of ct__law_of : Value}
    {od__law_way an__law_way : Option Addr} {sl__law_way : Array (Option Value)} {oc__law_way kV__law_way dc__law_way pm__law_way cd__law_way ct__law_way : Value}
    {od__law_seat an__law_seat : Option Addr} {sl__law_seat : Array (Option Value)} {oc__law_seat kV__law_seat dc__law_seat pm__law_seat cd__law_seat ct__law_seat : Value}
    {od__law_wide an__law_wide : Option Addr} {sl__law_wide : Array (Option Value)} {oc__law_wide kV__law_wide dc__law_wide pm__law_wide cd__law_wide ct__law_wide : Value}
    {od__law_counts an__law_counts : Option Addr} {sl__law_counts : Array (Option Value)} {oc__law_counts kV__law_counts dc__law_counts pm__law_counts cd__law_counts ct__law_counts : Value}
    {od__law_sized an__law_sized : Option Addr} {sl__law_sized : Array (Option Value)} {oc__law_sized kV__law_sized dc__law_sized pm__law_sized cd__law_sized ct__law_sized : Value}
    {od__law_lots an__law_lots : Option Addr} {sl__law_lots : Array (Option Value)} {oc__law_lots kV__law_lots dc__law_lots pm__law_lots cd__law_lots ct__law_lots : Value}
    {od__law_side an__law_side : Option Addr} {sl__law_side : Array (Option Value)} {oc__law_side kV__law_side dc__law_side pm__law_side cd__law_side ct__law_side : Value}
    {od__law_signs an__law_signs : Option Addr} {sl__law_signs : Array (Option Value)} {oc__law_signs kV__law_signs dc__law_signs pm__law_signs cd__law_signs ct__law_signs : Value}
    {od__law_pattern an__law_pattern : Option Addr} {sl__law_pattern : Array (Option Value)} {oc__law_pattern kV__law_pattern dc__law_pattern pm__law_pattern cd__law_pattern ct__law_pattern : Value}
    {od__law_frame an__law_frame : Option Addr} {sl__law_frame : Array (Option Value)} {oc__law_frame kV__law_frame dc__law_frame pm__law_frame cd__law_frame ct__law_frame : Value}
    {od_law an_law : Option Addr} {sl_law : Array (Option Value)} {oc_law kV_law dc_law pm_law cd_law ct_law : Value}
    (a_MOST_BODIES : PySem.W.nsIn K mainGlobals "MOST_BODIES" = some (some (.int 3 t_MOST_BODIES)))
    (a_MOST_GROUPS : PySem.W.nsIn K mainGlobals "MOST_GROUPS" = some (some (.int 4 t_MOST_GROUPS)))
    (a_MOST_MANY : PySem.W.nsIn K mainGlobals "MOST_MANY" = some (some (.int 1000000000000000000000000000000 t_MOST_MANY)))
    (a_MOST_ROUND : PySem.W.nsIn K mainGlobals "MOST_ROUND" = some (some (.int 12 t_MOST_ROUND)))
    (a_MOST_TERM : PySem.W.nsIn K mainGlobals "MOST_TERM" = some (some (.int 6 t_MOST_TERM)))
    (a_MOST_WARDS : PySem.W.nsIn K mainGlobals "MOST_WARDS" = some (some (.int 4 t_MOST_WARDS)))
    (a_TIES : PySem.W.nsIn K mainGlobals "TIES" = some (some (.ref p_TIES)))
    (x_TIES : K.lookup p_TIES = some ⟨.type "tuple", od_TIES, .seq #[.str "a" t0_TIES, .str "b" t1_TIES, .str "kept" t2_TIES] n_TIES, sl_TIES⟩)
    (a_lcm : PySem.W.nsIn K mainGlobals "lcm" = some (some (.builtin "math.lcm")))
    (a__law_mixed : PySem.W.nsIn K mainGlobals "_law_mixed" = some (some (.ref f__law_mixed)))
    (l__law_mixed : K.lookup f__law_mixed = some ⟨oc__law_mixed, od__law_mixed, .func (PySem.W.fnOf "_law_mixed" "_law_mixed" (defArgs sMixed) (defBody sMixed) (defScope sMixed) .none kV__law_mixed dc__law_mixed pm__law_mixed an__law_mixed cd__law_mixed ct__law_mixed), sl__law_mixed⟩)
    (cd_of__law_mixed : PySem.W.codeIn K cd__law_mixed "_law_mixed" = true)
    (k__law_mixed : PySem.W.keepIn K (.ref f__law_mixed) = true)
    (a__law_folded : PySem.W.nsIn K mainGlobals "_law_folded" = some (some (.ref f__law_folded)))
    (l__law_folded : K.lookup f__law_folded = some ⟨oc__law_folded, od__law_folded, .func (PySem.W.fnOf "_law_folded" "_law_folded" (defArgs sFolded) (defBody sFolded) (defScope sFolded) .none kV__law_folded dc__law_folded pm__law_folded an__law_folded cd__law_folded ct__law_folded), sl__law_folded⟩)
    (cd_of__law_folded : PySem.W.codeIn K cd__law_folded "_law_folded" = true)
    (k__law_folded : PySem.W.keepIn K (.ref f__law_folded) = true)
    (a__law_draw : PySem.W.nsIn K mainGlobals "_law_draw" = some (some (.ref f__law_draw)))
    (l__law_draw : K.lookup f__law_draw = some ⟨oc__law_draw, od__law_draw, .func (PySem.W.fnOf "_law_draw" "_law_draw" (defArgs sDraw) (defBody sDraw) (defScope sDraw) .none kV__law_draw dc__law_draw pm__law_draw an__law_draw cd__law_draw ct__law_draw), sl__law_draw⟩)
    (cd_of__law_draw : PySem.W.codeIn K cd__law_draw "_law_draw" = true)
    (k__law_draw : PySem.W.keepIn K (.ref f__law_draw) = true)
    (a__law_begun : PySem.W.nsIn K mainGlobals "_law_begun" = some (some (.ref f__law_begun)))
    (l__law_begun : K.lookup f__law_begun = some ⟨oc__law_begun, od__law_begun, .func (PySem.W.fnOf "_law_begun" "_law_begun" (defArgs sBegun) (defBody sBegun) (defScope sBegun) .none kV__law_begun dc__law_begun pm__law_begun an__law_begun cd__law_begun ct__law_begun), sl__law_begun⟩)
    (cd_of__law_begun : PySem.W.codeIn K cd__law_begun "_law_begun" = true)
    (k__law_begun : PySem.W.keepIn K (.ref f__law_begun) = true)
    (a__all_lots : PySem.W.nsIn K mainGlobals "_all_lots" = some (some (.ref f__all_lots)))
    (l__all_lots : K.lookup f__all_lots = some ⟨oc__all_lots, od__all_lots, .func (PySem.W.fnOf "_all_lots" "_all_lots" (defArgs s__all_lots) (defBody s__all_lots) (defScope s__all_lots) .none kV__all_lots dc__all_lots pm__all_lots an__all_lots cd__all_lots ct__all_lots), sl__all_lots⟩)
    (cd_of__all_lots : PySem.W.codeIn K cd__all_lots "_all_lots" = true)
    (k__all_lots : PySem.W.keepIn K (.ref f__all_lots) = true)
    (a__side_of : PySem.W.nsIn K mainGlobals "_side_of" = some (some (.ref f__side_of)))
    (l__side_of : K.lookup f__side_of = some ⟨oc__side_of, od__side_of, .func (PySem.W.fnOf "_side_of" "_side_of" (defArgs s__side_of) (defBody s__side_of) (defScope s__side_of) .none kV__side_of dc__side_of pm__side_of an__side_of cd__side_of ct__side_of), sl__side_of⟩)
    (cd_of__side_of : PySem.W.codeIn K cd__side_of "_side_of" = true)
    (k__side_of : PySem.W.keepIn K (.ref f__side_of) = true)
    (a__body_pattern : PySem.W.nsIn K mainGlobals "_body_pattern" = some (some (.ref f__body_pattern)))
    (l__body_pattern : K.lookup f__body_pattern = some ⟨oc__body_pattern, od__body_pattern, .func (PySem.W.fnOf "_body_pattern" "_body_pattern" (defArgs s__body_pattern) (defBody s__body_pattern) (defScope s__body_pattern) .none kV__body_pattern dc__body_pattern pm__body_pattern an__body_pattern cd__body_pattern ct__body_pattern), sl__body_pattern⟩)
    (cd_of__body_pattern : PySem.W.codeIn K cd__body_pattern "_body_pattern" = true)
    (k__body_pattern : PySem.W.keepIn K (.ref f__body_pattern) = true)
    (a__sizes : PySem.W.nsIn K mainGlobals "_sizes" = some (some (.ref f__sizes)))
    (l__sizes : K.lookup f__sizes = some ⟨oc__sizes, od__sizes, .func (PySem.W.fnOf "_sizes" "_sizes" (defArgs s__sizes) (defBody s__sizes) (defScope s__sizes) .none kV__sizes dc__sizes pm__sizes an__sizes cd__sizes ct__sizes), sl__sizes⟩)
    (cd_of__sizes : PySem.W.codeIn K cd__sizes "_sizes" = true)
    (k__sizes : PySem.W.keepIn K (.ref f__sizes) = true)
    (a__pattern : PySem.W.nsIn K mainGlobals "_pattern" = some (some (.ref f__pattern)))
    (l__pattern : K.lookup f__pattern = some ⟨oc__pattern, od__pattern, .func (PySem.W.fnOf "_pattern" "_pattern" (defArgs s__pattern) (defBody s__pattern) (defScope s__pattern) .none kV__pattern dc__pattern pm__pattern an__pattern cd__pattern ct__pattern), sl__pattern⟩)
    (cd_of__pattern : PySem.W.codeIn K cd__pattern "_pattern" = true)
    (k__pattern : PySem.W.keepIn K (.ref f__pattern) = true)
    (a_is_tuple : PySem.W.nsIn K mainGlobals "is_tuple" = some (some (.ref f_is_tuple)))
    (l_is_tuple : K.lookup f_is_tuple = some ⟨oc_is_tuple, od_is_tuple, .func (PySem.W.fnOf "is_tuple" "is_tuple" (defArgs s_is_tuple) (defBody s_is_tuple) (defScope s_is_tuple) .none kV_is_tuple dc_is_tuple pm_is_tuple an_is_tuple cd_is_tuple ct_is_tuple), sl_is_tuple⟩)
    (cd_of_is_tuple : PySem.W.codeIn K cd_is_tuple "is_tuple" = true)
    (k_is_tuple : PySem.W.keepIn K (.ref f_is_tuple) = true)
    (a_is_whole : PySem.W.nsIn K mainGlobals "is_whole" = some (some (.ref f_is_whole)))
    (l_is_whole : K.lookup f_is_whole = some ⟨oc_is_whole, od_is_whole, .func (PySem.W.fnOf "is_whole" "is_whole" (defArgs s_is_whole) (defBody s_is_whole) (defScope s_is_whole) .none kV_is_whole dc_is_whole pm_is_whole an_is_whole cd_is_whole ct_is_whole), sl_is_whole⟩)
    (cd_of_is_whole : PySem.W.codeIn K cd_is_whole "is_whole" = true)
    (k_is_whole : PySem.W.keepIn K (.ref f_is_whole) = true)
    (a_is_word : PySem.W.nsIn K mainGlobals "is_word" = some (some (.ref f_is_word)))
    (l_is_word : K.lookup f_is_word = some ⟨oc_is_word, od_is_word, .func (PySem.W.fnOf "is_word" "is_word" (defArgs s_is_word) (defBody s_is_word) (defScope s_is_word) .none kV_is_word dc_is_word pm_is_word an_is_word cd_is_word ct_is_word), sl_is_word⟩)
    (cd_of_is_word : PySem.W.codeIn K cd_is_word "is_word" = true)
    (k_is_word : PySem.W.keepIn K (.ref f_is_word) = true)
    (a_is_way : PySem.W.nsIn K mainGlobals "is_way" = some (some (.ref f_is_way)))
    (l_is_way : K.lookup f_is_way = some ⟨oc_is_way, od_is_way, .func (PySem.W.fnOf "is_way" "is_way" (defArgs s_is_way) (defBody s_is_way) (defScope s_is_way) .none kV_is_way dc_is_way pm_is_way an_is_way cd_is_way ct_is_way), sl_is_way⟩)
    (cd_of_is_way : PySem.W.codeIn K cd_is_way "is_way" = true)
    (k_is_way : PySem.W.keepIn K (.ref f_is_way) = true)
    (a_is_seat : PySem.W.nsIn K mainGlobals "is_seat" = some (some (.ref f_is_seat)))
    (l_is_seat : K.lookup f_is_seat = some ⟨oc_is_seat, od_is_seat, .func (PySem.W.fnOf "is_seat" "is_seat" (defArgs s_is_seat) (defBody s_is_seat) (defScope s_is_seat) .none kV_is_seat dc_is_seat pm_is_seat an_is_seat cd_is_seat ct_is_seat), sl_is_seat⟩)
    (cd_of_is_seat : PySem.W.codeIn K cd_is_seat "is_seat" = true)
    (k_is_seat : PySem.W.keepIn K (.ref f_is_seat) = true)
    (a__is_group : PySem.W.nsIn K mainGlobals "_is_group" = some (some (.ref f__is_group)))
    (l__is_group : K.lookup f__is_group = some ⟨oc__is_group, od__is_group, .func (PySem.W.fnOf "_is_group" "_is_group" (defArgs s__is_group) (defBody s__is_group) (defScope s__is_group) .none kV__is_group dc__is_group pm__is_group an__is_group cd__is_group ct__is_group), sl__is_group⟩)
    (cd_of__is_group : PySem.W.codeIn K cd__is_group "_is_group" = true)
    (k__is_group : PySem.W.keepIn K (.ref f__is_group) = true)
    (a__need_groups : PySem.W.nsIn K mainGlobals "_need_groups" = some (some (.ref f__need_groups)))
    (l__need_groups : K.lookup f__need_groups = some ⟨oc__need_groups, od__need_groups, .func (PySem.W.fnOf "_need_groups" "_need_groups" (defArgs s__need_groups) (defBody s__need_groups) (defScope s__need_groups) .none kV__need_groups dc__need_groups pm__need_groups an__need_groups cd__need_groups ct__need_groups), sl__need_groups⟩)
    (cd_of__need_groups : PySem.W.codeIn K cd__need_groups "_need_groups" = true)
    (k__need_groups : PySem.W.keepIn K (.ref f__need_groups) = true)
    (a_common_term : PySem.W.nsIn K mainGlobals "common_term" = some (some (.ref f_common_term)))
    (l_common_term : K.lookup f_common_term = some ⟨oc_common_term, od_common_term, .func (PySem.W.fnOf "common_term" "common_term" (defArgs s_common_term) (defBody s_common_term) (defScope s_common_term) .none kV_common_term dc_common_term pm_common_term an_common_term cd_common_term ct_common_term), sl_common_term⟩)
    (cd_of_common_term : PySem.W.codeIn K cd_common_term "common_term" = true)
    (k_common_term : PySem.W.keepIn K (.ref f_common_term) = true)
    (a_need_wide : PySem.W.nsIn K mainGlobals "need_wide" = some (some (.ref f_need_wide)))
    (l_need_wide : K.lookup f_need_wide = some ⟨oc_need_wide, od_need_wide, .func (PySem.W.fnOf "need_wide" "need_wide" (defArgs s_need_wide) (defBody s_need_wide) (defScope s_need_wide) .none kV_need_wide dc_need_wide pm_need_wide an_need_wide cd_need_wide ct_need_wide), sl_need_wide⟩)
    (cd_of_need_wide : PySem.W.codeIn K cd_need_wide "need_wide" = true)
    (k_need_wide : PySem.W.keepIn K (.ref f_need_wide) = true)
    (a_pattern : PySem.W.nsIn K mainGlobals "pattern" = some (some (.ref f_pattern)))
    (l_pattern : K.lookup f_pattern = some ⟨oc_pattern, od_pattern, .func (PySem.W.fnOf "pattern" "pattern" (defArgs s_pattern) (defBody s_pattern) (defScope s_pattern) .none kV_pattern dc_pattern pm_pattern an_pattern cd_pattern ct_pattern), sl_pattern⟩)
    (cd_of_pattern : PySem.W.codeIn K cd_pattern "pattern" = true)
    (k_pattern : PySem.W.keepIn K (.ref f_pattern) = true)
    (a__without_many : PySem.W.nsIn K mainGlobals "_without_many" = some (some (.ref f__without_many)))
    (l__without_many : K.lookup f__without_many = some ⟨oc__without_many, od__without_many, .func (PySem.W.fnOf "_without_many" "_without_many" (defArgs s__without_many) (defBody s__without_many) (defScope s__without_many) .none kV__without_many dc__without_many pm__without_many an__without_many cd__without_many ct__without_many), sl__without_many⟩)
    (cd_of__without_many : PySem.W.codeIn K cd__without_many "_without_many" = true)
    (k__without_many : PySem.W.keepIn K (.ref f__without_many) = true)
    (a_go_alike : PySem.W.nsIn K mainGlobals "go_alike" = some (some (.ref f_go_alike)))
    (l_go_alike : K.lookup f_go_alike = some ⟨oc_go_alike, od_go_alike, .func (PySem.W.fnOf "go_alike" "go_alike" (defArgs s_go_alike) (defBody s_go_alike) (defScope s_go_alike) .none kV_go_alike dc_go_alike pm_go_alike an_go_alike cd_go_alike ct_go_alike), sl_go_alike⟩)
    (cd_of_go_alike : PySem.W.codeIn K cd_go_alike "go_alike" = true)
    (k_go_alike : PySem.W.keepIn K (.ref f_go_alike) = true)
    (a__law_like : PySem.W.nsIn K mainGlobals "_law_like" = some (some (.ref f__law_like)))
    (l__law_like : K.lookup f__law_like = some ⟨oc__law_like, od__law_like, .func (PySem.W.fnOf "_law_like" "_law_like" (defArgs s__law_like) (defBody s__law_like) (defScope s__law_like) .none kV__law_like dc__law_like pm__law_like an__law_like cd__law_like ct__law_like), sl__law_like⟩)
    (cd_of__law_like : PySem.W.codeIn K cd__law_like "_law_like" = true)
    (k__law_like : PySem.W.keepIn K (.ref f__law_like) = true)
    (a__law_of : PySem.W.nsIn K mainGlobals "_law_of" = some (some (.ref f__law_of)))
    (l__law_of : K.lookup f__law_of = some ⟨oc__law_of, od__law_of, .func (PySem.W.fnOf "_law_of" "_law_of" (defArgs s__law_of) (defBody s__law_of) (defScope s__law_of) .none kV__law_of dc__law_of pm__law_of an__law_of cd__law_of ct__law_of), sl__law_of⟩)
    (cd_of__law_of : PySem.W.codeIn K cd__law_of "_law_of" = true)
    (k__law_of : PySem.W.keepIn K (.ref f__law_of) = true)
    (a__law_way : PySem.W.nsIn K mainGlobals "_law_way" = some (some (.ref f__law_way)))
    (l__law_way : K.lookup f__law_way = some ⟨oc__law_way, od__law_way, .func (PySem.W.fnOf "_law_way" "_law_way" (defArgs s__law_way) (defBody s__law_way) (defScope s__law_way) .none kV__law_way dc__law_way pm__law_way an__law_way cd__law_way ct__law_way), sl__law_way⟩)
    (cd_of__law_way : PySem.W.codeIn K cd__law_way "_law_way" = true)
    (k__law_way : PySem.W.keepIn K (.ref f__law_way) = true)
    (a__law_seat : PySem.W.nsIn K mainGlobals "_law_seat" = some (some (.ref f__law_seat)))
    (l__law_seat : K.lookup f__law_seat = some ⟨oc__law_seat, od__law_seat, .func (PySem.W.fnOf "_law_seat" "_law_seat" (defArgs s__law_seat) (defBody s__law_seat) (defScope s__law_seat) .none kV__law_seat dc__law_seat pm__law_seat an__law_seat cd__law_seat ct__law_seat), sl__law_seat⟩)
    (cd_of__law_seat : PySem.W.codeIn K cd__law_seat "_law_seat" = true)
    (k__law_seat : PySem.W.keepIn K (.ref f__law_seat) = true)
    (a__law_wide : PySem.W.nsIn K mainGlobals "_law_wide" = some (some (.ref f__law_wide)))
    (l__law_wide : K.lookup f__law_wide = some ⟨oc__law_wide, od__law_wide, .func (PySem.W.fnOf "_law_wide" "_law_wide" (defArgs s__law_wide) (defBody s__law_wide) (defScope s__law_wide) .none kV__law_wide dc__law_wide pm__law_wide an__law_wide cd__law_wide ct__law_wide), sl__law_wide⟩)
    (cd_of__law_wide : PySem.W.codeIn K cd__law_wide "_law_wide" = true)
    (k__law_wide : PySem.W.keepIn K (.ref f__law_wide) = true)
    (a__law_counts : PySem.W.nsIn K mainGlobals "_law_counts" = some (some (.ref f__law_counts)))
    (l__law_counts : K.lookup f__law_counts = some ⟨oc__law_counts, od__law_counts, .func (PySem.W.fnOf "_law_counts" "_law_counts" (defArgs s__law_counts) (defBody s__law_counts) (defScope s__law_counts) .none kV__law_counts dc__law_counts pm__law_counts an__law_counts cd__law_counts ct__law_counts), sl__law_counts⟩)
    (cd_of__law_counts : PySem.W.codeIn K cd__law_counts "_law_counts" = true)
    (k__law_counts : PySem.W.keepIn K (.ref f__law_counts) = true)
    (a__law_sized : PySem.W.nsIn K mainGlobals "_law_sized" = some (some (.ref f__law_sized)))
    (l__law_sized : K.lookup f__law_sized = some ⟨oc__law_sized, od__law_sized, .func (PySem.W.fnOf "_law_sized" "_law_sized" (defArgs s__law_sized) (defBody s__law_sized) (defScope s__law_sized) .none kV__law_sized dc__law_sized pm__law_sized an__law_sized cd__law_sized ct__law_sized), sl__law_sized⟩)
    (cd_of__law_sized : PySem.W.codeIn K cd__law_sized "_law_sized" = true)
    (k__law_sized : PySem.W.keepIn K (.ref f__law_sized) = true)
    (a__law_lots : PySem.W.nsIn K mainGlobals "_law_lots" = some (some (.ref f__law_lots)))
    (l__law_lots : K.lookup f__law_lots = some ⟨oc__law_lots, od__law_lots, .func (PySem.W.fnOf "_law_lots" "_law_lots" (defArgs s__law_lots) (defBody s__law_lots) (defScope s__law_lots) .none kV__law_lots dc__law_lots pm__law_lots an__law_lots cd__law_lots ct__law_lots), sl__law_lots⟩)
    (cd_of__law_lots : PySem.W.codeIn K cd__law_lots "_law_lots" = true)
    (k__law_lots : PySem.W.keepIn K (.ref f__law_lots) = true)
    (a__law_side : PySem.W.nsIn K mainGlobals "_law_side" = some (some (.ref f__law_side)))
    (l__law_side : K.lookup f__law_side = some ⟨oc__law_side, od__law_side, .func (PySem.W.fnOf "_law_side" "_law_side" (defArgs s__law_side) (defBody s__law_side) (defScope s__law_side) .none kV__law_side dc__law_side pm__law_side an__law_side cd__law_side ct__law_side), sl__law_side⟩)
    (cd_of__law_side : PySem.W.codeIn K cd__law_side "_law_side" = true)
    (k__law_side : PySem.W.keepIn K (.ref f__law_side) = true)
    (a__law_signs : PySem.W.nsIn K mainGlobals "_law_signs" = some (some (.ref f__law_signs)))
    (l__law_signs : K.lookup f__law_signs = some ⟨oc__law_signs, od__law_signs, .func (PySem.W.fnOf "_law_signs" "_law_signs" (defArgs s__law_signs) (defBody s__law_signs) (defScope s__law_signs) .none kV__law_signs dc__law_signs pm__law_signs an__law_signs cd__law_signs ct__law_signs), sl__law_signs⟩)
    (cd_of__law_signs : PySem.W.codeIn K cd__law_signs "_law_signs" = true)
    (k__law_signs : PySem.W.keepIn K (.ref f__law_signs) = true)
    (a__law_pattern : PySem.W.nsIn K mainGlobals "_law_pattern" = some (some (.ref f__law_pattern)))
    (l__law_pattern : K.lookup f__law_pattern = some ⟨oc__law_pattern, od__law_pattern, .func (PySem.W.fnOf "_law_pattern" "_law_pattern" (defArgs s__law_pattern) (defBody s__law_pattern) (defScope s__law_pattern) .none kV__law_pattern dc__law_pattern pm__law_pattern an__law_pattern cd__law_pattern ct__law_pattern), sl__law_pattern⟩)
    (cd_of__law_pattern : PySem.W.codeIn K cd__law_pattern "_law_pattern" = true)
    (k__law_pattern : PySem.W.keepIn K (.ref f__law_pattern) = true)
    (a__law_frame : PySem.W.nsIn K mainGlobals "_law_frame" = some (some (.ref f__law_frame)))
    (l__law_frame : K.lookup f__law_frame = some ⟨oc__law_frame, od__law_frame, .func (PySem.W.fnOf "_law_frame" "_law_frame" (defArgs s__law_frame) (defBody s__law_frame) (defScope s__law_frame) .none kV__law_frame dc__law_frame pm__law_frame an__law_frame cd__law_frame ct__law_frame), sl__law_frame⟩)
    (cd_of__law_frame : PySem.W.codeIn K cd__law_frame "_law_frame" = true)
    (k__law_frame : PySem.W.keepIn K (.ref f__law_frame) = true)
    (a_law : PySem.W.nsIn K mainGlobals "law" = some (some (.ref f_law)))
    (l_law : K.lookup f_law = some ⟨oc_law, od_law, .func (PySem.W.fnOf "law" "law" (defArgs s_law) (defBody s_law) (defScope s_law) .none kV_law dc_law pm_law an_law cd_law ct_law), sl_law⟩)
    (cd_of_law : PySem.W.codeIn K cd_law "law" = true)
    (k_law : PySem.W.keepIn K (.ref f_law) = true)
    (z_int : PySem.W.nsIn K mainGlobals "int" = some none)
    (z_len : PySem.W.nsIn K mainGlobals "len" = some none)
    (z_range : PySem.W.nsIn K mainGlobals "range" = some none)
    (z_enumerate : PySem.W.nsIn K mainGlobals "enumerate" = some none)
    (z_repr : PySem.W.nsIn K mainGlobals "repr" = some none)
    (z_isinstance : PySem.W.nsIn K mainGlobals "isinstance" = some none)
    (z_list : PySem.W.nsIn K mainGlobals "list" = some none)
    (z_bool : PySem.W.nsIn K mainGlobals "bool" = some none)
    (z_str : PySem.W.nsIn K mainGlobals "str" = some none)
    (z_tuple : PySem.W.nsIn K mainGlobals "tuple" = some none)
    (z_zip : PySem.W.nsIn K mainGlobals "zip" = some none)
    (z_sum : PySem.W.nsIn K mainGlobals "sum" = some none)
    (z_all : PySem.W.nsIn K mainGlobals "all" = some none)
    (z_max : PySem.W.nsIn K mainGlobals "max" = some none)
    (z_min : PySem.W.nsIn K mainGlobals "min" = some none)
    (z_any : PySem.W.nsIn K mainGlobals "any" = some none)
    (z_sorted : PySem.W.nsIn K mainGlobals "sorted" = some none)
    : ∃ fd : FuncData, (∀ (s : Shared) (v : Value), BindsTo s fd ⟨[v], []⟩ [("script", v)]) ∧ ∀ base : Heap, K.In base → base.Ns mainGlobals mg → FnG l.prog w K mg base CX0 8 fa fd ["script"] (spLaw K) := by
  have e := hfa.symm.trans (PySem.W.mg_of X G a_law)
  cases e
  have B : Blt mg := ⟨PySem.W.mg_none_of X G z_int, PySem.W.mg_none_of X G z_len, PySem.W.mg_none_of X G z_range, PySem.W.mg_none_of X G z_enumerate, PySem.W.mg_none_of X G z_repr, PySem.W.mg_none_of X G z_isinstance, PySem.W.mg_none_of X G z_list⟩
  have Z : Blt2 mg := ⟨PySem.W.mg_none_of X G z_int, PySem.W.mg_none_of X G z_bool, PySem.W.mg_none_of X G z_str, PySem.W.mg_none_of X G z_tuple, PySem.W.mg_none_of X G z_list, PySem.W.mg_none_of X G z_zip, PySem.W.mg_none_of X G z_sum, PySem.W.mg_none_of X G z_all⟩
  have Y : Blt3 mg := ⟨PySem.W.mg_none_of X G z_max, PySem.W.mg_none_of X G z_min, PySem.W.mg_none_of X G z_any, PySem.W.mg_none_of X G z_sorted⟩
  have i_TIES : Dt K (fun _ => none) (.ref p_TIES) cTIES := .tup (xs := [.str "a", .str "b", .str "kept"]) (Or.inr ⟨_, _, _, x_TIES, rfl, rfl, sz1 (show 3 ≤ 100000 by decide), .cons ⟨_, rfl⟩ (.cons ⟨_, rfl⟩ (.cons ⟨_, rfl⟩ (.nil)))⟩) (.cons (.str _) (.cons (.str _) (.cons (.str _) (.nil))))
  have C : Cst K mg (fun s => p_TIES) := ⟨⟨_, PySem.W.mg_of X G a_MOST_BODIES⟩, ⟨_, PySem.W.mg_of X G a_MOST_GROUPS⟩, ⟨_, PySem.W.mg_of X G a_MOST_MANY⟩, ⟨_, PySem.W.mg_of X G a_MOST_ROUND⟩, ⟨_, PySem.W.mg_of X G a_MOST_TERM⟩, ⟨_, PySem.W.mg_of X G a_MOST_WARDS⟩, PySem.W.mg_of X G a_TIES, i_TIES⟩
  have XX : Ctx K mg (fun s => p_TIES) := ⟨B, Z, Y, C, PySem.W.mg_of X G a_lcm, PySem.W.mg_none_of X G z_min⟩
  have F__law_mixed := fun_mk (st := sMixed) l__law_mixed cd_of__law_mixed k__law_mixed
  have b__law_mixed := F__law_mixed.binds (ps := ["cell", "n"]) fun _ _ _ _ _ _ us hl => match us, hl with | [_, _], _ => rfl
  have g__law_mixed := PySem.W.mg_of X G a__law_mixed
  have F__law_folded := fun_mk (st := sFolded) l__law_folded cd_of__law_folded k__law_folded
  have b__law_folded := F__law_folded.binds (ps := ["script"]) fun _ _ _ _ _ _ us hl => match us, hl with | [_], _ => rfl
  have g__law_folded := PySem.W.mg_of X G a__law_folded
  have F__law_draw := fun_mk (st := sDraw) l__law_draw cd_of__law_draw k__law_draw
  have b__law_draw := F__law_draw.binds (ps := ["m", "limit"]) fun _ _ _ _ _ _ us hl => match us, hl with | [_, _], _ => rfl
  have g__law_draw := PySem.W.mg_of X G a__law_draw
  have F__law_begun := fun_mk (st := sBegun) l__law_begun cd_of__law_begun k__law_begun
  have b__law_begun := F__law_begun.binds (ps := ["script"]) fun _ _ _ _ _ _ us hl => match us, hl with | [_], _ => rfl
  have g__law_begun := PySem.W.mg_of X G a__law_begun
  have F__all_lots := fun_mk (st := s__all_lots) l__all_lots cd_of__all_lots k__all_lots
  have b__all_lots := F__all_lots.binds (ps := ["groups"]) fun _ _ _ _ _ _ us hl => match us, hl with | [_], _ => rfl
  have g__all_lots := PySem.W.mg_of X G a__all_lots
  have F__side_of := fun_mk (st := s__side_of) l__side_of cd_of__side_of k__side_of
  have b__side_of := F__side_of.binds (ps := ["lot", "many"]) fun _ _ _ _ _ _ us hl => match us, hl with | [_, _], _ => rfl
  have g__side_of := PySem.W.mg_of X G a__side_of
  have F__body_pattern := fun_mk (st := s__body_pattern) l__body_pattern cd_of__body_pattern k__body_pattern
  have b__body_pattern := F__body_pattern.binds (ps := ["many"]) fun _ _ _ _ _ _ us hl => match us, hl with | [_], _ => rfl
  have g__body_pattern := PySem.W.mg_of X G a__body_pattern
  have F__sizes := fun_mk (st := s__sizes) l__sizes cd_of__sizes k__sizes
  have b__sizes := F__sizes.binds (ps := ["wide"]) fun _ _ _ _ _ _ us hl => match us, hl with | [_], _ => rfl
  have g__sizes := PySem.W.mg_of X G a__sizes
  have F__pattern := fun_mk (st := s__pattern) l__pattern cd_of__pattern k__pattern
  have b__pattern := F__pattern.binds (ps := ["wide"]) fun _ _ _ _ _ _ us hl => match us, hl with | [_], _ => rfl
  have g__pattern := PySem.W.mg_of X G a__pattern
  have F_is_tuple := fun_mk (st := s_is_tuple) l_is_tuple cd_of_is_tuple k_is_tuple
  have b_is_tuple := F_is_tuple.binds (ps := ["value", "least", "most"]) fun _ _ _ _ _ _ us hl => match us, hl with | [_, _, _], _ => rfl
  have g_is_tuple := PySem.W.mg_of X G a_is_tuple
  have F_is_whole := fun_mk (st := s_is_whole) l_is_whole cd_of_is_whole k_is_whole
  have b_is_whole := F_is_whole.binds (ps := ["value", "least", "most"]) fun _ _ _ _ _ _ us hl => match us, hl with | [_, _, _], _ => rfl
  have g_is_whole := PySem.W.mg_of X G a_is_whole
  have F_is_word := fun_mk (st := s_is_word) l_is_word cd_of_is_word k_is_word
  have b_is_word := F_is_word.binds (ps := ["value", "words"]) fun _ _ _ _ _ _ us hl => match us, hl with | [_, _], _ => rfl
  have g_is_word := PySem.W.mg_of X G a_is_word
  have F_is_way := fun_mk (st := s_is_way) l_is_way cd_of_is_way k_is_way
  have b_is_way := F_is_way.binds (ps := ["value", "many_bodies", "wards"]) fun _ _ _ _ _ _ us hl => match us, hl with | [_, _, _], _ => rfl
  have g_is_way := PySem.W.mg_of X G a_is_way
  have F_is_seat := fun_mk (st := s_is_seat) l_is_seat cd_of_is_seat k_is_seat
  have b_is_seat := F_is_seat.binds (ps := ["value", "many_bodies", "wards"]) fun _ _ _ _ _ _ us hl => match us, hl with | [_, _, _], _ => rfl
  have g_is_seat := PySem.W.mg_of X G a_is_seat
  have F__is_group := fun_mk (st := s__is_group) l__is_group cd_of__is_group k__is_group
  have b__is_group := F__is_group.binds (ps := ["value", "many_bodies", "wards"]) fun _ _ _ _ _ _ us hl => match us, hl with | [_, _, _], _ => rfl
  have g__is_group := PySem.W.mg_of X G a__is_group
  have F__need_groups := fun_mk (st := s__need_groups) l__need_groups cd_of__need_groups k__need_groups
  have b__need_groups := F__need_groups.binds (ps := ["groups", "number", "many_bodies", "wards"]) fun _ _ _ _ _ _ us hl => match us, hl with | [_, _, _, _], _ => rfl
  have g__need_groups := PySem.W.mg_of X G a__need_groups
  have F_common_term := fun_mk (st := s_common_term) l_common_term cd_of_common_term k_common_term
  have b_common_term := F_common_term.binds (ps := ["bodies"]) fun _ _ _ _ _ _ us hl => match us, hl with | [_], _ => rfl
  have g_common_term := PySem.W.mg_of X G a_common_term
  have F_need_wide := fun_mk (st := s_need_wide) l_need_wide cd_of_need_wide k_need_wide
  have b_need_wide := F_need_wide.binds (ps := ["wide"]) fun _ _ _ _ _ _ us hl => match us, hl with | [_], _ => rfl
  have g_need_wide := PySem.W.mg_of X G a_need_wide
  have F_pattern := fun_mk (st := s_pattern) l_pattern cd_of_pattern k_pattern
  have b_pattern := F_pattern.binds (ps := ["wide"]) fun _ _ _ _ _ _ us hl => match us, hl with | [_], _ => rfl
  have g_pattern := PySem.W.mg_of X G a_pattern
  have F__without_many := fun_mk (st := s__without_many) l__without_many cd_of__without_many k__without_many
  have b__without_many := F__without_many.binds (ps := ["wide"]) fun _ _ _ _ _ _ us hl => match us, hl with | [_], _ => rfl
  have g__without_many := PySem.W.mg_of X G a__without_many
  have F_go_alike := fun_mk (st := s_go_alike) l_go_alike cd_of_go_alike k_go_alike
  have b_go_alike := F_go_alike.binds (ps := ["wide", "other"]) fun _ _ _ _ _ _ us hl => match us, hl with | [_, _], _ => rfl
  have g_go_alike := PySem.W.mg_of X G a_go_alike
  have F__law_like := fun_mk (st := s__law_like) l__law_like cd_of__law_like k__law_like
  have b__law_like := F__law_like.binds (ps := ["answer", "due"]) fun _ _ _ _ _ _ us hl => match us, hl with | [_, _], _ => rfl
  have g__law_like := PySem.W.mg_of X G a__law_like
  have F__law_of := fun_mk (st := s__law_of) l__law_of cd_of__law_of k__law_of
  have b__law_of := F__law_of.binds (ps := ["m", "some"]) fun _ _ _ _ _ _ us hl => match us, hl with | [_, _], _ => rfl
  have g__law_of := PySem.W.mg_of X G a__law_of
  have F__law_way := fun_mk (st := s__law_way) l__law_way cd_of__law_way k__law_way
  have b__law_way := F__law_way.binds (ps := ["m", "bodies", "wards"]) fun _ _ _ _ _ _ us hl => match us, hl with | [_, _, _], _ => rfl
  have g__law_way := PySem.W.mg_of X G a__law_way
  have F__law_seat := fun_mk (st := s__law_seat) l__law_seat cd_of__law_seat k__law_seat
  have b__law_seat := F__law_seat.binds (ps := ["m", "terms", "bodies", "wards"]) fun _ _ _ _ _ _ us hl => match us, hl with | [_, _, _, _], _ => rfl
  have g__law_seat := PySem.W.mg_of X G a__law_seat
  have F__law_wide := fun_mk (st := s__law_wide) l__law_wide cd_of__law_wide k__law_wide
  have b__law_wide := F__law_wide.binds (ps := ["m", "most", "sizes_so"]) fun _ _ _ _ _ _ us hl => match us, hl with | [_, _, _], _ => rfl
  have g__law_wide := PySem.W.mg_of X G a__law_wide
  have F__law_counts := fun_mk (st := s__law_counts) l__law_counts cd_of__law_counts k__law_counts
  have b__law_counts := F__law_counts.binds (ps := ["wide_so"]) fun _ _ _ _ _ _ us hl => match us, hl with | [_], _ => rfl
  have g__law_counts := PySem.W.mg_of X G a__law_counts
  have F__law_sized := fun_mk (st := s__law_sized) l__law_sized cd_of__law_sized k__law_sized
  have b__law_sized := F__law_sized.binds (ps := ["wide", "many"]) fun _ _ _ _ _ _ us hl => match us, hl with | [_, _], _ => rfl
  have g__law_sized := PySem.W.mg_of X G a__law_sized
  have F__law_lots := fun_mk (st := s__law_lots) l__law_lots cd_of__law_lots k__law_lots
  have b__law_lots := F__law_lots.binds (ps := ["many"]) fun _ _ _ _ _ _ us hl => match us, hl with | [_], _ => rfl
  have g__law_lots := PySem.W.mg_of X G a__law_lots
  have F__law_side := fun_mk (st := s__law_side) l__law_side cd_of__law_side k__law_side
  have b__law_side := F__law_side.binds (ps := ["letters", "many"]) fun _ _ _ _ _ _ us hl => match us, hl with | [_, _], _ => rfl
  have g__law_side := PySem.W.mg_of X G a__law_side
  have F__law_signs := fun_mk (st := s__law_signs) l__law_signs cd_of__law_signs k__law_signs
  have b__law_signs := F__law_signs.binds (ps := ["many"]) fun _ _ _ _ _ _ us hl => match us, hl with | [_], _ => rfl
  have g__law_signs := PySem.W.mg_of X G a__law_signs
  have F__law_pattern := fun_mk (st := s__law_pattern) l__law_pattern cd_of__law_pattern k__law_pattern
  have b__law_pattern := F__law_pattern.binds (ps := ["wide"]) fun _ _ _ _ _ _ us hl => match us, hl with | [_], _ => rfl
  have g__law_pattern := PySem.W.mg_of X G a__law_pattern
  have F__law_frame := fun_mk (st := s__law_frame) l__law_frame cd_of__law_frame k__law_frame
  have b__law_frame := F__law_frame.binds (ps := ["wide"]) fun _ _ _ _ _ _ us hl => match us, hl with | [_], _ => rfl
  have g__law_frame := PySem.W.mg_of X G a__law_frame
  have F_law := fun_mk (st := s_law) l_law cd_of_law k_law
  have b_law := F_law.binds (ps := ["script"]) fun _ _ _ _ _ _ us hl => match us, hl with | [_], _ => rfl
  have g_law := PySem.W.mg_of X G a_law
  refine ⟨PySem.W.fnOf "law" "law" (defArgs s_law) (defBody s_law) (defScope s_law) .none kV_law dc_law pm_law an_law cd_law ct_law, fun s v => .of_eq rfl, fun base _ _ => ?_⟩
  have D__law_begun : Dok l.prog w K mg base 2 "_law_begun" ["script"] (spBegun K) f__law_begun _ := ⟨ok_begun F__law_begun B F__law_folded g__law_folded b__law_folded, g__law_begun, k__law_begun, b__law_begun⟩
  have D__law_draw : Dok l.prog w K mg base 2 "_law_draw" ["m", "limit"] (spW K S__law_draw) f__law_draw _ := ⟨fnok_mono (ok_draw F__law_draw B F__law_mixed g__law_mixed b__law_mixed) (fun _ _ _ _ h => draw_of h), g__law_draw, k__law_draw, b__law_draw⟩
  have D__all_lots : Dok l.prog w K mg base 1 "_all_lots" ["groups"] (spW K S__all_lots) f__all_lots _ := ⟨ok__all_lots F__all_lots XX , g__all_lots, k__all_lots, b__all_lots⟩
  have D__side_of : Dok l.prog w K mg base 1 "_side_of" ["lot", "many"] (spW K S__side_of) f__side_of _ := ⟨ok__side_of F__side_of XX , g__side_of, k__side_of, b__side_of⟩
  have D__body_pattern : Dok l.prog w K mg base 2 "_body_pattern" ["many"] (spW K S__body_pattern) f__body_pattern _ := ⟨ok__body_pattern F__body_pattern XX D__all_lots D__side_of, g__body_pattern, k__body_pattern, b__body_pattern⟩
  have D__sizes : Dok l.prog w K mg base 1 "_sizes" ["wide"] (spW K S__sizes) f__sizes _ := ⟨ok__sizes F__sizes XX , g__sizes, k__sizes, b__sizes⟩
  have D__pattern : Dok l.prog w K mg base 3 "_pattern" ["wide"] (spW K S__pattern) f__pattern _ := ⟨ok__pattern F__pattern XX D__body_pattern D__sizes, g__pattern, k__pattern, b__pattern⟩
  have D_is_tuple : Dok l.prog w K mg base 1 "is_tuple" ["value", "least", "most"] (spW K S_is_tuple) f_is_tuple _ := ⟨ok_is_tuple F_is_tuple XX , g_is_tuple, k_is_tuple, b_is_tuple⟩
  have D_is_whole : Dok l.prog w K mg base 1 "is_whole" ["value", "least", "most"] (spW K S_is_whole) f_is_whole _ := ⟨ok_is_whole F_is_whole XX , g_is_whole, k_is_whole, b_is_whole⟩
  have D_is_word : Dok l.prog w K mg base 1 "is_word" ["value", "words"] (spW K S_is_word) f_is_word _ := ⟨ok_is_word F_is_word XX , g_is_word, k_is_word, b_is_word⟩
  have D_is_way : Dok l.prog w K mg base 2 "is_way" ["value", "many_bodies", "wards"] (spW K S_is_way) f_is_way _ := ⟨ok_is_way F_is_way XX D_is_tuple D_is_whole D_is_word, g_is_way, k_is_way, b_is_way⟩
  have D_is_seat : Dok l.prog w K mg base 3 "is_seat" ["value", "many_bodies", "wards"] (spW K S_is_seat) f_is_seat _ := ⟨ok_is_seat F_is_seat XX D_is_tuple D_is_way D_is_whole, g_is_seat, k_is_seat, b_is_seat⟩
  have D__is_group : Dok l.prog w K mg base 4 "_is_group" ["value", "many_bodies", "wards"] (spW K S__is_group) f__is_group _ := ⟨ok__is_group F__is_group XX D_is_seat D_is_tuple D_is_whole, g__is_group, k__is_group, b__is_group⟩
  have D__need_groups : Dok l.prog w K mg base 5 "_need_groups" ["groups", "number", "many_bodies", "wards"] (spW K S__need_groups) f__need_groups _ := ⟨ok__need_groups F__need_groups XX D__is_group D_is_tuple, g__need_groups, k__need_groups, b__need_groups⟩
  have D_common_term : Dok l.prog w K mg base 1 "common_term" ["bodies"] (spW K S_common_term) f_common_term _ := ⟨ok_common_term F_common_term XX , g_common_term, k_common_term, b_common_term⟩
  have D_need_wide : Dok l.prog w K mg base 6 "need_wide" ["wide"] (spW K S_need_wide) f_need_wide _ := ⟨ok_need_wide F_need_wide XX D__need_groups D_common_term D_is_tuple D_is_whole, g_need_wide, k_need_wide, b_need_wide⟩
  have D_pattern : Dok l.prog w K mg base 7 "pattern" ["wide"] (spW K S_pattern) f_pattern _ := ⟨ok_pattern F_pattern XX D__pattern D_need_wide, g_pattern, k_pattern, b_pattern⟩
  have D__without_many : Dok l.prog w K mg base 1 "_without_many" ["wide"] (spW K S__without_many) f__without_many _ := ⟨ok__without_many F__without_many XX , g__without_many, k__without_many, b__without_many⟩
  have D_go_alike : Dok l.prog w K mg base 7 "go_alike" ["wide", "other"] (spW K S_go_alike) f_go_alike _ := ⟨ok_go_alike F_go_alike XX D__pattern D__without_many D_need_wide, g_go_alike, k_go_alike, b_go_alike⟩
  have D__law_like : DoG l.prog w K mg base 1 "_law_like" ["answer", "due"] (spW K S__law_like) f__law_like _ := ⟨ok__law_like F__law_like XX , g__law_like, k__law_like, b__law_like⟩
  have D__law_of : Dok l.prog w K mg base 3 "_law_of" ["m", "some"] (spW K S__law_of) f__law_of _ := ⟨ok__law_of F__law_of XX D__law_draw, g__law_of, k__law_of, b__law_of⟩
  have D__law_way : Dok l.prog w K mg base 4 "_law_way" ["m", "bodies", "wards"] (spW K S__law_way) f__law_way _ := ⟨ok__law_way F__law_way XX D__law_draw D__law_of, g__law_way, k__law_way, b__law_way⟩
  have D__law_seat : Dok l.prog w K mg base 5 "_law_seat" ["m", "terms", "bodies", "wards"] (spW K S__law_seat) f__law_seat _ := ⟨ok__law_seat F__law_seat XX D__law_draw D__law_of D__law_way, g__law_seat, k__law_seat, b__law_seat⟩
  have D__law_wide : Dok l.prog w K mg base 6 "_law_wide" ["m", "most", "sizes_so"] (spW K S__law_wide) f__law_wide _ := ⟨ok__law_wide F__law_wide XX D__law_draw D__law_of D__law_seat, g__law_wide, k__law_wide, b__law_wide⟩
  have D__law_counts : Dok l.prog w K mg base 1 "_law_counts" ["wide_so"] (spW K S__law_counts) f__law_counts _ := ⟨ok__law_counts F__law_counts XX , g__law_counts, k__law_counts, b__law_counts⟩
  have D__law_sized : Dok l.prog w K mg base 1 "_law_sized" ["wide", "many"] (spW K S__law_sized) f__law_sized _ := ⟨ok__law_sized F__law_sized XX , g__law_sized, k__law_sized, b__law_sized⟩
  have D__law_lots : Dok l.prog w K mg base 1 "_law_lots" ["many"] (spW K S__law_lots) f__law_lots _ := ⟨ok__law_lots F__law_lots XX , g__law_lots, k__law_lots, b__law_lots⟩
  have D__law_side : Dok l.prog w K mg base 1 "_law_side" ["letters", "many"] (spW K S__law_side) f__law_side _ := ⟨ok__law_side F__law_side XX , g__law_side, k__law_side, b__law_side⟩
  have D__law_signs : Dok l.prog w K mg base 2 "_law_signs" ["many"] (spW K S__law_signs) f__law_signs _ := ⟨ok__law_signs F__law_signs XX D__law_lots D__law_side, g__law_signs, k__law_signs, b__law_signs⟩
  have D__law_pattern : Dok l.prog w K mg base 3 "_law_pattern" ["wide"] (spW K S__law_pattern) f__law_pattern _ := ⟨ok__law_pattern F__law_pattern XX D__law_counts D__law_signs, g__law_pattern, k__law_pattern, b__law_pattern⟩
  have D__law_frame : Dok l.prog w K mg base 1 "_law_frame" ["wide"] (spW K S__law_frame) f__law_frame _ := ⟨ok__law_frame F__law_frame XX , g__law_frame, k__law_frame, b__law_frame⟩
  exact ok_law F_law XX D__law_begun D__law_counts D__law_draw D__law_frame D__law_like D__law_of D__law_pattern D__law_sized D__law_wide D_go_alike D_pattern (fun ns hz => law_turns ns hz)
end TSx
open PySem PySem.W PyProof.Rows
set_option maxRecDepth 100000 in
set_option maxHeartbeats 0 in
theorem PySem.Challenge.cw_termseats_k82_whole_patterns_holds : PySem.Challenge.rw_termseats_k82_whole_patterns.Holds := by
  w_on; o_law; k_head; (case hw => w_witness2)
  k_fill
  refine TSx.walkG (l := PySem.Challenge.rw_termseats_k82_whole_patterns) (n := 63) (k := 8) (x := "script") (sp := TSx.spLaw) rfl (by decide) rfl ⟨rfl, by decide, by decide⟩ (fun w h Y => PySem.W.kIn_of Y) ?F (fun w H a ns hl _ hS => ⟨a, ns, rfl, hS, hl, fun _ => rfl⟩)
  case F =>
    intro w mg fa h KX G hmg
    refine' TSx.all_mk KX G hmg ?a_MOST_BODIES ?a_MOST_GROUPS ?a_MOST_MANY ?a_MOST_ROUND ?a_MOST_TERM ?a_MOST_WARDS ?a_TIES ?x_TIES ?a_lcm ?a__law_mixed ?l__law_mixed ?cd_of__law_mixed ?k__law_mixed ?a__law_folded ?l__law_folded ?cd_of__law_folded ?k__law_folded ?a__law_draw ?l__law_draw ?cd_of__law_draw ?k__law_draw ?a__law_begun ?l__law_begun ?cd_of__law_begun ?k__law_begun ?a__all_lots ?l__all_lots ?cd_of__all_lots ?k__all_lots ?a__side_of ?l__side_of ?cd_of__side_of ?k__side_of ?a__body_pattern ?l__body_pattern ?cd_of__body_pattern ?k__body_pattern ?a__sizes ?l__sizes ?cd_of__sizes ?k__sizes ?a__pattern ?l__pattern ?cd_of__pattern ?k__pattern ?a_is_tuple ?l_is_tuple ?cd_of_is_tuple ?k_is_tuple ?a_is_whole ?l_is_whole ?cd_of_is_whole ?k_is_whole ?a_is_word ?l_is_word ?cd_of_is_word ?k_is_word ?a_is_way ?l_is_way ?cd_of_is_way ?k_is_way ?a_is_seat ?l_is_seat ?cd_of_is_seat ?k_is_seat ?a__is_group ?l__is_group ?cd_of__is_group ?k__is_group ?a__need_groups ?l__need_groups ?cd_of__need_groups ?k__need_groups ?a_common_term ?l_common_term ?cd_of_common_term ?k_common_term ?a_need_wide ?l_need_wide ?cd_of_need_wide ?k_need_wide ?a_pattern ?l_pattern ?cd_of_pattern ?k_pattern ?a__without_many ?l__without_many ?cd_of__without_many ?k__without_many ?a_go_alike ?l_go_alike ?cd_of_go_alike ?k_go_alike ?a__law_like ?l__law_like ?cd_of__law_like ?k__law_like ?a__law_of ?l__law_of ?cd_of__law_of ?k__law_of ?a__law_way ?l__law_way ?cd_of__law_way ?k__law_way ?a__law_seat ?l__law_seat ?cd_of__law_seat ?k__law_seat ?a__law_wide ?l__law_wide ?cd_of__law_wide ?k__law_wide ?a__law_counts ?l__law_counts ?cd_of__law_counts ?k__law_counts ?a__law_sized ?l__law_sized ?cd_of__law_sized ?k__law_sized ?a__law_lots ?l__law_lots ?cd_of__law_lots ?k__law_lots ?a__law_side ?l__law_side ?cd_of__law_side ?k__law_side ?a__law_signs ?l__law_signs ?cd_of__law_signs ?k__law_signs ?a__law_pattern ?l__law_pattern ?cd_of__law_pattern ?k__law_pattern ?a__law_frame ?l__law_frame ?cd_of__law_frame ?k__law_frame ?a_law ?l_law ?cd_of_law ?k_law ?z_int ?z_len ?z_range ?z_enumerate ?z_repr ?z_isinstance ?z_list ?z_bool ?z_str ?z_tuple ?z_zip ?z_sum ?z_all ?z_max ?z_min ?z_any ?z_sorted
    (case a_MOST_BODIES => k_is)
    (case a_MOST_GROUPS => k_is)
    (case a_MOST_MANY => k_is)
    (case a_MOST_ROUND => k_is)
    (case a_MOST_TERM => k_is)
    (case a_MOST_WARDS => k_is)
    (case a_TIES => k_is)
    (case x_TIES => k_is)
    (case a_lcm => k_is)
    (case a__law_mixed => k_is)
    (case l__law_mixed => k_is)
    (case cd_of__law_mixed => k_is)
    (case k__law_mixed => k_is)
    (case a__law_folded => k_is)
    (case l__law_folded => k_is)
    (case cd_of__law_folded => k_is)
    (case k__law_folded => k_is)
    (case a__law_draw => k_is)
    (case l__law_draw => k_is)
    (case cd_of__law_draw => k_is)
    (case k__law_draw => k_is)
    (case a__law_begun => k_is)
    (case l__law_begun => k_is)
    (case cd_of__law_begun => k_is)
    (case k__law_begun => k_is)
    (case a__all_lots => k_is)
    (case l__all_lots => k_is)
    (case cd_of__all_lots => k_is)
    (case k__all_lots => k_is)
    (case a__side_of => k_is)
    (case l__side_of => k_is)
    (case cd_of__side_of => k_is)
    (case k__side_of => k_is)
    (case a__body_pattern => k_is)
    (case l__body_pattern => k_is)
    (case cd_of__body_pattern => k_is)
    (case k__body_pattern => k_is)
    (case a__sizes => k_is)
    (case l__sizes => k_is)
    (case cd_of__sizes => k_is)
    (case k__sizes => k_is)
    (case a__pattern => k_is)
    (case l__pattern => k_is)
    (case cd_of__pattern => k_is)
    (case k__pattern => k_is)
    (case a_is_tuple => k_is)
    (case l_is_tuple => k_is)
    (case cd_of_is_tuple => k_is)
    (case k_is_tuple => k_is)
    (case a_is_whole => k_is)
    (case l_is_whole => k_is)
    (case cd_of_is_whole => k_is)
    (case k_is_whole => k_is)
    (case a_is_word => k_is)
    (case l_is_word => k_is)
    (case cd_of_is_word => k_is)
    (case k_is_word => k_is)
    (case a_is_way => k_is)
    (case l_is_way => k_is)
    (case cd_of_is_way => k_is)
    (case k_is_way => k_is)
    (case a_is_seat => k_is)
    (case l_is_seat => k_is)
    (case cd_of_is_seat => k_is)
    (case k_is_seat => k_is)
    (case a__is_group => k_is)
    (case l__is_group => k_is)
    (case cd_of__is_group => k_is)
    (case k__is_group => k_is)
    (case a__need_groups => k_is)
    (case l__need_groups => k_is)
    (case cd_of__need_groups => k_is)
    (case k__need_groups => k_is)
    (case a_common_term => k_is)
    (case l_common_term => k_is)
    (case cd_of_common_term => k_is)
    (case k_common_term => k_is)
    (case a_need_wide => k_is)
    (case l_need_wide => k_is)
    (case cd_of_need_wide => k_is)
    (case k_need_wide => k_is)
    (case a_pattern => k_is)
    (case l_pattern => k_is)
    (case cd_of_pattern => k_is)
    (case k_pattern => k_is)
    (case a__without_many => k_is)
    (case l__without_many => k_is)
    (case cd_of__without_many => k_is)
    (case k__without_many => k_is)
    (case a_go_alike => k_is)
    (case l_go_alike => k_is)
    (case cd_of_go_alike => k_is)
    (case k_go_alike => k_is)
    (case a__law_like => k_is)
    (case l__law_like => k_is)
    (case cd_of__law_like => k_is)
    (case k__law_like => k_is)
    (case a__law_of => k_is)
    (case l__law_of => k_is)
    (case cd_of__law_of => k_is)
    (case k__law_of => k_is)
    (case a__law_way => k_is)
    (case l__law_way => k_is)
    (case cd_of__law_way => k_is)
    (case k__law_way => k_is)
    (case a__law_seat => k_is)
    (case l__law_seat => k_is)
    (case cd_of__law_seat => k_is)
    (case k__law_seat => k_is)
    (case a__law_wide => k_is)
    (case l__law_wide => k_is)
    (case cd_of__law_wide => k_is)
    (case k__law_wide => k_is)
    (case a__law_counts => k_is)
    (case l__law_counts => k_is)
    (case cd_of__law_counts => k_is)
    (case k__law_counts => k_is)
    (case a__law_sized => k_is)
    (case l__law_sized => k_is)
    (case cd_of__law_sized => k_is)
    (case k__law_sized => k_is)
    (case a__law_lots => k_is)
    (case l__law_lots => k_is)
    (case cd_of__law_lots => k_is)
    (case k__law_lots => k_is)
    (case a__law_side => k_is)
    (case l__law_side => k_is)
    (case cd_of__law_side => k_is)
    (case k__law_side => k_is)
    (case a__law_signs => k_is)
    (case l__law_signs => k_is)
    (case cd_of__law_signs => k_is)
    (case k__law_signs => k_is)
    (case a__law_pattern => k_is)
    (case l__law_pattern => k_is)
    (case cd_of__law_pattern => k_is)
    (case k__law_pattern => k_is)
    (case a__law_frame => k_is)
    (case l__law_frame => k_is)
    (case cd_of__law_frame => k_is)
    (case k__law_frame => k_is)
    (case a_law => k_is)
    (case l_law => k_is)
    (case cd_of_law => k_is)
    (case k_law => k_is)
    (case z_int => k_is)
    (case z_len => k_is)
    (case z_range => k_is)
    (case z_enumerate => k_is)
    (case z_repr => k_is)
    (case z_isinstance => k_is)
    (case z_list => k_is)
    (case z_bool => k_is)
    (case z_str => k_is)
    (case z_tuple => k_is)
    (case z_zip => k_is)
    (case z_sum => k_is)
    (case z_all => k_is)
    (case z_max => k_is)
    (case z_min => k_is)
    (case z_any => k_is)
    (case z_sorted => k_is)
#print axioms PySem.Challenge.cw_termseats_k82_whole_patterns_holds

