import PyProof.Rows.All
import Wide.All
import OpenK.AllK
import Wide.FinOn
import HandS.ForMost
import HandS.Exc
import HandS.ExcOwn
import HandS.ExcInit
import HandS.ExcIs
import HandS.ExcField
import HandS.IsInst
import HandS.WordsExc
import KE.KExcIs
import KE.KExcInit
import HandS.Wide
import HandS.Walk
import PySem.Challenge.RW_termseats_k80_errors_of_the_third_part
set_option Elab.async false
set_option linter.all false
set_option maxRecDepth 100000
set_option maxHeartbeats 4000000
/-! Own layer, part 1: defs that may ask repr of data. Such a def must know that no repr is under way around it (guards), which the library's FnOk does not say; so FnG says it beside. -/
namespace TSx
open PySem L2 PySem.Spec PyProof.Rows

/-- a def's promise where no repr is under way -/
structure FnG (P : Program) (w : World) (K : PySem.W.Frag) (mg : Str → Option Value) (base : Heap) (CX : CXT) (k : Nat) (f : Addr) (fd : FuncData) (ps : List Str) (sp : Sp) : Prop where
  sized : ∀ vs H Q E, sp vs H Q E → vs.length = ps.length
  go : ∀ (A : Around) (outer : List Env) (s : Shared) (H : Hp) (args : Args) (us : List Value) (vs : List V) (Q : VK) (E : XK),
    A.guards = some [] → Room k A → Env0 P w K mg base A outer s H → BindsTo s fd args (ps.zip us) → Vals vs us → sp vs H Q E →
    codeAny (model P w) A (.call (.ref f) args) (CR CX outer P w H s Q E) s

section
variable {P : Program} {w : World} {K : PySem.W.Frag} {mg : Str → Option Value} {base : Heap} {CX : CXT} {k : Nat} {f : Addr} {fd : FuncData} {ps : List Str} {sp : Sp}
theorem FnG.of (F : FnOk P w K mg base CX k f fd ps sp) : FnG P w K mg base CX k f fd ps sp :=
  ⟨F.len, fun A o s H a us vs Q E _ r e b v h => F.run A o s H a us vs Q E r e b v h⟩
theorem FnG.up {j : Nat} (F : FnG P w K mg base CX j f fd ps sp) (h : j ≤ k) : FnG P w K mg base CX k f fd ps sp :=
  ⟨F.sized, fun A o s H a us vs Q E g r e b v x => F.go A o s H a us vs Q E g (r.mono h) e b v x⟩
end

theorem guards_deeper {A : Around} (g : A.guards = some []) (env : Env) : (A.deeper env).guards = some [] := by
  unfold Around.deeper
  first
    | exact g
    | simp [Around.under, g]

/-- a def by its body, the guards known -/
theorem fnG_of {CX : CXT} {P : Program} {w : World} {K : PySem.W.Frag} {mg : Str → Option Value} {base : Heap} {k : Nat} {f : Addr} {x qual : Str} {st : Stmt} {fd : FuncData} {N ps : List Str} {sp : Sp}
    (F : L2.Fun K x qual st f fd) (S : FnScope N ps (defScope st)) (sz : ∀ vs H Q E, sp vs H Q E → vs.length = ps.length)
    (B : ∀ (cdv : Value) (A : Around) (outer : List Env) (s : Shared) (H : Hp) (vs : List V) (Q : VK) (E : XK), A.guards = some [] → Room k (A.deeper (envOfC qual (defScope st) s.heap.objs.size f cdv)) → sp vs H Q E →
      ∃ t, PSs (cxOf CX P w K mg base N qual (defScope st) f cdv A outer s H E) (defBody st) t ∧ t { nx := fun _ H' => Q .non H', rt := Q } (start N vs) H) :
    FnG P w K mg base CX (k + 1) f fd ps sp := by
  obtain ⟨oc, od, kV, doc, pm, an, cdv, ct, osl, rfl, lk, hcd⟩ := F.ex
  refine ⟨sz, fun A outer s H args us vs Q E g hr e0 hb r hsp => ?_⟩
  -- the same def, its promise cut down to this very call: then the library's rule serves
  obtain ⟨t, ht, hq⟩ := B cdv A outer s H vs Q E g (hr.deeper _) hsp
  have KX : K.In s.heap := e0.mod.kin.keeps fun b o e => (e0.bs b o e).1
  refine codeAny_call_function hr.depth (KX _ _ lk) rfl S.co S.gen rfl (PySem.W.codeRec_of KX hcd) (hb _ _ _ _ ?_)
  have kinds : ∀ y ∈ ps.zip us, (defScope st).names.lookup y.1 = some .local ∨ ((defScope st).names.lookup y.1 = some .cell ∧ ((cellsFrom (s.heap.objs.size + 1) (defScope st).names []).lookup y.1).isSome = true) := by
    intro y hy
    obtain ⟨n, v⟩ := y
    cases S.par n (List.of_mem_zip hy).1 with
    | inl q => exact Or.inl q
    | inr q => exact Or.inr ⟨q, PySem.W.cellsFrom_some _ _ _ (Or.inl q)⟩
  refine wpAny_newFunctionEnv_cells S.kind kinds fun env he s1 ic => ?_
  subst he
  have nolim : s.heap.NoLimit := e0.mod.nolimit.keeps fun b o e => (e0.bs b o e).1
  refine ⟨nolim.keeps ic.toInCall.keep, codeAny_func ?_⟩
  have J := inv_start (CX := CX) (E := E) S hr.hd e0 (sz _ _ _ _ hsp) r ic
  refine wpAny_mono (ht.run [] s1 (start N vs) H _ J hq) (fun fl s' z => ?_) fun _ _ z => z
  match fl, z with
  | .ret u, z =>
    obtain ⟨v, σ', H', I, rv, q⟩ := z
    exact ⟨v, H', I.os, I.bare, I.base, I.hok, rv, q⟩
  | .next, z =>
    obtain ⟨σ', H', I, q⟩ := z
    exact ⟨V.non, H', I.os, I.bare, I.base, I.hok, rfl, q⟩
  | .brk, z =>
    obtain ⟨_, _, _, q⟩ := z
    exact q.elim
  | .cont, z =>
    obtain ⟨_, _, _, q⟩ := z
    exact q.elim

/-- .. no exception leaves it -/
theorem fnG_of0 {P : Program} {w : World} {K : PySem.W.Frag} {mg : Str → Option Value} {base : Heap} {k : Nat} {f : Addr} {x qual : Str} {st : Stmt} {fd : FuncData} {N ps : List Str} {sp : Sp}
    (F : L2.Fun K x qual st f fd) (S : FnScope N ps (defScope st)) (sz : ∀ vs H Q E, sp vs H Q E → vs.length = ps.length)
    (B : ∀ (cdv : Value) (A : Around) (outer : List Env) (s : Shared) (H : Hp) (vs : List V) (Q : VK) (E : XK), A.guards = some [] → Room k (A.deeper (envOfC qual (defScope st) s.heap.objs.size f cdv)) → sp vs H Q E →
      ∃ t, PSs (cxOf CX0 P w K mg base N qual (defScope st) f cdv A outer s H E).nox (defBody st) t ∧ t { nx := fun _ H' => Q .non H', rt := Q } (start N vs) H) :
    FnG P w K mg base CX0 (k + 1) f fd ps sp := fnG_of F S sz fun cdv A outer s H vs Q E g hr h => by
  obtain ⟨t, h1, h2⟩ := B cdv A outer s H vs Q E g hr h
  exact ⟨t, h1.nox, h2⟩

section
variable {X : Cx} {CX : CXT} {k : Nat} {f : Addr} {fd : FuncData} {ps : List Str} {sp : Sp} {E : XK} {x : Str} {p pos : Pos} {e : Expr} {es : List Expr} {t : TA}
theorem runG {pins : List (Addr × Obj)} {σ : L2.St} {H : Hp} {s : Shared} {Q : VK} {us : List Value} {vs : List V} {EE : XK} (F : FnG X.prog X.w X.K X.mg X.base CX k f fd ps sp) (g : X.A.guards = some []) (hr : Room k X.A) (hb : Binds X.K fd ps [])
    (hx : ∀ e s', CX X.stack H s EE e s' → X.xe e s') (I : Inv X pins σ H s) (r : Vals vs us) (h : sp vs H Q EE) : wpAny (model X.prog X.w) X.A (call (.ref f) us) (EP X pins σ Q) X.xe s := by
  have hl : us.length = ps.length := by rw [← r.length]; exact F.sized _ _ _ _ h
  have bb : BindsTo s fd ⟨us, []⟩ (ps.zip us) := by
    have q := hb s us I.kIn (by rw [List.append_nil]; exact hl)
    rw [List.append_nil] at q
    exact q
  refine wpAny_call (codeAny_mono (F.go X.A X.stack s H ⟨us, []⟩ us vs Q EE g hr I.env0 bb r h) fun o s' z => ?_)
  match o, z with
  | .error y, z => exact hx y s' z
  | .ok (.ret u), z => exact I.after z
  | .ok .next, z => exact False.elim z
  | .ok .brk, z => exact False.elim z
  | .ok .cont, z => exact False.elim z
/-- f(e, ..) -/
theorem pe_callG (F : FnG X.prog X.w X.K X.mg X.base CX k f fd ps sp) (g : X.A.guards = some []) (hr : Room k X.A) (hg : Gl X x) (hm : X.mg x = some (.ref f)) (hk : PySem.W.keepIn X.K (.ref f) = true) (hb : Binds X.K fd ps []) (hx : Passes CX X E)
    (ha : PA X (e :: es) t) (hdb : (x == ("__debug__" : Str)) = false := by decide) (he : starEach (e :: es) X.env = (false, eval e X.env) :: starEach es X.env := by rfl) (hpl : (backTo pos (starEach es X.env)).any (·.1) = false := by rfl) :
    PE X (.Call (.Name x p) (e :: es) [] pos) (tCall sp [] E t) := by
  constructor
  intro pins s σ H Q I h
  refine wpAny_Call_Name_kw (ld_glob I hg hm ?_ hdb)
  refine PySem.W.callWith_K (h₀ := X.base) I.ok.mod.kin hk (thn (ha.run pos pins s σ H _ I h) fun us s1 z => ?_) he hpl
  obtain ⟨vs, H1, I1, r, q⟩ := z
  have q' : sp vs H1 Q E := by
    have := q
    rw [List.append_nil] at this
    exact this
  exact ⟨I1.kIn, runG F g hr hb (fun y s' c => hx pins σ H1 s1 y s' I1 c) I1 r q'⟩
theorem pe_callG0 (F : FnG X.prog X.w X.K X.mg X.base CX k f fd ps sp) (g : X.A.guards = some []) (hr : Room k X.A) (hg : Gl X x) (hm : X.mg x = some (.ref f)) (hk : PySem.W.keepIn X.K (.ref f) = true) (hb : Binds X.K fd ps []) (hx : Passes CX X E)
    (hdb : (x == ("__debug__" : Str)) = false := by decide) : PE X (.Call (.Name x p) [] [] pos) (tCall sp [] E tNil) := by
  constructor
  intro pins s σ H Q I h
  refine wpAny_Call_Name_kw (ld_glob I hg hm ?_ hdb)
  exact PySem.W.callWith_K0 I.kIn hk (runG (us := []) F g hr hb (fun y s' c => hx pins σ H s y s' I c) I .nil h)
end

/-! ### the law's own end: the script alone is tracked (or it stands in the written part) -/
theorem law_endG {P : Program} {w : World} {K : PySem.W.Frag} {mg mb : Str → Option Value} {CX : CXT} {k : Nat} {fa a : Addr} {fd : FuncData} {x : Str} {sp : Sp} {s₁ : Shared} {vs : List Value} {ns : List Int}
    (KX : K.In s₁.heap) (hns : s₁.heap.Ns mainGlobals mg) (hb : s₁.heap.Ns builtinsNs mb) (hbb : ∀ x : Str, x ≠ "__name__" → mb x = bootBuiltins x) (hlim : s₁.heap.NoLimit) (hg : s₁.gens = #[])
    (ha : s₁.heap.get? a = some { cls := .type "list", data := .seq vs.toArray }) (hi : IntsAre vs ns) (hl : ns.length ≤ sizeLine) (hr : Room k callerA)
    (F : ∀ base : Heap, K.In base → base.Ns mainGlobals mg → FnG P w K mg base CX k fa fd [x] sp) (hbind : ∀ (s : Shared) (u : Value), BindsTo s fd ⟨[u], []⟩ [(x, u)])
    (hsp : ∀ H : Hp, Only H → SqL K H a (ns.map V.int) → sp [.ref a] H (fun v _ => v = .bl true) fun _ _ _ => False)
    (hCX : ∀ H e s', CX [] H s₁ (fun _ _ _ => False) e s' → False) :
    codeAny (model P w) callerA (.call (.ref fa) ⟨[.ref a], []⟩) (fun r s' => r = .ok (.ret (.bool true)) ∧ OldK s₁.heap s'.heap ∧ s'.os = s₁.os ∧ AllBare s'.gens) s₁ := by
  classical
  have rv := vals_ints hi
  have size_eq : vs.length = ns.length := hi.length
  -- what is tracked
  let H : Hp := fun b => if b = a ∧ K.lookup a = none then some (.frz { cls := .type "list", data := .seq vs.toArray } (.lst (ns.map V.int))) else none
  have only_a : ∀ b, H b ≠ none → b = a ∧ K.lookup a = none := fun b hb => by
    by_cases c : b = a ∧ K.lookup a = none
    · exact c
    · exact absurd (if_neg c) hb
  have only : Only H := fun b => by
    by_cases c : b = a ∧ K.lookup a = none
    · exact Or.inr ⟨_, _, if_pos c⟩
    · exact Or.inl (if_neg c)
  have script : SqL K H a (ns.map V.int) := by
    cases hk : K.lookup a with
    | none => exact Or.inl (Or.inr ⟨_, if_pos ⟨rfl, hk⟩⟩)
    | some o =>
      have e := KX a o hk
      rw [ha] at e
      cases e
      exact Or.inr ⟨_, vs.toArray, _, hk, rfl, rfl, rfl, by rw [List.size_toArray, size_eq]; exact hl, by simpa using rv⟩
  have ok : HOk P w H s₁.heap := fun b u z => by
    have c := only_a b (by rw [z]; simp)
    have z' : H b = some _ := if_pos c
    rw [z] at z'
    cases z'
    rw [c.1]
    exact ⟨ha, by rw [List.length_map]; exact hl, vs, _, rv, ha⟩
  have shown : ∀ {b : Addr} {o : Obj}, s₁.heap.get? b = some o → H b = none → (hidT s₁.heap H).get? b = some o := fun e n => hidT_get e n
  have dicts : ∀ {b : Addr} {m : Str → Option Value}, s₁.heap.Ns b m → (hidT s₁.heap H).Ns b m := fun {b m} z => by
    obtain ⟨o, es, ep, e, d, r⟩ := z
    refine ⟨o, es, ep, shown e ?_, d, r⟩
    cases q : H b with
    | none => rfl
    | some u =>
      have c := only_a b (by rw [q]; simp)
      rw [c.1, ha] at e
      cases e
      have d' : Data.seq vs.toArray _ = Data.dict es ep := d
      cases d'
  have Kb : K.In (hidT s₁.heap H) := fun b o e => shown (KX b o e) (by
    cases q : H b with
    | none => rfl
    | some u =>
      have c := only_a b (by rw [q]; simp)
      rw [c.1, c.2] at e
      cases e)
  have M : Mod K mg (hidT s₁.heap H) := by
    refine ⟨Kb, dicts hns, ⟨mb, dicts hb, hbb⟩, ?_⟩
    obtain ⟨mc, h1, h2⟩ := hlim
    exact ⟨mc, dicts h1, h2⟩
  have E0 : Env0 P w K mg (hidT s₁.heap H) callerA [] s₁ H := {
    frames := rfl
    mod := M
    bs := fun b o e => of_hidT e
    bsz := Nat.le_of_eq (hidT_size _ _)
    funs := trivial
    frf := fun b hb => by cases hb
    hok := ok
    bare := .of_eq hg }
  refine codeAny_mono ((F _ Kb (dicts hns)).go callerA [] s₁ H ⟨[.ref a], []⟩ [.ref a] [.ref a] _ _ rfl hr E0 (hbind s₁ (.ref a)) (.cons rfl .nil) (hsp H only script)) fun r s' h => ?_
  match r, h with
  | .error e, h => exact (hCX H e s' h).elim
  | .ok .next, h => exact False.elim h
  | .ok .brk, h => exact False.elim h
  | .ok .cont, h => exact False.elim h
  | .ok (.ret u), h =>
    obtain ⟨v, H', os, bare, un, ok', rel, q⟩ := h
    have q' : v = .bl true := q
    subst q'
    obtain rfl : u = Value.bool true := rel
    refine ⟨rfl, OldK.of_keep fun b o e => ?_, os, bare⟩
    cases q : H b with
    | none => exact un.keep b o e q (fun z => by cases z) (fun z => by cases z)
    | some u =>
      have c := only_a b (by rw [q]; simp)
      have z : H b = some (.frz _ _) := if_pos c
      obtain ⟨e1, _⟩ := ok b _ z
      obtain ⟨e2, _⟩ := ok' b _ (un.frzs b _ _ z)
      rw [e] at e1
      cases e1
      exact e2
theorem walkG {l : PySem.W.OpenLaw} {n k : Nat} {q : Program} {loose : List Str} {XP : (Str → Option Value) → Heap → Prop} {YP : World → Heap → Prop} {d : DefRec} {K : Params → PySem.W.Frag} {sp : PySem.W.Frag → Sp} {x : Str}
    (hn : l.most = some n) (hn2 : n ≤ sizeLine) (hdf : d.params.defaults = []) (hr : Room k callerA)
    (hY : ∀ (w : World) (h : Heap), YP w h → (K w.params).In h)
    (F : ∀ (w : World) (mg : Str → Option Value) (fa : Addr) (h : Heap), (K w.params).In h → h.Ns mainGlobals mg → mg d.name = some (.ref fa) →
      ∃ fd : FuncData, (∀ (s : Shared) (u : Value), BindsTo s fd ⟨[u], []⟩ [(x, u)]) ∧
        ∀ base : Heap, (K w.params).In base → base.Ns mainGlobals mg → FnG l.prog w (K w.params) mg base CX0 k fa fd [x] (sp (K w.params)))
    (hsp : ∀ (w : World) (H : Hp) (a : Addr) (ns : List Int), ns.length ≤ n → Only H → SqL (K w.params) H a (ns.map V.int) → sp (K w.params) [.ref a] H (fun v _ => v = .bl true) fun _ _ _ => False) :
    PySem.W.WalkO q loose XP YP l.row.toRowW d [] (fun f vs => PySem.call f vs) := by
  refine Att.attach_call hn hdf fun w s₀ s₁ mg mb fa o pm cd doc a vs ns G Y ho hd hcd hmg hobj hints hlen hg => ?_
  obtain ⟨fd, hb, hF⟩ := F w mg fa _ (hY w _ Y) G.T.g hmg
  exact law_endG (hY w _ Y) G.T.g G.T.b G.T.builtins G.T.nolimit hg hobj hints (Nat.le_trans hlen hn2) hr hF hb (fun H hO hS => hsp w H a ns hlen hO hS) fun _ _ _ z => z
end TSx

/-! Own layer, part 2: data of any depth (exceptions among them), what evaluates to which data, repr. -/
namespace TSx
open PySem L2 PySem.Spec PyProof.Rows
abbrev Sg := L2.St

/-- data: what stands below a value, all of it -/
inductive D where
  | non | bl (b : Bool) | int (i : Int) | str (x : Str)
  | lst (xs : List D) | tup (xs : List D) | dic (kvs : List (Key × D)) | exc (C : Addr) (fs : List (Str × D))

/-- at a: an exception of the class at C, its own dict at d -/
def exq (a C d : Addr) : HO := .ext fun h => ∃ oe vs, h.get? a = some oe ∧ Zc (.ref C) (some d) oe ∧ oe.data = .fields vs

mutual
inductive Dt (K : PySem.W.Frag) (H : Hp) : V → D → Prop
  | non : Dt K H .non .non
  | bl (b : Bool) : Dt K H (.bl b) (.bl b)
  | int (i : Int) : Dt K H (.int i) (.int i)
  | str (x : Str) : Dt K H (.str x) (.str x)
  | lst {a : Addr} {xs : List V} {ds : List D} : H a = some (.lst xs) → DtA K H xs ds → Dt K H (.ref a) (.lst ds)
  | tup {a : Addr} {xs : List V} {ds : List D} : SqT K H a xs → DtA K H xs ds → Dt K H (.ref a) (.tup ds)
  | dic {a : Addr} {xs : List (Key × V)} {ds : List (Key × D)} : H a = some (.dK xs) → DtK K H xs ds → Dt K H (.ref a) (.dic ds)
  | exc {a C d : Addr} {xs : List (Str × V)} {ds : List (Str × D)} : H a = some (exq a C d) → H d = some (.xd xs) → DtF K H xs ds → Dt K H (.ref a) (.exc C ds)
inductive DtA (K : PySem.W.Frag) (H : Hp) : List V → List D → Prop
  | nil : DtA K H [] []
  | cons {v : V} {vs : List V} {d : D} {ds : List D} : Dt K H v d → DtA K H vs ds → DtA K H (v :: vs) (d :: ds)
inductive DtK (K : PySem.W.Frag) (H : Hp) : List (Key × V) → List (Key × D) → Prop
  | nil : DtK K H [] []
  | cons {k : Key} {v : V} {vs : List (Key × V)} {d : D} {ds : List (Key × D)} : Dt K H v d → DtK K H vs ds → DtK K H ((k, v) :: vs) ((k, d) :: ds)
inductive DtF (K : PySem.W.Frag) (H : Hp) : List (Str × V) → List (Str × D) → Prop
  | nil : DtF K H [] []
  | cons {k : Str} {v : V} {vs : List (Str × V)} {d : D} {ds : List (Str × D)} : Dt K H v d → DtF K H vs ds → DtF K H ((k, v) :: vs) ((k, d) :: ds)
end

/-- H' has all that H has -/
abbrev Gr (H H' : Hp) : Prop := Same H H'
theorem Gr.rfl' {H : Hp} : Gr H H := fun _ _ e => e
theorem Gr.tr {H H1 H2 : Hp} (a : Gr H H1) (b : Gr H1 H2) : Gr H H2 := fun x o e => b x o (a x o e)
theorem gr_new {H : Hp} {p : Addr} {o : HO} (n : H p = none) : Gr H (upd H p o) := fun a u e => by rw [upd_ne (ne_of_none e n)]; exact e
theorem gr_none {H H' : Hp} {p : Addr} (g : Gr H H') (n : H' p = none) : H p = none := by
  cases e : H p with
  | none => rfl
  | some o => rw [g p o e] at n; cases n
theorem gr_T {K : PySem.W.Frag} {H H' : Hp} {a : Addr} {xs : List V} (g : Gr H H') (h : SqT K H a xs) : SqT K H' a xs := by
  rcases h with (h | ⟨o, h⟩) | h
  · exact Or.inl (Or.inl (g _ _ h))
  · exact Or.inl (Or.inr ⟨o, g _ _ h⟩)
  · exact Or.inr h

section
variable {K : PySem.W.Frag} {H H' : Hp}
mutual
theorem Dt.gr (g : Gr H H') : ∀ {v : V} {d : D}, Dt K H v d → Dt K H' v d
  | _, _, .non => .non
  | _, _, .bl b => .bl b
  | _, _, .int i => .int i
  | _, _, .str x => .str x
  | _, _, .lst e a => .lst (g _ _ e) (DtA.gr g a)
  | _, _, .tup e a => .tup (gr_T g e) (DtA.gr g a)
  | _, _, .dic e a => .dic (g _ _ e) (DtK.gr g a)
  | _, _, .exc e f a => .exc (g _ _ e) (g _ _ f) (DtF.gr g a)
theorem DtA.gr (g : Gr H H') : ∀ {v : List V} {d : List D}, DtA K H v d → DtA K H' v d
  | _, _, .nil => .nil
  | _, _, .cons a b => .cons (Dt.gr g a) (DtA.gr g b)
theorem DtK.gr (g : Gr H H') : ∀ {v : List (Key × V)} {d : List (Key × D)}, DtK K H v d → DtK K H' v d
  | _, _, .nil => .nil
  | _, _, .cons a b => .cons (Dt.gr g a) (DtK.gr g b)
theorem DtF.gr (g : Gr H H') : ∀ {v : List (Str × V)} {d : List (Str × D)}, DtF K H v d → DtF K H' v d
  | _, _, .nil => .nil
  | _, _, .cons a b => .cons (Dt.gr g a) (DtF.gr g b)
end
theorem DtA.len {v : List V} {d : List D} (h : DtA K H v d) : v.length = d.length := by
  induction d generalizing v with
  | nil => cases h; rfl
  | cons x d ih => cases h with | cons a b => simp [ih b]
theorem DtA.app : ∀ {v w : List V} {d e : List D}, DtA K H v d → DtA K H w e → DtA K H (v ++ w) (d ++ e)
  | _, _, _, _, .nil, h => h
  | _, _, _, _, .cons a b, h => .cons a (DtA.app b h)
theorem DtA.at : ∀ {v : List V} {d : List D} {i : Nat} {x : V}, DtA K H v d → v[i]? = some x → ∃ y, d[i]? = some y ∧ Dt K H x y
  | _, _, i, x, .nil, e => by simp at e
  | _, _, 0, x, .cons a b, e => by simp at e; subst e; exact ⟨_, rfl, a⟩
  | _, _, i + 1, x, .cons a b, e => by
    obtain ⟨y, h1, h2⟩ := DtA.at (i := i) (x := x) b (by simpa using e)
    exact ⟨y, by simpa using h1, h2⟩
theorem DtF.look {f : Str} : ∀ {v : List (Str × V)} {d : List (Str × D)} {y : D}, DtF K H v d → d.lookup f = some y → ∃ x, v.lookup f = some x ∧ Dt K H x y
  | _, _, y, .nil, e => by simp at e
  | _, _, y, .cons (k := k) a b, e => by
    simp only [List.lookup] at e ⊢
    split at e
    · cases e; exact ⟨_, rfl, a⟩
    · exact DtF.look b e
end

/-! ### as the library's data -/
mutual
def D.py : D → PyData
  | .non => .none
  | .bl b => .bool b
  | .int i => .int i
  | .str x => .str x
  | .lst xs => .list (pyA xs)
  | .tup xs => .tuple (pyA xs)
  | .dic _ => .dict []
  | .exc _ _ => .none
def pyA : List D → List PyData
  | [] => []
  | x :: xs => x.py :: pyA xs
end
mutual
/-- no dict, no exception in it -/
def D.pl : D → Bool
  | .lst xs => plA xs
  | .tup xs => plA xs
  | .dic _ => false
  | .exc _ _ => false
  | .str x => PySem.PyData.strOk x
  | _ => true
def plA : List D → Bool
  | [] => true
  | x :: xs => x.pl && plA xs
end
section
variable {X : Cx} {pins : List (Addr × Obj)} {σ : Sg} {H : Hp} {s : Shared}
mutual
theorem Dt.dp {K : PySem.W.Frag} {H : Hp} : ∀ {v : V} {d : D}, Dt K H v d → d.pl = true → Dp K H v d.py
  | _, _, .non, _ => .non
  | _, _, .bl b, _ => .bl b
  | _, _, .int i, _ => .int i
  | _, _, .str x, _ => .str x
  | _, _, .lst e a, h => .lst (SqL.of e) (DtA.dp a h)
  | _, _, .tup e a, h => .tup e (DtA.dp a h)
  | _, _, .dic e a, h => by cases h
  | _, _, .exc e f a, h => by cases h
theorem DtA.dp {K : PySem.W.Frag} {H : Hp} : ∀ {v : List V} {d : List D}, DtA K H v d → plA d = true → DpAll K H v (pyA d)
  | _, _, .nil, _ => .nil
  | _, _, .cons a b, h => by
    simp only [plA, Bool.and_eq_true] at h
    exact .cons (Dt.dp a h.1) (DtA.dp b h.2)
end
mutual
theorem nodict : ∀ d : D, d.pl = true → d.py.hasDict = false
  | .non, _ => rfl
  | .bl _, _ => rfl
  | .int _, _ => rfl
  | .str _, _ => rfl
  | .lst xs, h => by show PyData.hasDictAll (pyA xs) = false; exact nodictA xs h
  | .tup xs, h => by show PyData.hasDictAll (pyA xs) = false; exact nodictA xs h
  | .dic _, h => by cases h
  | .exc _ _, h => by cases h
theorem nodictA : ∀ d : List D, plA d = true → PyData.hasDictAll (pyA d) = false
  | [], _ => rfl
  | x :: xs, h => by
    simp only [plA, Bool.and_eq_true] at h
    show (x.py.hasDict || PyData.hasDictAll (pyA xs)) = false
    rw [nodict x h.1, nodictA xs h.2]; rfl
end
end

/-- what repr can be asked of here: plain data that fit, or an empty dict -/
def D.rok (d : D) : Prop := (d.pl = true ∨ d = .dic []) ∧ d.py.showable = true ∧ d.py.shown.length ≤ sizeLine ∧ d.py.depth ≤ 50
/-- repr(x) -/
def rRepr (K : PySem.W.Frag) : List V → Hp → VK → Prop := fun xs H Q => ∃ v d, xs = [v] ∧ Dt K H v d ∧ d.rok ∧ Q (.str d.py.shown) H
theorem call_repr {X : Cx} (g : X.A.guards = some []) (hu : X.A.units + 64 < cLine) : CallR X (.builtin "repr") (rRepr X.K) := by
  intro pins s σ H xs us Q I r h
  obtain ⟨v, d, rfl, hd, ⟨hp, hs, hz, hdp⟩, q⟩ := h
  obtain ⟨u, rfl, ru⟩ := vals1 r
  have hu2 : X.A.units + (d.py.depth + 1) < cLine := by omega
  have fin : ∀ h' tk u', (∀ b o, s.heap.get? b = some o → h'.get? b = some o) → EP X pins σ Q (.str d.py.shown u') { s with heap := h', toks := tk } := fun h' tk u' k => ⟨.str d.py.shown, H, I.kept k, ⟨u', rfl⟩, q⟩
  have finT : EP X pins σ Q (.str d.py.shown s.toks) { s with toks := s.toks + 1 } := ⟨.str d.py.shown, H, I.tok _, ⟨_, rfl⟩, q⟩
  -- a container's repr
  have box : ∀ a : Addr, u = .ref a → (∃ as, Reads s.heap (.ref a) d.py as ∧ (d.py.hasDict = true → sysModules ∉ as)) → wpAny (model X.prog X.w) X.A (call (.builtin "repr") [u]) (EP X pins σ Q) X.xe s := fun a e z => by
    obtain ⟨as, rd, hsm⟩ := z
    subst e
    exact repr_of_reads' rd hs hsm g hu2 (fun _ _ e => e) (fun h' u tk k => fin h' tk u k) hz
  rcases hp with hp | hp
  · obtain ⟨as, rd⟩ := Dp.reads I _ _ _ (hd.dp hp) ru
    have nd := nodict d hp
    cases hd with
    | non => cases ru; exact PySem.P.repr_of_none finT
    | bl b => cases ru; exact PySem.P.repr_of_bool finT
    | int i =>
      obtain ⟨t, rfl⟩ := ru
      exact PySem.P.repr_of_int (of_decide_eq_true hs) finT
    | str x =>
      obtain ⟨t, rfl⟩ := ru
      exact PySem.P.repr_of_str finT hz
    | lst e a => exact box _ ru ⟨as, by cases ru; exact rd, fun z => by rw [nd] at z; cases z⟩
    | tup e a => exact box _ ru ⟨as, by cases ru; exact rd, fun z => by rw [nd] at z; cases z⟩
    | dic e a => cases hp
    | exc e f a => cases hp
  · subst hp
    cases hd with
    | @dic a xs ds e kk =>
      cases kk
      cases ru
      obtain ⟨_, lo, vs, rel, o, es, ep, h1, h2, h3, h4, h5, _⟩ := dk_of I.hok e
      cases rel
      have e0 : es.toList = [] := by
        generalize es.toList = l at h5
        cases h5
        rfl
      have n1 : ReadsAll s.heap (es.toList.map (·.key)) (([] : List (PyData × PyData)).map (·.1)) [] := by rw [e0]; exact .nil
      have n2 : ReadsAll s.heap (es.toList.map (·.val)) (([] : List (PyData × PyData)).map (·.2)) [] := by rw [e0]; exact .nil
      refine box a rfl ⟨a :: ([] ++ []), Reads.dict (kvs := []) h1 h2.1 h3 n1 n2, fun _ z => ?_⟩
      have z' : sysModules = a := by simpa using z
      rw [z'] at lo
      simp at lo
end TSx

/-! Own layer, part 3: exceptions with an own __init__ as values: made, read, asked for their class, caught and kept. -/
namespace TSx
open PySem L2 PySem.Spec PyProof.Rows
section
variable {X : Cx} {pins : List (Addr × Obj)} {σ : Sg} {H : Hp} {s : Shared}
theorem exq_ok {P : Program} {w : World} {h : Heap} {a C d : Addr} {oe : Obj} {fv : Array Value} (e : h.get? a = some oe) (z : Zc (.ref C) (some d) oe) (f : oe.data = .fields fv) : ObjOk P w H h a (exq a C d) :=
  ⟨⟨oe, fv, e, z, f⟩, ⟨oe, e⟩, fun _ _ y k => by
    obtain ⟨o, v, e, r⟩ := y
    exact ⟨o, v, k o e, r⟩⟩
theorem exq_at (ok : HOk X.prog X.w H s.heap) {a C d : Addr} (e : H a = some (exq a C d)) : ∃ oe fv, s.heap.get? a = some oe ∧ Zc (.ref C) (some d) oe ∧ oe.data = .fields fv := by
  have x : ObjOk X.prog X.w H s.heap a (.ext fun h => ∃ oe vs, h.get? a = some oe ∧ Zc (.ref C) (some d) oe ∧ oe.data = .fields vs) := ok a _ e
  exact x.1
/-- an object that is not of this frame, nor tracked, becomes tracked -/
theorem Inv.track {a : Addr} {o : HO} (I : L2.Inv X pins σ H s) (na : H a = none) (n0 : X.s_0.heap.get? a = none) (nL : a ≠ X.env.locals) (nC : ∀ x c, X.env.cells.lookup x = some c → c ≠ a) (nP : ∀ p ∈ X.pn ++ pins, p.1 ≠ a)
    (new : ObjOk X.prog X.w (upd H a o) s.heap a o) : L2.Inv X pins σ (upd H a o) s := by
  have old : ∀ {b : Addr} {u : HO}, H b = some u → upd H a o b = some u := fun {b u} e => by rw [upd_ne (ne_of_none e na)]; exact e
  have un : ∀ {b : Addr}, b ≠ a → H b = none → upd H a o b = none := fun {b} h e => by rw [upd_ne h]; exact e
  refine ⟨I.ok, I.os, I.bare, ⟨fun b u e n hb hx => I.base.keep b u e n hb hx, fun b u e n hb hx => I.base.slot b u e n hb hx, fun b u e n hx => un (fun z => by rw [z, n0] at e; cases e) (I.base.free b u e n hx), I.base.there,
    fun b xs e => old (I.base.tups b xs e), fun b u v e => old (I.base.frzs b u v e), fun b ps e => ?_⟩, I.loc, I.cell, un (Ne.symm nL) I.free, fun x c e => un (nC x c e) (I.freeC x c e), fun p hp => ?_, fun b u e => ?_, I.len⟩
  · obtain ⟨m, e1⟩ := I.base.tbls b ps e
    exact ⟨m, old e1⟩
  · obtain ⟨h1, h2, h3⟩ := I.pin p hp
    exact ⟨h1, un (nP p hp) h2, h3⟩
  · by_cases hb : b = a
    · subst hb
      rw [upd_same] at e
      cases e
      exact new
    · rw [upd_ne hb] at e
      exact (I.hok b u e).stay (fun _ _ _ q => q) (fun _ q => old q) fun _ _ q => old q
/-- another description of a tracked thing, of those that may change -/
theorem Inv.retell {a : Addr} {o u : HO} (I : L2.Inv X pins σ H s) (e : H a = some u) (mu : Mut (some u)) (new : ObjOk X.prog X.w (upd H a o) s.heap a o) : L2.Inv X pins σ (upd H a o) s := by
  have m : Mut (H a) := by rw [e]; exact mu
  have th : ∃ ob, s.heap.get? a = some ob := by
    have q := I.hok a u e
    exact objOk_get q
  have J := I.write (h' := s.heap) (t' := s.toks) (x := a) (e := a) (o := o) m (Or.inl rfl) (fun _ _ _ q => q) th new
  exact J
end

/-- what the written part says of the class: how it is made, read, asked -/
structure XC (K : PySem.W.Frag) (C : Addr) : Prop where
  o : OexC K C
  a : ExcC K C
section
variable {X : Cx} {CX : CXT} {x : Str} {C fI : Addr} {k : Nat} {fd : FuncData} {ps : List Str} {sp : Sp} {p pos : Pos} {e : Expr} {es : List Expr} {ta : TA}
/-- C(e, ..) as a value -/
def tMkX (C : Addr) (sp : Sp) (ta : TA) : TE := fun σ H Q => ta σ H fun vs H1 => vs.length ≤ 1000 ∧ ∀ a, H1 a = none → sp (.ref a :: vs) (upd H1 a (exo a C none))
  (fun v H2 => v = .non ∧ ∃ (d : Addr) (fs : List (Str × V)), H2 a = some (exo a C (some d)) ∧ H2 d = some (exd d fs) ∧ Q (.ref a) (upd (upd H2 a (exq a C d)) d (.xd fs))) (fun _ _ _ => False)
theorem made {pins : List (Addr × Obj)} {σ : Sg} {H1 : Hp} {s : Shared} {Q : VK} {us : List Value} {vs : List V} (T : OexC X.K C) (iC : PySem.W.findIn X.K (.ref C) "__init__" = some (some (.ref fI))) (tI : PySem.W.typeIn X.K (.ref fI) = some (.type "function"))
    (F1 : FnOk X.prog X.w X.K X.mg X.base CX k fI fd ps sp) (hr : Room (k + 1) X.A) (hb : Binds X.K fd ps []) (hx : Passes CX X (fun _ _ _ => False)) (I1 : L2.Inv X pins σ H1 s) (r1 : Vals vs us) (hz : vs.length ≤ 1000)
    (q1 : ∀ a, H1 a = none → sp (.ref a :: vs) (upd H1 a (exo a C none)) (fun v H2 => v = .non ∧ ∃ (d : Addr) (fs : List (Str × V)), H2 a = some (exo a C (some d)) ∧ H2 d = some (exd d fs) ∧ Q (.ref a) (upd (upd H2 a (exq a C d)) d (.xd fs))) (fun _ _ _ => False)) :
    wpAny (model X.prog X.w) X.A (call (.ref C) us) (EP X pins σ Q) X.xe s := by
  obtain ⟨nm, q, N, bs, bm, sn, sub, ab, col, dd, k0, k1, k2, k3, k5, hC, hbm⟩ := T.cls
  obtain ⟨hp, g, dr, tk, os⟩ := s
  have nw : H1 (hp.objs.size + 1) = none := I1.hok.fresh (Nat.le_succ _)
  have want := q1 _ nw
  have keep2 : ∀ b o, hp.get? b = some o → ((hp.push (PySem.W.kdv_tup us)).push (PySem.HandSPX.excO C hp.objs.size)).get? b = some o := by
    intro b o e
    exact Heap.get?_push_of_some _ (Heap.get?_push_of_some _ e)
  have there : ((hp.push (PySem.W.kdv_tup us)).push (PySem.HandSPX.excO C hp.objs.size)).get? (hp.objs.size + 1) = some (PySem.HandSPX.excO C hp.objs.size) := by heap_get
  have I2 : L2.Inv X pins σ (upd H1 (hp.objs.size + 1) (exo (hp.objs.size + 1) C none)) ⟨(hp.push (PySem.W.kdv_tup us)).push (PySem.HandSPX.excO C hp.objs.size), g, dr, tk, os⟩ :=
    I1.laid (t' := tk) keep2 (Nat.le_succ _) (exo_ok there)
  have r2 : Vals (V.ref (hp.objs.size + 1) :: vs) (Value.ref (hp.objs.size + 1) :: us) := .cons rfl r1
  have cnt : (Value.ref (hp.objs.size + 1) :: us).length = ps.length := by rw [← r2.length]; exact F1.len _ _ _ _ want
  have few : us.length ≤ sizeLine := by
    have := Paired.length r1
    rw [sizeLine_eq]
    omega
  have bd := hb _ (Value.ref (hp.objs.size + 1) :: us) I2.kIn (by rw [List.append_nil]; exact cnt)
  rw [List.append_nil] at bd
  refine wpAny_call (PySem.HandSPX.call_own F.excBase_ValueError (fun Y => PySem.HandSPX.refsVE_contains Y bm hbm) (I1.kIn _ _ hC) (PySem.W.looks_findIn I1.kIn iC) (fun self => PySem.W.bind_fn I1.kIn self tI) few ?_)
  refine codeAny_mono (F1.run _ X.stack _ _ ⟨Value.ref (hp.objs.size + 1) :: us, []⟩ (Value.ref (hp.objs.size + 1) :: us) _ _ (fun _ _ _ => False) (hr.make C us []) (I2.env0.make C us []) bd r2 want) fun o s' z => ?_
  match o, z with
  | .error er, z => exact hx pins σ _ _ er s' I2 z
  | .ok .next, z => exact False.elim z
  | .ok .brk, z => exact False.elim z
  | .ok .cont, z => exact False.elim z
  | .ok (.ret u), z =>
    obtain ⟨v, H2, os2, bare2, un2, ok2, rv, ev, d, fs, ea, ed, qq⟩ := z
    subst ev
    refine ⟨rv, ?_⟩
    obtain ⟨h2, g2, d2, t2, os'⟩ := s'
    have os2' : os' = os := os2
    subst os2'
    have J : L2.Inv X pins σ H2 ⟨h2, g2, d2, t2, os'⟩ := I2.call (h' := h2) (g' := g2) (d' := d2) (t' := t2) (ch := []) un2 ok2 bare2 (fun b z => absurd z (by simp))
    obtain ⟨t0, hoe⟩ := exo_at J.hok ea
    obtain ⟨mA, hns, rel⟩ := exd_at J.hok ed
    have nd : d ≠ hp.objs.size + 1 := fun z => by
      obtain ⟨o, es', ep, e1, e2, _⟩ := hns
      rw [z] at e1
      have e3 := hoe.symm.trans e1
      cases e3
      cases e2
    have J2 := Inv.retell (o := exq (hp.objs.size + 1) C d) J ea True.intro (exq_ok hoe ⟨rfl, rfl⟩ rfl)
    have J3 := Inv.retell (o := .xd fs) (u := exd d fs) J2 (by rw [upd_ne nd]; exact ed) True.intro ⟨mA, hns, rel⟩
    exact ⟨.ref _, _, J3, rfl, qq⟩
theorem pe_mkX (T : OexC X.K C) (iC : PySem.W.findIn X.K (.ref C) "__init__" = some (some (.ref fI))) (tI : PySem.W.typeIn X.K (.ref fI) = some (.type "function"))
    (F1 : FnOk X.prog X.w X.K X.mg X.base CX k fI fd ps sp) (hr : Room (k + 1) X.A) (hb : Binds X.K fd ps []) (hx : Passes CX X (fun _ _ _ => False)) (hm : X.mg x = some (.ref C)) (ha : PA X (e :: es) ta) (hg : Gl X x := by rfl)
    (hdb : (x == ("__debug__" : Str)) = false := by decide) (he : starEach (e :: es) X.env = (false, eval e X.env) :: starEach es X.env := by rfl) (hpl : (backTo pos (starEach es X.env)).any (·.1) = false := by rfl) :
    PE X (.Call (.Name x p) (e :: es) [] pos) (tMkX C sp ta) := by
  constructor
  intro pins s σ H Q I h
  refine wpAny_Call_Name_kw (ld_glob I hg hm ?_ hdb)
  refine PySem.W.callWith_K (h₀ := X.base) I.ok.mod.kin T.kC (thn (ha.run pos pins s σ H _ I h) fun us s1 z => ?_) he hpl
  obtain ⟨vs, H1, I1, r1, hz, q1⟩ := z
  exact ⟨I1.kIn, made T iC tI F1 hr hb hx I1 r1 hz q1⟩
/-- e.f, e an exception that is tracked -/
def tXa (K : PySem.W.Frag) (f : Str) (te : TE) : TE := fun σ H Q => te σ H fun v H1 => ∃ (a C d : Addr) (fs : List (Str × V)) (y : V), v = .ref a ∧ H1 a = some (exq a C d) ∧ H1 d = some (.xd fs) ∧ ExcC K C ∧ PySem.W.findIn K (.ref C) f = some none ∧ fs.lookup f = some y ∧ Q y H1
theorem pe_xa {te : TE} {f : Str} (he : PE X e te) (hb : attributeBase e f X.env (eval e X.env) = eval e X.env := by rfl) : PE X (.Attribute e f pos) (tXa X.K f te) := by
  constructor
  intro pins s σ H Q I h
  refine attr_of hb (thn (he.run pins s σ H _ I h) fun u s1 z => ?_)
  obtain ⟨v, H1, I1, rv, a, C, d, fs, y, rfl, ea, ed, T, hno, l, q⟩ := z
  obtain rfl : u = Value.ref a := rv
  obtain ⟨oe, fv, h1, hz, hf⟩ := exq_at I1.hok ea
  have hx : ObjOk X.prog X.w H1 s1.heap d (.xd fs) := I1.hok d _ ed
  obtain ⟨mA, hns, rel⟩ := hx
  obtain ⟨od, ho, hl⟩ := lookIn_ns hns
  obtain ⟨u, hu, ru⟩ := RelO.some_of (v := y) (o := mA f) (by rw [← l]; exact rel f)
  have J : PySem.W.InstAt s1.heap a oe C (some od) := { at_ := h1, cls := hz.1, no := by unfold PySem.W.notCls; rw [hf] <;> rfl, dict := by rw [hz.2]; exact ho }
  exact HandSPX.exc_get I1.kIn J T.hg T.hk T.hs (PySem.W.findObj_own T.hd hno rfl (by rw [hl, hu])) (handed_of ru) ⟨y, H1, I1.tok _, ru, q⟩
end
end TSx

/-! Own layer, part 3k: an exception class called by keywords. -/
namespace TSx
open PySem PySem.HandSPX PySem.Spec Builtin Builtin.ObjectAttr
section
variable {prog : Program} {w : World} {A : Around} {E : Value → Shared → Prop} {R : Result → Shared → Prop} {h : Heap} {g : Array GenState} {d : Drawn} {t : Nat} {os : OsState}
variable {nm q : Str} {C N : Addr} {bs bm bmB : List Value} {sn : List Str} {sub : List Value} {ab : Bool} {col : Option Bool} {dd : Option Addr} {k0 k1 k2 k3 k5 : Option Value} {B newId initId : String} {kw : List (Str × Value)}
theorem kw_check_new {M : Model} (F : ExcBaseFacts B newId initId bmB) (hT : ∀ X : String, bm.contains (.type X) = bmB.contains (.type X)) {Q : Unit → Shared → Prop}
    (hC : h.get? C = some (excClassObj nm q C N bs bm true sn sub ab col dd k0 k1 k2 k3 k5 newId)) (hq : Q () ⟨h, g, d, t, os⟩) :
    wpAny M A (checkBuiltinCall newId ⟨[.ref C], kw⟩) Q E ⟨h, g, d, t, os⟩ := by
  have c1 : (Value.ref C :: bm).contains (.type B) = true := by rw [List.contains_cons, hT, F.hasB, Bool.or_true]
  have c2 := F.noStar
  simp only [checkBuiltinCall, F.newKind, F.newSplit, F.newRow]
  repeat (first
    | refine wpAny_loadPart_at hC ?_
    | (refine wpAny_isSubtype_exc hC ?_; rw [c1])
    | refine wpAny_staticBase_exc hC ?_
    | refine wpAny_madeBy_exc hC ?_
    | simp only [bne_self_eq_false, Bool.false_eq_true, if_false]
    | wp_step)
  exact hq
theorem kw_new (F : ExcBaseFacts B newId initId bmB) (hT : ∀ X : String, bm.contains (.type X) = bmB.contains (.type X))
    (hC : h.get? C = some (excClassObj nm q C N bs bm true sn sub ab col dd k0 k1 k2 k3 k5 newId))
    (hq : R (.ok (.ret (.ref (h.objs.size + 1)))) ⟨(h.push (W.kdv_tup [])).push (excO C h.objs.size), g, d, t, os⟩) :
    codeAny (model prog w) A (.builtin newId ⟨[.ref C], kw⟩) R ⟨h, g, d, t, os⟩ := by
  have e1 := F.ends
  have c1 : (Value.ref C :: bm).contains (.type B) = true := by rw [List.contains_cons, hT, F.hasB, Bool.or_true]
  have c2 : (Value.ref C :: bm).contains (.type "AttributeError") = false := by rw [List.contains_cons, hT, F.noAttr]; rfl
  have c3 : (Value.ref C :: bm).contains (.type "NameError") = false := by rw [List.contains_cons, hT, F.noName]; rfl
  have few : ([] : List Value).length ≤ sizeLine := Nat.zero_le _
  refine codeAny_builtinAt F.entry ?_
  unfold Builtin.«BaseException.__new__»
  refine wpAt_bind ?_
  show wpAt _ _ _ (stack >>= _) _ _ _
  refine wpAt_bind (wpAt_stack fun p below => wpAt_of_wpAny ?_)
  wp_walk
  refine wpAt_of_wpAny ?_
  rw [F.owner]
  repeat (first
    | with_reducible refine wpAny_madeHere_exc F.canon hC ?_
    | with_reducible refine wpAny_loadPart_at hC ?_
    | (with_reducible refine wpAny_isSubtype_exc hC ?_; first | rw [c1] | rw [c2] | rw [c3])
    | wp_step)
  show R _ _
  rw [Heap.size_push]
  exact hq
theorem kw_type_call (F : ExcBaseFacts B newId initId bmB) (hT : ∀ X : String, bm.contains (.type X) = bmB.contains (.type X)) {fI : Addr} {Q : Fin → Shared → Prop}
    (hC : h.get? C = some (excClassObj nm q C N bs bm true sn sub ab col dd k0 k1 k2 k3 k5 newId))
    (hi : W.Looks (model prog w) h (typeLookup (.ref C) "__init__") (some (.ref fI))) (hb : ∀ self, W.Looks (model prog w) h (bindSpecial (.ref fI) self) (.ref fI, [self]))
    (hq : codeAny (model prog w) A (.call (.ref fI) ⟨[.ref (h.objs.size + 1)], kw⟩)
      (fun r s' => match r with | .ok (.ret v) => v = .none ∧ Q (.done (.ret (.ref (h.objs.size + 1)))) s' | .ok _ => False | .error e => E e s')
      ⟨(h.push (W.kdv_tup [])).push (excO C h.objs.size), g, d, t, os⟩) :
    wpAny (model prog w) A (Builtin.«type.__call__» ⟨[.ref C], kw⟩) Q E ⟨h, g, d, t, os⟩ := by
  repeat (first
    | with_reducible refine wpAny_loadPart_at hC ?_
    | with_reducible refine wpAny_madeBy_exc hC ?_
    | wp_step)
  refine codeAny_call_builtin_code (Code.quiet_builtin _ F.quiet) (kw_check_new F hT hC ?_)
  refine kw_new F hT hC ?_
  show wpAny _ _ _ _ _ _
  have k : ∀ b o, h.get? b = some o → ((h.push (W.kdv_tup [])).push (excO C h.objs.size)).get? b = some o := fun b o e => Heap.get?_push_of_some _ (Heap.get?_push_of_some _ e)
  have hC1 := k _ _ hC
  have at1 : ((h.push (W.kdv_tup [])).push (excO C h.objs.size)).get? (h.objs.size + 1) = some (excO C h.objs.size) := by heap_get
  have own : (Value.ref C :: bm).contains (.ref C) = true := by simp
  have i1 := hi.keeps k
  have b1 := (hb (.ref (h.objs.size + 1))).keeps k
  unfold isInstance
  repeat (first
    | with_reducible refine wpAny_loadPart_at at1 ?_
    | (with_reducible refine wpAny_isSubtype_exc hC1 ?_; rw [own])
    | wp_step)
  show wpAny _ _ (typeLookup (.ref C) _) _ _ _
  refine i1.at (wpAny_holding (wpAny_bind (b1.at (wpAny_bind (wpAny_call (codeAny_mono hq fun r s' z => ?_))))))
  match r, z with
  | .error _, z => exact z
  | .ok .next, z => exact z.elim
  | .ok .brk, z => exact z.elim
  | .ok .cont, z => exact z.elim
  | .ok (.ret v), z =>
    obtain ⟨rfl, z⟩ := z
    first
      | exact wpAny_pure (wpAny_pure z)
      | (wp_walk; exact z)
theorem kw_check_call {M : Model} {Q : Unit → Shared → Prop} (hC : h.get? C = some (excClassObj nm q C N bs bm true sn sub ab col dd k0 k1 k2 k3 k5 newId)) (hq : Q () ⟨h, g, d, t, os⟩) :
    wpAny M A (checkBuiltinCall "type.__call__" ⟨[.ref C], kw⟩) Q E ⟨h, g, d, t, os⟩ := by
  have f3 := tc_sub
  have ty : (⟨h, g, d, t, os⟩ : Shared).TypeIs (.ref C) "type" := ⟨_, hC, rfl⟩
  simp only [checkBuiltinCall, tc_kind, tc_split]
  repeat (any_goals (first
    | assumption
    | with_reducible refine wpAny_loadPart_at hC ?_
    | with_reducible refine wpAny_onRaise ?_
    | with_reducible refine wpAny_map ?_
    | wp_step))
theorem kw_call (F : ExcBaseFacts B newId initId bmB) (hT : ∀ X : String, bm.contains (.type X) = bmB.contains (.type X)) {fI : Addr}
    (hC : h.get? C = some (excClassObj nm q C N bs bm true sn sub ab col dd k0 k1 k2 k3 k5 newId))
    (hi : W.Looks (model prog w) h (typeLookup (.ref C) "__init__") (some (.ref fI))) (hb : ∀ self, W.Looks (model prog w) h (bindSpecial (.ref fI) self) (.ref fI, [self]))
    (hq : codeAny (model prog w) (A.under (.builtin "type.__call__" ⟨[.ref C], kw⟩)) (.call (.ref fI) ⟨[.ref (h.objs.size + 1)], kw⟩) (W.InitBack (h.objs.size + 1) R)
      ⟨(h.push (W.kdv_tup [])).push (excO C h.objs.size), g, d, t, os⟩) :
    codeAny (model prog w) A (.call (.ref C) ⟨[], kw⟩) R ⟨h, g, d, t, os⟩ := by
  have f1 := tc_lookup
  have f2 := tc_bind (.ref C)
  have ty : (⟨h, g, d, t, os⟩ : Shared).TypeIs (.ref C) "type" := ⟨_, hC, rfl⟩
  refine codeAny_of_tree ?_
  show wpAny _ _ (callAny (.ref C) _) _ _ _
  repeat (any_goals (first
    | assumption
    | with_reducible refine wpAny_loadPart_at hC ?_
    | wp_step))
  refine ⟨rfl, ?_⟩
  refine codeAny_call_builtin_at (Code.quiet_builtin _ (by decide +kernel)) entry_typeCall (kw_check_call hC (kw_type_call F hT hC hi hb ?_))
  refine codeAny_mono hq fun r s' z => ?_
  rcases r with e | (v | _ | _ | _) <;> exact z
end
end TSx

/-! Own layer, part 4: exceptions by keywords, isinstance of them, a try that keeps what it caught. -/
namespace TSx
open PySem L2 PySem.Spec PyProof.Rows
/-- how keywords alone bind behind self -/
structure KwB (fd : FuncData) (ps ks : List Str) (g : List Value → List Value) (gV : List V → List V) : Prop where
  to : ∀ (s : Shared) (self : Value) (ws : List Value), ws.length = ks.length → BindsTo s fd ⟨[self], ks.zip ws⟩ (ps.zip (self :: g ws))
  rel : ∀ {zs : List V} {ws : List Value}, Vals zs ws → Vals (gV zs) (g ws)
section
variable {X : Cx} {CX : CXT} {x : Str} {C fI : Addr} {k : Nat} {fd : FuncData} {ps ks : List Str} {sp : Sp} {p pos : Pos} {kws : List Keyword} {tk : TA} {g : List Value → List Value} {gV : List V → List V}
/-- C(f = e, ..) as a value -/
def tMkK (C : Addr) (m : Nat) (sp : Sp) (gV : List V → List V) (tk : TA) : TE := fun σ H Q => tk σ H fun zs H1 => zs.length = m ∧ ∀ a, H1 a = none → sp (.ref a :: gV zs) (upd H1 a (exo a C none))
  (fun v H2 => v = .non ∧ ∃ (d : Addr) (fs : List (Str × V)), H2 a = some (exo a C (some d)) ∧ H2 d = some (exd d fs) ∧ Q (.ref a) (upd (upd H2 a (exq a C d)) d (.xd fs))) (fun _ _ _ => False)
theorem madeK {pins : List (Addr × Obj)} {σ : Sg} {H1 : Hp} {s : Shared} {Q : VK} {ws : List Value} {zs : List V} (T : OexC X.K C) (iC : PySem.W.findIn X.K (.ref C) "__init__" = some (some (.ref fI))) (tI : PySem.W.typeIn X.K (.ref fI) = some (.type "function"))
    (F1 : FnOk X.prog X.w X.K X.mg X.base CX k fI fd ps sp) (hr : Room (k + 1) X.A) (hb : KwB fd ps ks g gV) (hx : Passes CX X (fun _ _ _ => False)) (I1 : L2.Inv X pins σ H1 s) (r1 : Vals zs ws) (hz : zs.length = ks.length)
    (q1 : ∀ a, H1 a = none → sp (.ref a :: gV zs) (upd H1 a (exo a C none)) (fun v H2 => v = .non ∧ ∃ (d : Addr) (fs : List (Str × V)), H2 a = some (exo a C (some d)) ∧ H2 d = some (exd d fs) ∧ Q (.ref a) (upd (upd H2 a (exq a C d)) d (.xd fs))) (fun _ _ _ => False)) :
    wpAny (model X.prog X.w) X.A (call (.ref C) [] (ks.zip ws)) (EP X pins σ Q) X.xe s := by
  obtain ⟨nm, q, N, bs, bm, sn, sub, ab, col, dd, k0, k1, k2, k3, k5, hC, hbm⟩ := T.cls
  obtain ⟨hp, gs, dr, tk, os⟩ := s
  have nw : H1 (hp.objs.size + 1) = none := I1.hok.fresh (Nat.le_succ _)
  have want := q1 _ nw
  have keep2 : ∀ b o, hp.get? b = some o → ((hp.push (PySem.W.kdv_tup [])).push (PySem.HandSPX.excO C hp.objs.size)).get? b = some o := by
    intro b o e
    exact Heap.get?_push_of_some _ (Heap.get?_push_of_some _ e)
  have there : ((hp.push (PySem.W.kdv_tup [])).push (PySem.HandSPX.excO C hp.objs.size)).get? (hp.objs.size + 1) = some (PySem.HandSPX.excO C hp.objs.size) := by heap_get
  have I2 : L2.Inv X pins σ (upd H1 (hp.objs.size + 1) (exo (hp.objs.size + 1) C none)) ⟨(hp.push (PySem.W.kdv_tup [])).push (PySem.HandSPX.excO C hp.objs.size), gs, dr, tk, os⟩ :=
    I1.laid (t' := tk) keep2 (Nat.le_succ _) (exo_ok there)
  have r2 : Vals (V.ref (hp.objs.size + 1) :: gV zs) (Value.ref (hp.objs.size + 1) :: g ws) := .cons rfl (hb.rel r1)
  have bd := hb.to ⟨(hp.push (PySem.W.kdv_tup [])).push (PySem.HandSPX.excO C hp.objs.size), gs, dr, tk, os⟩ (Value.ref (hp.objs.size + 1)) ws (by rw [← r1.length]; exact hz)
  refine wpAny_call (kw_call F.excBase_ValueError (fun Y => PySem.HandSPX.refsVE_contains Y bm hbm) (I1.kIn _ _ hC) (PySem.W.looks_findIn I1.kIn iC) (fun self => PySem.W.bind_fn I1.kIn self tI) ?_)
  refine codeAny_mono (F1.run _ X.stack _ _ ⟨[Value.ref (hp.objs.size + 1)], ks.zip ws⟩ (Value.ref (hp.objs.size + 1) :: g ws) _ _ (fun _ _ _ => False) (hr.make C [] (ks.zip ws)) (I2.env0.make C [] (ks.zip ws)) bd r2 want) fun o s' z => ?_
  match o, z with
  | .error er, z => exact hx pins σ _ _ er s' I2 z
  | .ok .next, z => exact False.elim z
  | .ok .brk, z => exact False.elim z
  | .ok .cont, z => exact False.elim z
  | .ok (.ret u), z =>
    obtain ⟨v, H2, os2, bare2, un2, ok2, rv, ev, d, fs, ea, ed, qq⟩ := z
    subst ev
    refine ⟨rv, ?_⟩
    obtain ⟨h2, g2, d2, t2, os'⟩ := s'
    have os2' : os' = os := os2
    subst os2'
    have J : L2.Inv X pins σ H2 ⟨h2, g2, d2, t2, os'⟩ := I2.call (h' := h2) (g' := g2) (d' := d2) (t' := t2) (ch := []) un2 ok2 bare2 (fun b z => absurd z (by simp))
    obtain ⟨t0, hoe⟩ := exo_at J.hok ea
    obtain ⟨mA, hns, rel⟩ := exd_at J.hok ed
    have nd : d ≠ hp.objs.size + 1 := fun z => by
      obtain ⟨o, es', ep, e1, e2, _⟩ := hns
      rw [z] at e1
      have e3 := hoe.symm.trans e1
      cases e3
      cases e2
    have J2 := Inv.retell (o := exq (hp.objs.size + 1) C d) J ea True.intro (exq_ok hoe ⟨rfl, rfl⟩ rfl)
    have J3 := Inv.retell (o := .xd fs) (u := exd d fs) J2 (by rw [upd_ne nd]; exact ed) True.intro ⟨mA, hns, rel⟩
    exact ⟨.ref _, _, J3, rfl, qq⟩
theorem pe_mkK (T : OexC X.K C) (iC : PySem.W.findIn X.K (.ref C) "__init__" = some (some (.ref fI))) (tI : PySem.W.typeIn X.K (.ref fI) = some (.type "function"))
    (F1 : FnOk X.prog X.w X.K X.mg X.base CX k fI fd ps sp) (hr : Room (k + 1) X.A) (hb : KwB fd ps ks g gV) (hx : Passes CX X (fun _ _ _ => False)) (hm : X.mg x = some (.ref C)) (hkw : PK X kws tk) (hg : Gl X x := by rfl)
    (hall : (backToKw pos (keywordEach kws X.env)).all (·.1.isSome) = true := by rfl) (hks : (backToKw pos (keywordEach kws X.env)).filterMap (·.1) = ks := by rfl) (hdb : (x == ("__debug__" : Str)) = false := by decide)
    (hpl : ((backTo pos (starEach [] X.env)).any (·.1) || (backToKw pos (keywordEach kws X.env)).any (·.1.isNone)) = false := by rfl) :
    PE X (.Call (.Name x p) [] kws pos) (tMkK C ks.length sp gV tk) := by
  constructor
  intro pins s σ H Q I h
  refine wpAny_Call_Name_kw (ld_glob I hg hm ?_ hdb)
  refine PySem.W.callWith_KW0 (h₀ := X.base) I.ok.mod.kin T.kC hall ?_ hpl
  refine thn (hkw.run pos pins s σ H _ I h) fun ws s2 z => ?_
  obtain ⟨zs, H2, I2, rz, l, q2⟩ := z
  refine ⟨I2.kIn, ?_⟩
  rw [hks]
  exact madeK T iC tI F1 hr hb hx I2 rz l q2
end

/-- isinstance(e, c), e a tracked exception -/
def rIsX (K : PySem.W.Frag) : List V → Hp → VK → Prop := fun xs H Q => ∃ (a C d : Addr) (fs : List (Str × V)) (c : V) (cv : Value) (b : Bool), xs = [.ref a, c] ∧ H a = some (exq a C d) ∧ H d = some (.xd fs) ∧ ExcC K C ∧ (∀ u, RelV c u → u = cv) ∧ PySem.W.kitOne K (.ref C) cv = some b ∧ Q (.bl b) H
theorem call_isX {X : Cx} : CallR X (.builtin "isinstance") (rIsX X.K) := by
  intro pins s σ H xs us Q I r h
  obtain ⟨a, C, d, fs, c, cv, b, rfl, ea, ed, T, hc, e, q⟩ := h
  obtain ⟨u1, u2, rfl, r1, r2⟩ := vals2 r
  cases (show u1 = Value.ref a from r1)
  have e2 := hc _ r2
  subst e2
  obtain ⟨oe, fv, h1, hz, hf⟩ := exq_at I.hok ea
  have hx : ObjOk X.prog X.w H s.heap d (.xd fs) := I.hok d _ ed
  obtain ⟨mA, hns, rel⟩ := hx
  obtain ⟨od, ho, hl⟩ := lookIn_ns hns
  have J : PySem.W.InstAt s.heap a oe C (some od) := { at_ := h1, cls := hz.1, no := by unfold PySem.W.notCls; rw [hf] <;> rfl, dict := by rw [hz.2]; exact ho }
  have isC : (PySem.W.clsIn X.K C).isSome = true := by
    obtain ⟨cd, hcd, _⟩ := PySem.W.any_some T.hd
    rw [hcd]
    rfl
  exact PySem.W.kia_one (PySem.W.kitx_exc isC T.hg T.hk T.hs T.ha T.hn T.ht T.hm) I.kIn J e (fun z => nomatch z) fun tk => ⟨.bl b, H, I.kept (t' := tk) fun _ _ z => z, rfl, q⟩
end TSx

/-! Own layer, part 5: try .. except C as n: the caught exception stays tracked behind the suite. -/
namespace TSx
open PySem L2 PySem.Spec PyProof.Rows
/-- what the clauses wish of an exception of the body: (class, slot of the name, suite) one after the other -/
def wT (K : PySem.W.Frag) (Wout : WX) (D : Ends) : List (Value × Nat × TS) → WX
  | [] => Wout
  | (c, i, ts) :: r => fun cls d σ H => ∃ b, PySem.W.exmOne K cls c = some b ∧
      (b = true → ∃ (C dd : Addr), cls = .ref C ∧ d = some dd ∧ ∀ a, H a = none → ts { nx := fun σ' H' => D.nx (σ'.set i none) H', rt := D.rt, bk := fun σ' H' => D.bk (σ'.set i none) H', ct := fun σ' H' => D.ct (σ'.set i none) H' } (σ.set i (some (.ref a))) (upd H a (exq a C dd))) ∧
      (b = false → wT K Wout D r cls d σ H)
inductive Hds (X : Cx) : List ExceptHandler → List (Value × Nat × TS) → Prop
  | nil : Hds X [] []
  | cons {x n : Str} {c : Value} {i : Nat} {ts : TS} {b₀ : Stmt} {suite : List Stmt} {np pos' : Pos} {hds : List ExceptHandler} {l : List (Value × Nat × TS)} (hc : Names X x c) (hi : X.N[i]? = some n) (hln : X.env.kindOf n = some .local)
      (hsu : ∀ (a : Addr) (pn : List (Addr × Obj)), PSs (X.suite a pn) (b₀ :: suite) ts) (r : Hds X hds l) :
      Hds X (.ExceptHandler (some (.Name x np)) (some n) (b₀ :: suite) pos' :: hds) ((c, i, ts) :: l)
theorem suite_in {X : Cx} {pins : List (Addr × Obj)} {σ : Sg} {H : Hp} {s : Shared} (I : L2.Inv X pins σ H s) (a : Addr) : L2.Inv (X.suite a (X.pn ++ pins)) [] σ H s :=
  ⟨I.ok.suite _ _, I.os, I.bare, I.base, I.loc, I.cell, I.free, I.freeC, fun p hp => I.pin p (by rw [List.append_nil] at hp; exact hp), I.hok, I.len⟩
theorem suite_out {X : Cx} {pins pn' : List (Addr × Obj)} {σ : Sg} {H : Hp} {s : Shared} {a : Addr} (I : L2.Inv (X.suite a (X.pn ++ pins)) pn' σ H s) (ok : X.Ok) : L2.Inv X pins σ H s :=
  ⟨ok, I.os, I.bare, I.base, I.loc, I.cell, I.free, I.freeC, fun p hp => I.pin p (List.mem_append_left _ hp), I.hok, I.len⟩
section
variable {X : Cx} {body : List Stmt} {h₀ : ExceptHandler} {hds : List ExceptHandler} {l : List (Value × Nat × TS)} {pos : Pos} {tb : WX → TS} {Wout : WX}
theorem ps_tryT (hs : X.stack = X.env :: X.outer) (hf : X.env.frame = some X.env.locals) (hN : X.N.Nodup) (hex : X.ex = []) (tk : Takes X Wout)
    (hb : ∀ (W : WX) (pn : List (Addr × Obj)) (xe : Value → Shared → Prop), Takes (X.tr pn xe) W → PassesOwn (model X.prog X.w) X.A X.env xe → PSs (X.tr pn xe) body (tb W))
    (hh : Hds X (h₀ :: hds) l) : PS X (.Try body (h₀ :: hds) [] [] pos) (fun D σ H => tb (wT X.K Wout D l) D σ H) := by
  constructor
  intro pins s σ H D I h
  have ok := I.ok
  have fr : X.A.frames = some (X.env :: X.outer) := by rw [ok.frames, hs]
  refine wpAny_Try_except ?_
  refine wpAny_mono ((hb (wT X.K Wout D l) (X.pn ++ pins) (fun e s₁ => wpAny (model X.prog X.w) X.A (noteFrame e X.env) (fun _ s₂ => wpAny (model X.prog X.w) X.A (setFlight e none) (fun _ s₃ =>
    wpAny (model X.prog X.w) X.A (handleBy e X.env (h₀ :: hds)) (SP X pins D) X.xe s₃) X.xe s₂) X.xe s₁) (fun u s' xx => ?_) PassesOwn.looking).run [] s σ H D (I.toTry _) h) (fun f s1 hsp => ?_) (fun e s1 he => he)
  · obtain ⟨a, B, sI, pins', σ', H', cls, d, rfl, J', nb, up, sky, na, os, ag, w⟩ := xx
    have J : L2.Inv X pins σ' H' sI := J'.ofTry ok
    have sky2 : Sky B (X.env :: X.outer) a (Zc cls d) X.env.locals s'.heap := by rw [← hs]; exact sky
    show wpAny (model X.prog X.w) X.A (noteFrame (.ref a) X.env) _ _ _
    refine Sky.land Zc.steady fr hf sky2 fun h3 fl3 up3 => ?_
    have J3 : L2.Inv X pins σ' H' { s' with heap := h3 } := J.landed nb fl3.1 (up.trans up3) os ag
    obtain ⟨oe3, vs3, he3, hz3, hd3⟩ := fl3.there
    have nfr : a ∉ frs (X.env :: X.outer) := fun hm => by
      obtain ⟨_, o', e', hnf⟩ := fl3.2.2.1.mem hm
      rw [he3] at e'
      cases e'
      exact hnf _ hd3
    have nL : a ≠ X.env.locals := fun z => nfr (List.mem_filterMap.mpr ⟨X.env, List.mem_cons_self, by rw [hf, z]⟩)
    have nI : sI.heap.get? a = none := by
      cases q : sI.heap.get? a with
      | none => rfl
      | some o =>
        have z := nb a o q (by rw [hs]; exact nfr)
        rw [fl3.2.1] at z
        cases z
    have n0 : X.s_0.heap.get? a = none := by
      cases q : X.s_0.heap.get? a with
      | none => rfl
      | some o =>
        obtain ⟨o', z⟩ := J.base.there a o q (by rw [hex]; simp)
        rw [nI] at z
        cases z
    have nP : ∀ p ∈ X.pn ++ pins, p.1 ≠ a := fun p hp z => by
      have q := (J.pin p hp).1
      rw [z, nI] at q
      cases q
    have S3 := suite_in J3 a
    have go : ∀ {hds' : List ExceptHandler} {l' : List (Value × Nat × TS)}, Hds X hds' l' → wT X.K Wout D l' cls d σ' H' →
        wpAny (model X.prog X.w) X.A (handleBy (.ref a) X.env hds') (SP X pins D) X.xe { s' with heap := h3 } := by
      intro hds' l' hk
      induction hk with
      | nil =>
        intro w
        refine wpAny_handleBy_nil ?_
        obtain ⟨k1, k2, k3, oe, vs, T, oT, ts', he, hz, hd, h1, hr⟩ := id fl3
        unfold PySem.passOn
        refine wpAny_bind (wpAny_field he hd h1 ?_)
        rw [if_neg (show ¬ ((Value.ref T == Value.none) = true) from by simp)]
        have last : wpAny (model X.prog X.w) X.A (setFlight (.ref a) X.env.frame) (fun _ s4 => wpAny (model X.prog X.w) X.A (throw (.ref a) : Sem Flow) (SP X pins D) X.xe s4) X.xe { s' with heap := h3 } := by
          rw [hf]
          refine HandSPX.setFlight_upZ fl3 fun h4 hh4 up4 => wpAny_throw (tk _ _ ?_)
          exact ⟨a, B, sI, pins, σ', H', cls, d, rfl, J, nb, (up.trans up3).trans up4, .inr (.inr (by rw [hs]; exact hh4)), na, os, ag, w⟩
        first
          | exact wpAny_bind (wpAny_pure (wpAny_bind last))
          | exact wpAny_bind last
      | @cons x n c i ts b₀ suite np pos' hds2 l2 hc hi hln hsu r ih =>
        intro w
        obtain ⟨b, hb1, hyes, hno⟩ := w
        refine wpAny_handleBy_cons (codeAny_handlers_test ?_) (by intro q; cases q)
        have LT : PySem.W.Looks (model X.prog X.w) h3 (typeOf (.ref a)) cls := fun A Q E s k q => wpAny_typeOf_ref (k _ _ he3) (by rw [hz3.1]; exact q)
        have LM := PySem.W.exm_one (M := model X.prog X.w) (J3.kIn) LT hb1
        have ask : ∀ {Q : Value → Shared → Prop} {E : Value → Shared → Prop}, Q c { s' with heap := h3 } → wpAny (model X.prog X.w) (X.A.mark (some (.ref a))) (eval (.Name x np) X.env) Q E { s' with heap := h3 } := fun {Q E} q => by
          obtain ⟨hg, hdbg, hm | ⟨hm, hv, hnn⟩⟩ := hc
          · exact ld_glob (X := X.suite a (X.pn ++ pins)) S3 hg hm q hdbg
          · exact ld_blt (X := X.suite a (X.pn ++ pins)) S3 hg hm hv q hnn hdbg
        refine ask (LM.here ?_)
        cases b with
        | true =>
          obtain ⟨C, dd, rfl, rfl, want⟩ := hyes rfl
          refine codeAny_handlers_suite_as ?_
          refine HandSPX.lands_againZ fl3 fun h4 fl4 up4 => ?_
          have J4 : L2.Inv X pins σ' H' { s' with heap := h4 } := J.landed nb fl4.1 ((up.trans up3).trans up4) os ag
          obtain ⟨oe4, vs4, he4, hz4, hd4⟩ := fl4.there
          have nC : ∀ y c', X.env.cells.lookup y = some c' → c' ≠ a := fun y c' e z => by
            obtain ⟨v, o, ho, hdat⟩ := J4.cell y c' e
            rw [z] at ho
            have ho' : h4.get? a = some o := ho
            rw [he4] at ho'
            cases ho'
            rw [hd4] at hdat
            cases hdat
          have J5 := Inv.track J4 na n0 nL nC nP (exq_ok (C := C) (d := dd) he4 hz4 hd4)
          have S5 := suite_in J5 a
          refine store_ok (X := X.suite a (X.pn ++ pins)) (v := .ref a) S5 hN hi (.inl hln) rfl (fun s6 S6 => ?_) (.inr hln)
          refine wpAny_mono ((hsu a (X.pn ++ pins)).run [] s6 _ _ _ S6 (want a na)) (fun f s7 hsp => ?_) (fun _ _ z => False.elim z)
          have close : ∀ {σ7 : Sg} {H7 : Hp} {Q : Shared → Prop}, L2.Inv (X.suite a (X.pn ++ pins)) [] σ7 H7 s7 → (∀ s8, L2.Inv X pins (σ7.set i none) H7 s8 → Q s8) →
              wpAny (model X.prog X.w) X.A (do bindName X.env n .none; unbindBehindTheSuite X.env n pos') (fun _ s8 => Q s8) X.xe s7 := fun {σ7 H7 Q} S7 hq => gone_ok (suite_out S7 ok) hN hi hln hq
          cases f with
          | next =>
            obtain ⟨σ7, H7, S7, q7⟩ := hsp
            exact close S7 fun s8 J8 => ⟨_, _, J8, q7⟩
          | brk =>
            obtain ⟨σ7, H7, S7, q7⟩ := hsp
            exact close S7 fun s8 J8 => ⟨_, _, J8, q7⟩
          | cont =>
            obtain ⟨σ7, H7, S7, q7⟩ := hsp
            exact close S7 fun s8 J8 => ⟨_, _, J8, q7⟩
          | ret u =>
            obtain ⟨v7, σ7, H7, S7, r7, q7⟩ := hsp
            exact close S7 fun s8 J8 => ⟨_, _, _, J8, r7, q7⟩
        | false =>
          show wpAny _ X.A (handleBy (.ref a) X.env hds2) _ _ _
          exact ih (hno rfl)
    exact go hh w
  · cases f with
    | next =>
      obtain ⟨σ', H', J', q⟩ := hsp
      exact wpAny_execs_nil ⟨σ', H', J'.ofTry ok, q⟩
    | brk =>
      obtain ⟨σ', H', J', q⟩ := hsp
      exact ⟨σ', H', J'.ofTry ok, q⟩
    | cont =>
      obtain ⟨σ', H', J', q⟩ := hsp
      exact ⟨σ', H', J'.ofTry ok, q⟩
    | ret u =>
      obtain ⟨v, σ', H', J', r, q⟩ := hsp
      exact ⟨v, σ', H', J'.ofTry ok, r, q⟩
end
end TSx

/-! Own layer, part 6: repr of data among which dicts stand (their values without parts). -/
namespace TSx
open PySem L2 PySem.Spec PyProof.Rows
/-- a thing without parts, as the library's data -/
def D.s0 : D → PyData
  | .bl b => .bool b
  | .int i => .int i
  | .str x => .str x
  | _ => .none
def pdKey : Key → PyData
  | .inl i => .int i
  | .inr x => .str x
mutual
def D.pd : D → PyData
  | .non => .none
  | .bl b => .bool b
  | .int i => .int i
  | .str x => .str x
  | .lst xs => .list (pdA xs)
  | .tup xs => .tuple (pdA xs)
  | .dic kvs => .dict (kvs.map fun p => (pdKey p.1, p.2.s0))
  | .exc _ _ => .none
def pdA : List D → List PyData
  | [] => []
  | x :: xs => x.pd :: pdA xs
end
def D.flat : D → Bool
  | .non => true
  | .bl _ => true
  | .int _ => true
  | .str _ => true
  | _ => false
mutual
/-- no exception in it, dicts hold things without parts -/
def D.sh : D → Bool
  | .lst xs => shA xs
  | .tup xs => shA xs
  | .dic kvs => kvs.all fun p => p.2.flat
  | .exc _ _ => false
  | _ => true
def shA : List D → Bool
  | [] => true
  | x :: xs => x.sh && shA xs
end
section
variable {P : Program} {w : World} {h : Heap}
/-- the value reads as p and shows as p -/
def Rp (P : Program) (w : World) (h : Heap) (u : Value) (p : PyData) : Prop := (∃ as, Reads h u p as) ∧ ∃ bs, ReadAtMost h p.depth bs ∧ ReprK P w bs h p.depth u p.shown
def RpA (P : Program) (w : World) (h : Heap) (us : List Value) (ps : List PyData) : Prop := (∃ as, ReadsAll h us ps as) ∧ ∃ bs, ReadAtMost h (PyData.depthAll ps) bs ∧ ReprAllK P w bs h (PyData.depthAll ps) us (PyData.shownAll ps)
theorem rpA_nil : RpA P w h [] [] := ⟨⟨_, .nil⟩, [], (fun _ z => nomatch z), by simp only [PyData.shownAll]; exact .nil⟩
theorem rpA_cons {u : Value} {us : List Value} {p : PyData} {ps : List PyData} (a : Rp P w h u p) (b : RpA P w h us ps) : RpA P w h (u :: us) (p :: ps) := by
  obtain ⟨⟨_, r1⟩, xs, m1, k1⟩ := a
  obtain ⟨⟨_, r2⟩, ys, m2, k2⟩ := b
  have e : PyData.depthAll (p :: ps) = max p.depth (PyData.depthAll ps) := by simp only [PyData.depthAll]
  have e2 : PyData.shownAll (p :: ps) = p.shown :: PyData.shownAll ps := by simp only [PyData.shownAll]
  unfold RpA
  rw [e, e2]
  exact ⟨⟨_, .cons r1 r2⟩, xs ++ ys, (m1.mono (Nat.le_max_left ..)).append (m2.mono (Nat.le_max_right ..)), .cons ((k1.more fun b hb => List.mem_append_left _ hb).level_le (Nat.le_max_left ..)) (k2.more_le (fun b hb => List.mem_append_right _ hb) (Nat.le_max_right ..))⟩
/-- what a list's (tuple's, dict's) node wants of its parts -/
theorem rp_node {a : Addr} {p : PyData} {n : Nat} (r : ∃ as, Reads h (.ref a) p as) (e : p.depth = n + 1) {bs : List Addr} (m : ReadAtMost h n bs) : a ∉ bs ∧ ReadAtMost h p.depth (a :: bs) := by
  obtain ⟨_, r⟩ := r
  exact ⟨not_mem_of_deeper r (by rw [e]; exact Nat.lt_succ_self _) m, ReadAtMost.cons r (by rw [e]; exact Nat.le_succ _) m⟩
theorem rp_list {a : Addr} {o : Obj} {its : List Value} {n : Nat} {ps : List PyData} (h1 : h.get? a = some o) (h2 : o.cls = .type "list") (h3 : o.data = .seq its.toArray n) (q : RpA P w h its ps) : Rp P w h (.ref a) (.list ps) := by
  obtain ⟨⟨_, ra⟩, bs, m, k⟩ := q
  have r : ∃ as, Reads h (.ref a) (.list ps) as := ⟨_, .list h1 h2 h3 (by simpa using ra)⟩
  obtain ⟨hn, hm⟩ := rp_node r (by simp only [PyData.depth]) m
  refine ⟨r, a :: bs, hm, ?_⟩
  simp only [PyData.depth, PyData.shown]
  cases its with
  | nil =>
    cases ra
    simp only [PyData.shownAll, listText_nil]
    exact ReprK.listEmpty h1 h2 h3
  | cons x l => exact ReprK.list h1 h2 h3 hn (by have := k.length_eq; simpa using this) fun i y e => k.item i y (by simpa using e)
theorem rp_tuple {a : Addr} {o : Obj} {its : List Value} {n : Nat} {ps : List PyData} (h1 : h.get? a = some o) (h2 : o.cls = .type "tuple") (h3 : o.data = .seq its.toArray n) (q : RpA P w h its ps) : Rp P w h (.ref a) (.tuple ps) := by
  obtain ⟨⟨_, ra⟩, bs, m, k⟩ := q
  have r : ∃ as, Reads h (.ref a) (.tuple ps) as := ⟨_, .tuple h1 h2 h3 (by simpa using ra)⟩
  obtain ⟨hn, hm⟩ := rp_node r (by simp only [PyData.depth]) m
  refine ⟨r, a :: bs, hm, ?_⟩
  simp only [PyData.depth, PyData.shown]
  exact ReprK.tuple h1 h2 h3 hn (by simpa using k)
/-- a dict's entries, keys and values one by one -/
structure RpD (P : Program) (w : World) (h : Heap) (es : List DictEntry) (kvs : List (PyData × PyData)) : Prop where
  r1 : ∃ as, ReadsAll h (es.map (·.key)) (kvs.map (·.1)) as
  r2 : ∃ as, ReadsAll h (es.map (·.val)) (kvs.map (·.2)) as
  k : ∃ bs, ReadAtMost h (PyData.depthKv kvs) bs ∧ ReprEntriesK P w bs h (PyData.depthKv kvs) es (PyData.shownKv kvs)
theorem rpD_nil : RpD P w h [] [] := ⟨⟨_, .nil⟩, ⟨_, .nil⟩, [], (fun _ z => nomatch z), by simp only [PyData.shownKv]; exact .nil⟩
theorem rp_dict {a : Addr} {o : Obj} {es : Array DictEntry} {n : Nat} {kvs : List (PyData × PyData)} (h1 : h.get? a = some o) (h2 : o.cls = .type "dict") (h3 : o.data = .dict es n) (hs : (a == sysModules) = false) (q : RpD P w h es.toList kvs) : Rp P w h (.ref a) (.dict kvs) := by
  obtain ⟨⟨_, r1⟩, ⟨_, r2⟩, bs, m, k⟩ := q
  have r : ∃ as, Reads h (.ref a) (.dict kvs) as := ⟨_, .dict h1 h2 h3 r1 r2⟩
  obtain ⟨hn, hm⟩ := rp_node r (by simp only [PyData.depth]) m
  refine ⟨r, a :: bs, hm, ?_⟩
  simp only [PyData.depth, PyData.shown]
  exact ReprK.dict h1 h2 h3 hs hn k
theorem rp_flat {p : PyData} {u : Value} (r : Reads h u p []) (k : ReprK P w [] h 0 u p.shown) : Rp P w h u p := ⟨⟨_, r⟩, [], (fun _ z => nomatch z), k.level_le (Nat.zero_le _)⟩
end
section
variable {X : Cx} {pins : List (Addr × Obj)} {σ : Sg} {H : Hp} {s : Shared}
theorem rp_non : Rp X.prog X.w s.heap .none .none := rp_flat .none (by simp only [PyData.shown]; exact .of_is ReprIs.none _ _ _)
theorem rp_bl (b : Bool) : Rp X.prog X.w s.heap (.bool b) (.bool b) := rp_flat (.bool b) (by simp only [PyData.shown]; exact .of_is (ReprIs.bool b) _ _ _)
theorem rp_int (i : Int) (t : Tok) (z : (PyData.int i).showable = true) : Rp X.prog X.w s.heap (.int i t) (.int i) := rp_flat (.int i t) (by simp only [PyData.shown]; exact .of_is (ReprIs.int t (by simpa [PyData.showable] using z)) _ _ _)
theorem rp_str (x : Str) (t : Tok) (z : (PyData.str x).shown.length ≤ sizeLine) : Rp X.prog X.w s.heap (.str x t) (.str x) := rp_flat (.str x t) (by simp only [PyData.shown]; exact .of_is (ReprIs.str x t (by simpa only [PyData.shown] using z)) _ _ _)
theorem rp_s0 {d : D} {v : V} {u : Value} (hd : Dt X.K H v d) (r : RelV v u) (f : d.flat = true) (z : d.s0.showable = true) (l : d.s0.shown.length ≤ sizeLine) : Rp X.prog X.w s.heap u d.s0 := by
  cases hd with
  | non => cases r; exact rp_non
  | bl b => cases r; exact rp_bl b
  | int i => obtain ⟨t, rfl⟩ := r; exact rp_int i t z
  | str x => obtain ⟨t, rfl⟩ := r; exact rp_str x t l
  | lst _ _ => cases f
  | tup _ _ => cases f
  | dic _ _ => cases f
  | exc _ _ _ => cases f
theorem rp_key {k : Key} {u : Value} (r : (mixKind X.prog X.w).is k u = true) (z : (pdKey k).showable = true) (l : (pdKey k).shown.length ≤ sizeLine) : Rp X.prog X.w s.heap u (pdKey k) := by
  rcases keyIs_shape (k := k) (v := u) r with ⟨i, t, rfl, rfl⟩ | ⟨x, t, rfl, rfl⟩
  · exact rp_int i t z
  · exact rp_str x t l
theorem rp_ents : ∀ (ds : List (Key × D)) (xs : List (Key × V)) (vs : List (Key × Value)) (es : List DictEntry), DtK X.K H xs ds → KV xs vs → Pairs (mixKind X.prog X.w) es vs → ds.all (fun p => p.2.flat) = true →
    PyData.showableKv (ds.map fun p => (pdKey p.1, p.2.s0)) = true → (∀ t ∈ PyData.shownKv (ds.map fun p => (pdKey p.1, p.2.s0)), t.length ≤ sizeLine) → RpD X.prog X.w s.heap es (ds.map fun p => (pdKey p.1, p.2.s0))
  | [], _, _, _, a, b, c, _, _, _ => by
    cases a
    cases b
    cases c
    exact rpD_nil
  | (k, d) :: ds, _, _, _, a, b, c, f, z, l => by
    cases a with
    | @cons _ v xs _ _ ad ak =>
    cases b with
    | @cons _ y _ ys bd bk =>
    obtain ⟨y1, y2⟩ := y
    obtain ⟨rfl, ry⟩ := bd
    cases c with
    | @cons e _ es _ ck cv cr =>
    simp only [List.all_cons, Bool.and_eq_true] at f
    simp only [List.map_cons, PyData.showableKv, Bool.and_eq_true] at z
    simp only [List.map_cons, PyData.shownKv, List.mem_cons, forall_eq_or_imp] at l
    have lt : ((pdKey k).shown ++ ": " ++ d.s0.shown).length = (pdKey k).shown.length + 2 + d.s0.shown.length := by rw [strLen_append, strLen_append]; rfl
    have l1 : (pdKey k).shown.length ≤ sizeLine := by have := l.1; omega
    have l2 : d.s0.shown.length ≤ sizeLine := by have := l.1; omega
    obtain ⟨⟨_, p1⟩, b1, m1, k1⟩ := rp_key (s := s) (k := k) ck z.1.1 l1
    obtain ⟨⟨_, p2⟩, b2, m2, k2⟩ := rp_s0 (s := s) (u := e.val) ad (by rw [cv]; exact ry) f.1 z.1.2 l2
    obtain ⟨⟨_, r1⟩, ⟨_, r2⟩, b3, m3, k3⟩ := rp_ents ds xs ys es ak bk cr f.2 z.2 l.2
    have dp : PyData.depthKv ((pdKey k, d.s0) :: ds.map fun p => (pdKey p.1, p.2.s0)) = max (max (pdKey k).depth d.s0.depth) (PyData.depthKv (ds.map fun p => (pdKey p.1, p.2.s0))) := by simp only [PyData.depthKv]
    refine ⟨⟨_, .cons p1 r1⟩, ⟨_, .cons p2 r2⟩, b1 ++ (b2 ++ b3), ?_, ?_⟩
    · show ReadAtMost _ (PyData.depthKv ((pdKey k, d.s0) :: ds.map fun p => (pdKey p.1, p.2.s0))) _
      rw [dp]
      exact (m1.mono (by omega)).append ((m2.mono (by omega)).append (m3.mono (by omega)))
    · show ReprEntriesK _ _ _ _ (PyData.depthKv ((pdKey k, d.s0) :: ds.map fun p => (pdKey p.1, p.2.s0))) _ (PyData.shownKv ((pdKey k, d.s0) :: ds.map fun p => (pdKey p.1, p.2.s0)))
      rw [dp]
      simp only [PyData.shownKv]
      refine .cons ((k1.more fun b hb => List.mem_append_left _ hb).level_le (by omega)) ((k2.more fun b hb => List.mem_append_right _ (List.mem_append_left _ hb)).level_le (by omega)) ?_
      have up : ∀ {es : List DictEntry} {ps : List Str}, ReprEntriesK X.prog X.w b3 s.heap (PyData.depthKv (ds.map fun p => (pdKey p.1, p.2.s0))) es ps → ReprEntriesK X.prog X.w (b1 ++ (b2 ++ b3)) s.heap (max (max (pdKey k).depth d.s0.depth) (PyData.depthKv (ds.map fun p => (pdKey p.1, p.2.s0)))) es ps := by
        intro es ps q
        induction q with
        | nil => exact .nil
        | cons x y _ ih => exact .cons ((x.more fun b hb => List.mem_append_right _ (List.mem_append_right _ hb)).level_le (by omega)) ((y.more fun b hb => List.mem_append_right _ (List.mem_append_right _ hb)).level_le (by omega)) ih
      exact up k3
mutual
theorem rpDt (I : L2.Inv X pins σ H s) : ∀ (d : D) (v : V) (u : Value), Dt X.K H v d → RelV v u → d.sh = true → d.pd.showable = true → d.pd.shown.length ≤ sizeLine → Rp X.prog X.w s.heap u d.pd
  | .non, _, _, h, r, _, _, _ => by cases h; cases r; exact rp_non
  | .bl b, _, _, h, r, _, _, _ => by cases h; cases r; exact rp_bl b
  | .int i, _, _, h, r, _, z, _ => by cases h; obtain ⟨t, rfl⟩ := r; exact rp_int i t z
  | .str x, _, _, h, r, _, _, l => by cases h; obtain ⟨t, rfl⟩ := r; exact rp_str x t l
  | .exc _ _, _, _, _, _, f, _, _ => by cases f
  | .lst ds, _, _, h, r, f, z, l => by
    cases h with
    | @lst a xs _ e aa =>
    cases r
    obtain ⟨its, rv, ⟨o, n, ho, hc, _, hd⟩, _⟩ := I.list (SqL.of e)
    have l' : (listText (PyData.shownAll (pdA ds))).length ≤ sizeLine := l
    exact rp_list ho hc hd (rpDtA I ds xs its aa rv f z fun t ht => Nat.le_trans (listText_mem_le ht) l')
  | .tup ds, _, _, h, r, f, z, l => by
    cases h with
    | @tup a xs _ e aa =>
    cases r
    obtain ⟨its, rv, ⟨o, ho, hc, n, hd⟩, _⟩ := I.tuple e
    have l' : (tupleText (PyData.shownAll (pdA ds))).length ≤ sizeLine := l
    exact rp_tuple ho hc hd (rpDtA I ds xs its aa rv f z fun t ht => Nat.le_trans (tupleText_mem_le ht) l')
  | .dic ds, _, _, h, r, f, z, l => by
    cases h with
    | @dic a xs _ e aa =>
    cases r
    obtain ⟨_, lo, vs, rel, o, es, ep, h1, h2, h3, h4, h5, _⟩ := dk_of I.hok e
    have l' : (dictText (PyData.shownKv (ds.map fun p => (pdKey p.1, p.2.s0)))).length ≤ sizeLine := l
    exact rp_dict h1 h2.1 h3 lo (rp_ents ds xs vs es.toList aa rel h5 f z fun t ht => Nat.le_trans (dictText_mem_le ht) l')
theorem rpDtA (I : L2.Inv X pins σ H s) : ∀ (ds : List D) (vs : List V) (us : List Value), DtA X.K H vs ds → Vals vs us → shA ds = true → PyData.showableAll (pdA ds) = true → (∀ t ∈ PyData.shownAll (pdA ds), t.length ≤ sizeLine) → RpA X.prog X.w s.heap us (pdA ds)
  | [], _, _, h, r, _, _, _ => by cases h; cases r; exact rpA_nil
  | d :: ds, _, _, h, r, f, z, l => by
    cases h with
    | cons h1 h2 =>
    cases r with
    | cons r1 r2 =>
    simp only [shA, Bool.and_eq_true] at f
    simp only [pdA, PyData.showableAll, Bool.and_eq_true] at z
    simp only [pdA, PyData.shownAll, List.mem_cons, forall_eq_or_imp] at l
    exact rpA_cons (rpDt I d _ _ h1 r1 f.1 z.1 l.1) (rpDtA I ds _ _ h2 r2 f.2 z.2 l.2)
end
end
/-- what repr can be asked of -/
def D.rd (d : D) : Prop := d.sh = true ∧ d.pd.showable = true ∧ d.pd.shown.length ≤ sizeLine ∧ d.pd.depth ≤ 50
def rReprD (K : PySem.W.Frag) : List V → Hp → VK → Prop := fun xs H Q => ∃ v d, xs = [v] ∧ Dt K H v d ∧ d.rd ∧ Q (.str d.pd.shown) H
theorem call_reprD {X : Cx} (g : X.A.guards = some []) (hu : X.A.units + 64 < cLine) : CallR X (.builtin "repr") (rReprD X.K) := by
  intro pins s σ H xs us Q I r h
  obtain ⟨v, d, rfl, hd, ⟨hp, hs, hz, hdp⟩, q⟩ := h
  obtain ⟨u, rfl, ru⟩ := vals1 r
  have hu2 : X.A.units + (d.pd.depth + 1) < cLine := by omega
  have fin : ∀ h' tk u', (∀ b o, s.heap.get? b = some o → h'.get? b = some o) → EP X pins σ Q (.str d.pd.shown u') { s with heap := h', toks := tk } := fun h' tk u' k => ⟨.str d.pd.shown, H, I.kept k, ⟨u', rfl⟩, q⟩
  have finT : EP X pins σ Q (.str d.pd.shown s.toks) { s with toks := s.toks + 1 } := ⟨.str d.pd.shown, H, I.tok _, ⟨_, rfl⟩, q⟩
  cases hd with
  | non => cases ru; exact PySem.P.repr_of_none finT
  | bl b => cases ru; exact PySem.P.repr_of_bool finT
  | int i =>
    obtain ⟨t, rfl⟩ := ru
    exact PySem.P.repr_of_int (of_decide_eq_true hs) finT
  | str x =>
    obtain ⟨t, rfl⟩ := ru
    exact PySem.P.repr_of_str finT hz
  | @lst a xs ds e aa =>
    cases ru
    obtain ⟨its, rv, ⟨o, n, ho, hc, _, hdt⟩, _⟩ := I.list (SqL.of e)
    have l' : (listText (PyData.shownAll (pdA ds))).length ≤ sizeLine := hz
    obtain ⟨⟨_, ra⟩, bs, m, k⟩ := rpDtA I ds xs its aa rv hp hs fun t ht => Nat.le_trans (listText_mem_le ht) l'
    have rr : ∃ as, Reads s.heap (.ref a) (.list (pdA ds)) as := ⟨_, .list ho hc hdt (by simpa using ra)⟩
    obtain ⟨hn, _⟩ := rp_node rr (by simp only [PyData.depth]) m
    have hu3 : X.A.units + (PyData.depthAll (pdA ds) + 1 + 1) < cLine := hu2
    refine call_repr_slot (by omega) ⟨o, ho, hc⟩ PySem.F.slot_list_repr.toG ?_
    cases its with
    | nil =>
      have e0 : ds = [] := by
        cases ds with
        | nil => rfl
        | cons x y => cases aa with | cons _ _ => cases rv
      subst e0
      exact call_list_repr_empty ⟨o, ho, hc⟩ ho hdt ⟨_, _, rfl, fin s.heap _ _ fun _ _ e => e⟩
    | cons x l =>
      exact call_list_reprK ho hc hdt hn (by have := k.length_eq; simpa using this) (fun i y e => k.item i y (by simpa using e)) g (fun b _ => Clear.nil b) (show X.A.units + 1 + (PyData.depthAll (pdA ds) + 1) < cLine by omega) (fun _ _ e => e) (fun h' u tk kk => ⟨_, _, rfl, fin h' tk u kk⟩) l'
  | @tup a xs ds e aa =>
    cases ru
    obtain ⟨its, rv, ⟨o, ho, hc, n, hdt⟩, _⟩ := I.tuple e
    have l' : (tupleText (PyData.shownAll (pdA ds))).length ≤ sizeLine := hz
    obtain ⟨⟨_, ra⟩, bs, m, k⟩ := rpDtA I ds xs its aa rv hp hs fun t ht => Nat.le_trans (tupleText_mem_le ht) l'
    have rr : ∃ as, Reads s.heap (.ref a) (.tuple (pdA ds)) as := ⟨_, .tuple ho hc hdt (by simpa using ra)⟩
    obtain ⟨hn, _⟩ := rp_node rr (by simp only [PyData.depth]) m
    have hu3 : X.A.units + (PyData.depthAll (pdA ds) + 1 + 1) < cLine := hu2
    refine call_repr_slot (by omega) ⟨o, ho, hc⟩ PySem.F.slot_tuple_repr ?_
    exact call_tuple_reprK ho hc hdt hn (by simpa using k) g (fun b _ => Clear.nil b) (show X.A.units + 1 + (PyData.depthAll (pdA ds) + 1) < cLine by omega) (fun _ _ e => e) (fun h' u tk kk => ⟨_, _, rfl, fin h' tk u kk⟩) l'
  | @dic a xs ds e aa =>
    cases ru
    obtain ⟨_, lo, vs, rel, o, es, ep, h1, h2, h3, h4, h5, _⟩ := dk_of I.hok e
    have l' : (dictText (PyData.shownKv (ds.map fun p => (pdKey p.1, p.2.s0)))).length ≤ sizeLine := hz
    obtain ⟨⟨_, r1⟩, ⟨_, r2⟩, bs, m, k⟩ := rp_ents (s := s) ds xs vs es.toList aa rel h5 hp hs fun t ht => Nat.le_trans (dictText_mem_le ht) l'
    have rr : ∃ as, Reads s.heap (.ref a) (.dict (ds.map fun p => (pdKey p.1, p.2.s0))) as := ⟨_, .dict h1 h2.1 h3 r1 r2⟩
    obtain ⟨hn, _⟩ := rp_node rr (by simp only [PyData.depth]) m
    have hu3 : X.A.units + (PyData.depthKv (ds.map fun p => (pdKey p.1, p.2.s0)) + 1 + 1) < cLine := hu2
    refine call_repr_slot (by omega) ⟨o, h1, h2.1⟩ PySem.F.slot_dict_repr ?_
    exact call_dict_reprK h1 h2.1 h3 lo hn k g (fun b _ => Clear.nil b) (show X.A.units + 1 + (PyData.depthKv (ds.map fun p => (pdKey p.1, p.2.s0)) + 1) < cLine by omega) (fun _ _ e => e) (fun h' u tk kk => ⟨_, _, rfl, fin h' tk u kk⟩) l'
  | exc _ _ _ => cases hp
end TSx

/-! Own layer, part 7: an own class over OverflowError, made as a value. -/
namespace TSx
open PySem L2 PySem.Spec PyProof.Rows
abbrev ofTail : List Value := [.type "OverflowError", .type "ArithmeticError", .type "Exception", .type "BaseException", .type "object"]
structure OofC (K : PySem.W.Frag) (C : Addr) : Prop where
  cls : ∃ nm q N bs bm sn sub ab col dd k0 k1 k2 k3 k5, K.lookup C = some (excClassObj nm q C N bs bm true sn sub ab col dd k0 k1 k2 k3 k5 "OverflowError.__new__") ∧ PySem.W.excTail ofTail bm = true
  sa : PySem.W.findIn K (.ref C) "__setattr__" = some (some (.builtin "object.__setattr__"))
  kC : PySem.W.keepIn K (.ref C) = true
section
open Builtin Builtin.ObjectAttr
variable {prog : Program} {w : World} {A : Around} {R : Result → Shared → Prop} {hp : Heap} {g : Array GenState} {d : Drawn} {t : Nat} {os : OsState}
theorem of_store {K : PySem.W.Frag} {f : Str} {tk : Tok} {u : Value} {x C : Addr} {fv : Array Value} (T : OofC K C) (X : K.In hp) (at1 : hp.get? x = some { cls := .ref C, data := .fields fv }) (no : PySem.W.findIn K (.ref C) f = some none)
    (k : ∀ h' tk' dx, (∀ b o, b ≠ x → hp.get? b = some o → h'.get? b = some o) → hp.objs.size ≤ dx → dx ≠ x → h'.get? x = some { cls := .ref C, dict := some dx, data := .fields fv } →
      h'.Ns1 dx (fun y => if y = f then some u else none) → R (.ok (.ret .none)) ⟨h', g, d, tk', os⟩) :
    codeAny (model prog w) A (.call (.builtin "object.__setattr__") ⟨[.ref x, .str f tk, u], []⟩) R ⟨hp, g, d, t, os⟩ := by
  obtain ⟨nm, q, N, bs, bm, sn, sub, ab, col, dd, k0, k1, k2, k3, k5, hC, hbm⟩ := T.cls
  have hcl : PySem.W.clsIn K C = some { name := nm, bases := bs, mro := .ref C :: bm, ns := N, qualname := q, hasDict := true, slotNames := sn, subclasses := sub, abstract := ab, collection := col, hasDel := false } := by unfold PySem.W.clsIn; rw [hC] <;> rfl
  have over : PySem.W.excOver K C ofTail = true := by
    unfold PySem.W.excOver
    rw [hcl]
    show (C == C && PySem.W.excTail ofTail bm) = true
    rw [hbm, beq_self_eq_true]
    rfl
  have I : PySem.W.InstAt hp x { cls := .ref C, data := .fields fv } C none := ⟨at1, rfl, rfl, trivial⟩
  have look : PySem.W.Looks (model prog w) hp (classData C) _ := PySem.W.looks_clsIn X hcl
  have ne : x ≠ hp.objs.size := Nat.ne_of_lt (Heap.lt_size at1)
  refine PySem.W.osa_openX PySem.F.store_OverflowError X I over (r := none) (by unfold PySem.W.takerIn; rw [no]; rfl) fun b => ?_
  show wpAny _ _ (storeInOwnDict (.ref x) (.ref C) (.str f tk) f u b) _ _ _
  unfold storeInOwnDict ownDictForStores
  cases b
  all_goals
    repeat (first
      | with_reducible refine PySem.HandSPX.store_in_new ?_ ?_
      | with_reducible refine wpAny_loadPart_at at1 ?_
      | with_reducible refine look.at ?_
      | wp_step)
  all_goals first
    | exact ⟨_, #[], _, (Heap.get?_update_ne _ _ _ _ ne.symm).trans (Heap.get?_push_at rfl rfl), rfl, fun e he => absurd he (by simp), fun _ => rfl⟩
    | (intro h' tk' hn' hs
       have a2 : (hp.push { cls := .type "dict", data := .dict #[] }).get? x = some { cls := .ref C, data := .fields fv } := Heap.get?_push_of_some _ at1
       refine k h' tk' hp.objs.size (fun b o hb ho => ?_) (Nat.le_refl _) ne.symm ?_ hn'
       · exact (hs.2 b (Nat.ne_of_lt (Heap.lt_size ho))).trans ((Heap.get?_update_ne _ _ _ _ hb).trans (Heap.get?_push_of_some _ ho))
       · exact (hs.2 x ne).trans (Heap.get?_update_self _ a2 rfl))
end
section
variable {X : Cx} {pins : List (Addr × Obj)} {σ : Sg} {H : Hp} {s : Shared} {a C dx : Addr} {f : Str} {y : V} {u : Value} {fs : List (Str × V)} {Q : Unit → Shared → Prop} {E : Value → Shared → Prop} {A : Around}
/-- self.f = y, the first field -/
theorem of_new (T : OofC X.K C) (I : L2.Inv X pins σ H s) (e : H a = some (exo a C none)) (no : PySem.W.findIn X.K (.ref C) f = some none) (ry : RelV y u)
    (k : ∀ dx s', H dx = none → dx ≠ a → L2.Inv X pins σ (upd (upd H dx (exd dx [(f, y)])) a (exo a C (some dx))) s' → Q () s') : wpAny (model X.prog X.w) A (setAttr (.ref a) f u) Q E s := by
  obtain ⟨t1, ho⟩ := exo_at I.hok e
  obtain ⟨hp, g, d, t, os⟩ := s
  refine PySem.W.set_plain I.kIn (ox := { cls := .ref C, dict := none, data := .fields #[.ref t1, .none, .none, .none, .bool false, .none] }) (od := none) ⟨ho, rfl, rfl, trivial⟩ T.sa ?_
  refine of_store T I.kIn ho no fun h' tk' dx keep dn dne hx hn => ?_
  have free : H dx = none := I.hok.fresh dn
  have far : ∀ {b : Addr} {o : Obj}, hp.get? b = some o → b ≠ dx := fun {b o} q => Nat.ne_of_lt (Nat.lt_of_lt_of_le (Heap.lt_size q) dn)
  have away : ∀ {b : Addr}, H b = none → b ≠ a := fun {b} n z => by rw [z, e] at n; cases n
  have U : Un X.fs [] H (upd (upd H dx (exd dx [(f, y)])) a (exo a C (some dx))) hp h' := {
    keep := fun b o q n _ _ => keep b o (away n) q
    slot := fun b o q n _ _ => ⟨o.slots, keep b o (away n) q⟩
    free := fun b o q n _ => by rw [upd_ne (away n), upd_ne (far q)]; exact n
    there := fun b o q _ => by
      by_cases hb : b = a
      · rw [hb]; exact ⟨_, hx⟩
      · exact ⟨o, keep b o hb q⟩
    tups := fun b xs q => by rw [upd_ne (at_ne e q exo_tup), upd_ne (ne_of_none q free)]; exact q
    frzs := fun b o v q => by rw [upd_ne (at_ne e q exo_frz), upd_ne (ne_of_none q free)]; exact q
    tbls := fun b ps q => ⟨#[], by rw [upd_ne (at_ne e q exo_tbl), upd_ne (ne_of_none q free), q]; simp⟩ }
  refine k dx _ free dne (I.un (t' := tk') U fun b o q => ?_)
  by_cases hb : b = a
  · subst hb
    rw [upd_same] at q
    cases q
    exact exo_ok hx
  rw [upd_ne hb] at q
  by_cases hd : b = dx
  · subst hd
    rw [upd_same] at q
    cases q
    exact exd_ok hn (relO_put (fs := []) ry fun g => True.intro)
  rw [upd_ne hd] at q
  refine (I.hok b o q).stay (fun c v hc z => keep c v ?_ z) (fun c hc => ?_) (fun c xs hc => ?_)
  · rcases hc with hc | hc
    · rw [hc]; exact hb
    · exact at_ne e hc exo_own
  · rw [upd_ne (at_ne e hc exo_own), upd_ne (ne_of_none hc free)]; exact hc
  · rw [upd_ne (at_ne e hc exo_tup), upd_ne (ne_of_none hc free)]; exact hc
end
/-- self.f = e in such a class's __init__ -/
def tOfS (K : PySem.W.Frag) (f : Str) (to te : TE) : TS := fun D σ H => te σ H fun y H1 => to σ H1 fun x H2 => ∃ a C : Addr, x = .ref a ∧ OofC K C ∧ PySem.W.findIn K (.ref C) f = some none ∧
  H2 a = some (exo a C none) ∧ ∀ dx, H2 dx = none → dx ≠ a → D.nx σ (upd (upd H2 dx (exd dx [(f, y)])) a (exo a C (some dx)))
section
variable {X : Cx} {CX : CXT} {x : Str} {C fI : Addr} {k : Nat} {fd : FuncData} {ps : List Str} {sp : Sp} {p p' pos : Pos} {o e : Expr} {es : List Expr} {ta : TA} {to te : TE} {f : Str}
theorem ps_ofS (ho : PE X o to) (he : PE X e te) (hs : swapsWith e (some (.Attribute o f p')) pos.line X.env = pure false := by rfl) : PS X (.Assign [.Attribute o f p'] e pos) (tOfS X.K f to te) := by
  constructor
  intro pins s σ H D I h
  refine plainObj_wpAny_Assign_Attribute (thn (he.run pins s σ H _ I h) fun v s1 z => ?_) hs
  obtain ⟨y, H1, I1, r1, q1⟩ := z
  refine thn (ho.run pins s1 σ H1 _ I1 q1) fun u s2 z => ?_
  obtain ⟨x, H2, I2, r2, a, C, ex, T, no, ea, q⟩ := z
  subst ex
  obtain rfl : u = Value.ref a := r2
  exact of_new T I2 ea no r1 fun dx s' n ne J => ⟨σ, _, J, q dx n ne⟩
theorem madeO {pins : List (Addr × Obj)} {σ : Sg} {H1 : Hp} {s : Shared} {Q : VK} {us : List Value} {vs : List V} (T : OofC X.K C) (iC : PySem.W.findIn X.K (.ref C) "__init__" = some (some (.ref fI))) (tI : PySem.W.typeIn X.K (.ref fI) = some (.type "function"))
    (F1 : FnOk X.prog X.w X.K X.mg X.base CX k fI fd ps sp) (hr : Room (k + 1) X.A) (hb : Binds X.K fd ps []) (hx : Passes CX X (fun _ _ _ => False)) (I1 : L2.Inv X pins σ H1 s) (r1 : Vals vs us) (hz : vs.length ≤ 1000)
    (q1 : ∀ a, H1 a = none → sp (.ref a :: vs) (upd H1 a (exo a C none)) (fun v H2 => v = .non ∧ ∃ (d : Addr) (fs : List (Str × V)), H2 a = some (exo a C (some d)) ∧ H2 d = some (exd d fs) ∧ Q (.ref a) (upd (upd H2 a (exq a C d)) d (.xd fs))) (fun _ _ _ => False)) :
    wpAny (model X.prog X.w) X.A (call (.ref C) us) (EP X pins σ Q) X.xe s := by
  obtain ⟨nm, q, N, bs, bm, sn, sub, ab, col, dd, k0, k1, k2, k3, k5, hC, hbm⟩ := T.cls
  obtain ⟨hp, g, dr, tk, os⟩ := s
  have nw : H1 (hp.objs.size + 1) = none := I1.hok.fresh (Nat.le_succ _)
  have want := q1 _ nw
  have keep2 : ∀ b o, hp.get? b = some o → ((hp.push (PySem.W.kdv_tup us)).push (PySem.HandSPX.excO C hp.objs.size)).get? b = some o := by
    intro b o e
    exact Heap.get?_push_of_some _ (Heap.get?_push_of_some _ e)
  have there : ((hp.push (PySem.W.kdv_tup us)).push (PySem.HandSPX.excO C hp.objs.size)).get? (hp.objs.size + 1) = some (PySem.HandSPX.excO C hp.objs.size) := by heap_get
  have I2 : L2.Inv X pins σ (upd H1 (hp.objs.size + 1) (exo (hp.objs.size + 1) C none)) ⟨(hp.push (PySem.W.kdv_tup us)).push (PySem.HandSPX.excO C hp.objs.size), g, dr, tk, os⟩ :=
    I1.laid (t' := tk) keep2 (Nat.le_succ _) (exo_ok there)
  have r2 : Vals (V.ref (hp.objs.size + 1) :: vs) (Value.ref (hp.objs.size + 1) :: us) := .cons rfl r1
  have cnt : (Value.ref (hp.objs.size + 1) :: us).length = ps.length := by rw [← r2.length]; exact F1.len _ _ _ _ want
  have few : us.length ≤ sizeLine := by
    have := Paired.length r1
    rw [sizeLine_eq]
    omega
  have bd := hb _ (Value.ref (hp.objs.size + 1) :: us) I2.kIn (by rw [List.append_nil]; exact cnt)
  rw [List.append_nil] at bd
  refine wpAny_call (PySem.HandSPX.call_own PySem.F.excBase_OverflowError (fun Y => PySem.W.excTail_contains Y bm hbm) (I1.kIn _ _ hC) (PySem.W.looks_findIn I1.kIn iC) (fun self => PySem.W.bind_fn I1.kIn self tI) few ?_)
  refine codeAny_mono (F1.run _ X.stack _ _ ⟨Value.ref (hp.objs.size + 1) :: us, []⟩ (Value.ref (hp.objs.size + 1) :: us) _ _ (fun _ _ _ => False) (hr.make C us []) (I2.env0.make C us []) bd r2 want) fun o s' z => ?_
  match o, z with
  | .error er, z => exact hx pins σ _ _ er s' I2 z
  | .ok .next, z => exact False.elim z
  | .ok .brk, z => exact False.elim z
  | .ok .cont, z => exact False.elim z
  | .ok (.ret u), z =>
    obtain ⟨v, H2, os2, bare2, un2, ok2, rv, ev, d, fs, ea, ed, qq⟩ := z
    subst ev
    refine ⟨rv, ?_⟩
    obtain ⟨h2, g2, d2, t2, os'⟩ := s'
    have os2' : os' = os := os2
    subst os2'
    have J : L2.Inv X pins σ H2 ⟨h2, g2, d2, t2, os'⟩ := I2.call (h' := h2) (g' := g2) (d' := d2) (t' := t2) (ch := []) un2 ok2 bare2 (fun b z => absurd z (by simp))
    obtain ⟨t0, hoe⟩ := exo_at J.hok ea
    obtain ⟨mA, hns, rel⟩ := exd_at J.hok ed
    have nd : d ≠ hp.objs.size + 1 := fun z => by
      obtain ⟨o, es', ep, e1, e2, _⟩ := hns
      rw [z] at e1
      have e3 := hoe.symm.trans e1
      cases e3
      cases e2
    have J2 := Inv.retell (o := exq (hp.objs.size + 1) C d) J ea True.intro (exq_ok hoe ⟨rfl, rfl⟩ rfl)
    have J3 := Inv.retell (o := .xd fs) (u := exd d fs) J2 (by rw [upd_ne nd]; exact ed) True.intro ⟨mA, hns, rel⟩
    exact ⟨.ref _, _, J3, rfl, qq⟩
theorem pe_mkO (T : OofC X.K C) (iC : PySem.W.findIn X.K (.ref C) "__init__" = some (some (.ref fI))) (tI : PySem.W.typeIn X.K (.ref fI) = some (.type "function"))
    (F1 : FnOk X.prog X.w X.K X.mg X.base CX k fI fd ps sp) (hr : Room (k + 1) X.A) (hb : Binds X.K fd ps []) (hx : Passes CX X (fun _ _ _ => False)) (hm : X.mg x = some (.ref C)) (ha : PA X (e :: es) ta) (hg : Gl X x := by rfl)
    (hdb : (x == ("__debug__" : Str)) = false := by decide) (he : starEach (e :: es) X.env = (false, eval e X.env) :: starEach es X.env := by rfl) (hpl : (backTo pos (starEach es X.env)).any (·.1) = false := by rfl) :
    PE X (.Call (.Name x p) (e :: es) [] pos) (tMkX C sp ta) := by
  constructor
  intro pins s σ H Q I h
  refine wpAny_Call_Name_kw (ld_glob I hg hm ?_ hdb)
  refine PySem.W.callWith_K (h₀ := X.base) I.ok.mod.kin T.kC (thn (ha.run pos pins s σ H _ I h) fun us s1 z => ?_) he hpl
  obtain ⟨vs, H1, I1, r1, hz, q1⟩ := z
  exact ⟨I1.kIn, madeO T iC tI F1 hr hb hx I1 r1 hz q1⟩
end
end TSx

/-! Own layer, part R: one step of a reading each, by name. -/
namespace TSx
open PySem L2
section
variable {σ : Sg} {H : Hp} {Q : VK} {ta tb : TE} {v : V} {i j : Int} {n : Nat}
theorem r_v (h : σ[n]? = some (some v)) (q : Q v H) : tVar n σ H Q := ⟨v, h, q⟩
theorem r_c (q : Q v H) : tC v σ H Q := q
theorem r_op {r : R2} (q : ta σ H fun x H1 => tb σ H1 fun y H2 => r x y H2 Q) : tOp r ta tb σ H Q := q
theorem r_I {C : Int → Int → Prop} {g : Int → Int → V} (hc : C i j) (q : Q (g i j) H) : rI C g (.int i) (.int j) H Q := ⟨i, j, rfl, rfl, hc, q⟩
theorem r_I0 {g : Int → Int → V} (q : Q (g i j) H) : rI0 g (.int i) (.int j) H Q := ⟨i, j, rfl, rfl, q⟩
theorem r_cb {r : List V → Hp → VK → Prop} {t : TA} (q : t σ H fun vs H1 => r vs H1 Q) : tCB r t σ H Q := q
theorem r_nil {Q : List V → Hp → Prop} (q : Q [] H) : tNil σ H Q := q
theorem r_cons {Q : List V → Hp → Prop} {tr : TA} (q : ta σ H fun x H1 => tr σ H1 fun xs H2 => Q (x :: xs) H2) : tCons ta tr σ H Q := q
theorem r_seq {t u : TS} {D : Ends} (q : t { D with nx := u D } σ H) : tSeq t u D σ H := q
theorem r_next {D : Ends} (q : D.nx σ H) : tNext D σ H := q
theorem r_asg {D : Ends} {te : TE} {g : TG} (q : te σ H fun x H1 => g x σ H1 D.nx) : tAsg te g D σ H := q
theorem r_name {Q : Sg → Hp → Prop} (q : Q (σ.set n (some v)) H) : gName n v σ H Q := q
theorem r_ret {D : Ends} {te : TE} (q : te σ H D.rt) : tRet te D σ H := q
theorem r_drop {D : Ends} {te : TE} (q : te σ H fun _ H1 => D.nx σ H1) : tDrop te D σ H := q
theorem r_if {D : Ends} {c : TT} {t u : TS} (q : c σ H fun b H1 => if b = true then t D σ H1 else u D σ H1) : tIfS c t u D σ H := q
theorem r_test {Q : Bool → Hp → Prop} {te : TE} (q : te σ H fun x H' => ∃ k, x = .bl k ∧ Q k H') : tTest te σ H Q := q
theorem r_tb {Q : Bool → Hp → Prop} {te : TE} (q : te σ H fun x H' => ∃ k, x = .bl k ∧ Q k H') : tB te σ H Q := q
theorem r_tup {t : TA} (q : t σ H fun xs H1 => xs.length ≤ sizeLine ∧ ∀ p, H1 p = none → Q (.ref p) (upd H1 p (.tup xs))) : tTup t σ H Q := q
theorem r_lst {t : TA} (q : t σ H fun xs H1 => xs.length ≤ sizeLine ∧ ∀ p, H1 p = none → Q (.ref p) (upd H1 p (.lst xs))) : tLst t σ H Q := q
theorem r_bl {b : Bool} {P : Bool → Prop} (q : P b) : ∃ k, V.bl b = .bl k ∧ P k := ⟨b, rfl, q⟩
theorem r_call {sp : Sp} {E : XK} {t : TA} (q : t σ H fun vs H1 => sp (vs ++ []) H1 Q E) : tCall sp [] E t σ H Q := q
theorem r_int_ (q : Q (.int i) H) : (∃ k, [V.int i] = [.int k] ∧ Q (.int k) H) ∨ ∃ k, [V.int i] = [.bl k] ∧ Q (.int (if k then 1 else 0)) H := Or.inl ⟨i, rfl, q⟩
end
theorem r_yes {σ : Sg} {H : Hp} {A B : Bool → Hp → Prop} (q : A true H) : tYes σ H (fun b H3 => if b = true then A b H3 else B b H3) := by
  show if true = true then A true H else B true H
  exact iteT q
theorem r_ixL {K : PySem.W.Frag} {p : Addr} {xs : List V} {i : Int} {v : V} {H : Hp} {Q : VK} (h : H p = some (.lst xs)) (a : atI xs i = some v) (q : Q v H) : rIxL K (.ref p) (.int i) H Q := ⟨p, xs, i, v, rfl, rfl, SqL.of h, a, q⟩
theorem r_setL {p : Addr} {xs : List V} {i : Int} {j : Nat} {v : V} {H : Hp} {Q : Hp → Prop} (h : H p = some (.lst xs)) (a : ixN xs.length i = some j) (q : Q (upd H p (.lst (xs.set j v)))) : rSetL (.ref p) (.int i) v H Q := ⟨p, xs, i, j, rfl, rfl, h, a, q⟩
theorem r_sub {to ti : TE} {t : TSet} {v : V} {σ : Sg} {H : Hp} {Q : Sg → Hp → Prop} (q : to σ H fun o H1 => ti σ H1 fun i H2 => t o i v H2 fun H3 => Q σ H3) : gSub to ti t v σ H Q := q
/-- int(i), i an int -/
def rInt : List V → Hp → VK → Prop := fun xs H Q => ∃ i, xs = [.int i] ∧ Q (.int i) H
theorem call_intI {X : Cx} : CallR X (.type "int") rInt := fun pins s σ H xs us Q I r h => by
  obtain ⟨i, e, q⟩ := h
  exact call_int1 pins s σ H xs us Q I r (Or.inl ⟨i, e, q⟩)
theorem r_int1 {H : Hp} {Q : VK} {i : Int} (q : Q (.int i) H) : rInt [.int i] H Q := ⟨i, rfl, q⟩
theorem r_mul {i j : Int} {g : Int → Int → V} {H : Hp} {Q : VK} (h : CMul i j) (q : Q (g i j) H) : rI CMul g (.int i) (.int j) H Q := ⟨i, j, rfl, rfl, h, q⟩
theorem r_div {i j : Int} {g : Int → Int → V} {H : Hp} {Q : VK} (h : CDiv i j) (q : Q (g i j) H) : rI CDiv g (.int i) (.int j) H Q := ⟨i, j, rfl, rfl, h, q⟩
theorem r_mod {i j : Int} {g : Int → Int → V} {H : Hp} {Q : VK} (h : 0 < j) (q : Q (g i j) H) : rI (fun _ j => 0 < j) g (.int i) (.int j) H Q := ⟨i, j, rfl, rfl, h, q⟩
theorem r_pow {i j : Int} {g : Int → Int → V} {H : Hp} {Q : VK} (h : CPow i j) (q : Q (g i j) H) : rI CPow g (.int i) (.int j) H Q := ⟨i, j, rfl, rfl, h, q⟩
theorem cmL {i j : Int} (h1 : -(2 ^ 64) < i) (h2 : i < 2 ^ 64) : CMul i j := Or.inl ⟨h1, h2⟩
theorem cmR {i j : Int} (h1 : -(2 ^ 64) < j) (h2 : j < 2 ^ 64) : CMul i j := Or.inr ⟨h1, h2⟩
theorem cdv {i j : Int} (h1 : 0 < j) (h2 : j < 1073741824) : CDiv i j := ⟨h1, h2⟩
theorem sz1 {n : Nat} (h : n ≤ 100000) : n ≤ sizeLine := Nat.le_trans h (by decide)
theorem sz2 {n : Nat} (h : n < 100000) : n < sizeLine := Nat.lt_of_lt_of_le h (by decide)
end TSx

/-! Own layer, part R2: the law's drawn state: a dict with two lists of ints and a count. -/
namespace TSx
open PySem L2
/-- 64 ints, each below the great number -/
structure Cells (cs : List Int) : Prop where
  len : cs.length = 64
  low : ∀ c ∈ cs, 0 ≤ c ∧ c < 2147483647
theorem Cells.set {cs : List Int} (h : Cells cs) (i : Nat) {x : Int} (h0 : 0 ≤ x) (h1 : x < 2147483647) : Cells (cs.set i x) := ⟨by rw [List.length_set]; exact h.len, fun c hc => by
  rcases List.mem_or_eq_of_mem_set hc with z | z
  · exact h.low c z
  · subst z; exact ⟨h0, h1⟩⟩
theorem map_set {cs : List Int} {i : Nat} {x : Int} : (cs.map V.int).set i (.int x) = (cs.set i x).map V.int := by rw [List.map_set]
theorem at_int {cs : List Int} {i : Nat} (h : i < cs.length) : ∃ c, c ∈ cs ∧ atI (cs.map V.int) (i : Int) = some (.int c) := by
  refine ⟨cs[i], List.getElem_mem h, atI_nat ?_⟩
  rw [List.getElem?_map, List.getElem?_eq_getElem h]
  rfl
theorem ixN_int {n i : Nat} (h : i < n) : ixN n (i : Int) = some i := by
  unfold ixN
  rw [if_pos (by omega), if_pos (by omega)]
  simp
theorem same_new {H : Hp} {p : Addr} {o : HO} (n : H p = none) : Same H (upd H p o) := gr_new n
theorem same_mut {H H' : Hp} {p : Addr} {o : HO} (s : Same H H') (n : H p = none) : Same H (upd H' p o) := fun b u e => by rw [upd_ne (ne_of_none e n)]; exact s b u e

def kvM (c g : Addr) (n : Int) : List (Key × V) := [(Sum.inr "cells", .ref c), (Sum.inr "great", .ref g), (Sum.inr "spot", .int n)]
theorem kvM_cells {c g : Addr} {n : Int} : valV (kvM c g n) (Sum.inr "cells") = some (.ref c) := by rfl
theorem kvM_great {c g : Addr} {n : Int} : valV (kvM c g n) (Sum.inr "great") = some (.ref g) := by rfl
theorem kvM_spot {c g : Addr} {n : Int} : valV (kvM c g n) (Sum.inr "spot") = some (.int n) := by rfl
theorem kvM_put {c g : Addr} {n k : Int} : putK (kvM c g n) (Sum.inr "spot") (.int k) = kvM c g k := by rfl
/-- at m the law's state: r draws may come yet -/
structure MAt (m c g : Addr) (H : Hp) (r : Nat) : Prop where
  ex : ∃ (n : Nat) (cs gs : List Int), H m = some (.dK (kvM c g n)) ∧ H c = some (.lst (cs.map V.int)) ∧ H g = some (.lst (gs.map V.int)) ∧ Cells cs ∧ gs.length ≤ 63 ∧ n + r ≤ 536870912
  ne : c ≠ g
/-- all but m and g stays -/
def Kp (m g : Addr) (H H' : Hp) : Prop := ∀ b o, b ≠ m → b ≠ g → H b = some o → H' b = some o
theorem Kp.rf {m g : Addr} {H : Hp} : Kp m g H H := fun _ _ _ _ e => e
theorem Kp.tr {m g : Addr} {H H1 H2 : Hp} (a : Kp m g H H1) (b : Kp m g H1 H2) : Kp m g H H2 := fun x o h1 h2 e => b x o h1 h2 (a x o h1 h2 e)
theorem Kp.of {m g : Addr} {H H' : Hp} (a : Same H H') : Kp m g H H' := fun b o _ _ e => a b o e
theorem MAt.same {m c g : Addr} {H H' : Hp} {r : Nat} (h : MAt m c g H r) (s : Same H H') : MAt m c g H' r := by
  obtain ⟨⟨n, cs, gs, h1, h2, h3, h4⟩, ne⟩ := h
  exact ⟨⟨n, cs, gs, s _ _ h1, s _ _ h2, s _ _ h3, h4⟩, ne⟩
theorem MAt.less {m c g : Addr} {H : Hp} {r q : Nat} (h : MAt m c g H r) (l : q ≤ r) : MAt m c g H q := by
  obtain ⟨⟨n, cs, gs, h1, h2, h3, h4, h5, h6⟩, ne⟩ := h
  exact ⟨⟨n, cs, gs, h1, h2, h3, h4, h5, by omega⟩, ne⟩
theorem r_dget {td ty : TE} {σ : Sg} {H : Hp} {Q : VK} (q : td σ H fun x H1 => ty σ H1 fun y H2 => ∃ a v, x = .ref a ∧ DGet H2 a y (some v) ∧ Q v H2) : tDGet td ty σ H Q := q
theorem r_dg {a : Addr} {y v : V} {H : Hp} {Q : VK} (h : DGet H a y (some v)) (q : Q v H) : ∃ b u, V.ref a = .ref b ∧ DGet H b y (some u) ∧ Q u H := ⟨a, v, rfl, h, q⟩
theorem r_len {K : PySem.W.Frag} {p : Addr} {xs : List V} {H : Hp} {Q : VK} (h : H p = some (.lst xs)) (q : Q (.int xs.length) H) : ∃ b ys, [V.ref p] = [.ref b] ∧ (SqL K H b ys ∨ SqT K H b ys) ∧ Q (.int ys.length) H := ⟨p, xs, rfl, Or.inl (SqL.of h), q⟩
theorem r_dput {td ty tv : TE} {D : Ends} {σ : Sg} {H : Hp} (q : tv σ H fun v H1 => td σ H1 fun x H2 => ty σ H2 fun y H3 => ∃ a H4, x = .ref a ∧ DPut H3 a y v H4 ∧ D.nx σ H4) : sDPut td ty tv D σ H := q
theorem r_ifT {A B : Prop} {b : Bool} (h : b = true) (q : A) : if b = true then A else B := by rw [if_pos h]; exact q
theorem r_ifF {A B : Prop} {b : Bool} (h : b = false) (q : B) : if b = true then A else B := by rw [h]; exact iteF q
theorem dg_cells {m c g : Addr} {n : Int} {H : Hp} (h : H m = some (.dK (kvM c g n))) : DGet H m (.str "cells") (some (.ref c)) := by rw [← kvM_cells (c := c) (g := g) (n := n)]; exact DGet.k (k := Sum.inr "cells") h
theorem dg_great {m c g : Addr} {n : Int} {H : Hp} (h : H m = some (.dK (kvM c g n))) : DGet H m (.str "great") (some (.ref g)) := by rw [← kvM_great (c := c) (g := g) (n := n)]; exact DGet.k (k := Sum.inr "great") h
theorem dg_spot {m c g : Addr} {n : Int} {H : Hp} (h : H m = some (.dK (kvM c g n))) : DGet H m (.str "spot") (some (.int n)) := by rw [← kvM_spot (c := c) (g := g) (n := n)]; exact DGet.k (k := Sum.inr "spot") h
theorem dp_spot {m c g : Addr} {n k : Int} {H : Hp} (h : H m = some (.dK (kvM c g n))) : DPut H m (.str "spot") (.int k) (upd H m (.dK (kvM c g k))) := by
  rw [← kvM_put (c := c) (g := g) (n := n) (k := k)]
  exact DPut.k (k := Sum.inr "spot") h (show 3 < sizeLine by decide)
/-- a draw below a limit -/
def spDraw : Sp := fun vs H Q _ => ∃ (m c g : Addr) (r : Nat) (limit : Int), vs = [.ref m, .int limit] ∧ 0 < limit ∧ limit < 1073741824 ∧ MAt m c g H (r + 1) ∧
  ∀ (v : Int) (H' : Hp), 0 ≤ v → v < limit → MAt m c g H' r → Kp m g H H' → Q (.int v) H'
def spMixed : Sp := fun vs H Q _ => ∃ c n : Int, vs = [.int c, .int n] ∧ 0 ≤ c ∧ c < 2 ^ 40 ∧ 0 ≤ n ∧ n < 2 ^ 30 ∧ ∀ v : Int, 0 ≤ v → v < 2 ^ 31 → Q (.int v) H
def spFolded (K : PySem.W.Frag) : Sp := fun vs H Q _ => ∃ (a : Addr) (ns : List Int), vs = [.ref a] ∧ SqL K H a (ns.map V.int) ∧ ns.length ≤ 63 ∧
  ∀ (H' : Hp) (p : Addr) (cs : List Int), H p = none → Same H H' → Cells cs → H' p = some (.lst (cs.map V.int)) → Q (.ref p) H'
def spBegun (K : PySem.W.Frag) : Sp := fun vs H Q _ => ∃ (a : Addr) (ns : List Int), vs = [.ref a] ∧ SqL K H a (ns.map V.int) ∧ ns.length ≤ 63 ∧
  ∀ (H' : Hp) (m c g : Addr), Same H H' → H m = none → H c = none → H g = none → MAt m c g H' 536870912 → Q (.ref m) H'
/-- names of the built-ins that the prelude calls, none of them stored over -/
structure Blt (mg : Str → Option Value) : Prop where
  int : mg "int" = none
  len : mg "len" = none
  range : mg "range" = none
  enumerate : mg "enumerate" = none
  repr : mg "repr" = none
  isinstance : mg "isinstance" = none
  list : mg "list" = none
/-- what == finds of a list of ints and the empty one -/
theorem eqv_nil (gs : List Int) : PyData.eqv (.list (pyA (gs.map D.int))) (.list []) = gs.isEmpty := by
  cases gs with
  | nil => rfl
  | cons a l => rfl
theorem dts {K : PySem.W.Frag} {H : Hp} : ∀ gs : List Int, DtA K H (gs.map V.int) (gs.map D.int)
  | [] => .nil
  | n :: l => .cons (.int n) (dts l)
theorem pl_ints : ∀ gs : List Int, plA (gs.map D.int) = true
  | [] => rfl
  | n :: l => pl_ints l
mutual
theorem lay_pl : ∀ d : D, d.pl = true → d.py.canLay0 = true
  | .non, _ => rfl
  | .bl _, _ => rfl
  | .int _, _ => rfl
  | .str _, h => h
  | .lst xs, h => layA_pl xs h
  | .tup xs, h => layA_pl xs h
  | .dic _, h => by cases h
  | .exc _ _, h => by cases h
theorem layA_pl : ∀ d : List D, plA d = true → PyData.canLayAll0 (pyA d) = true
  | [], _ => rfl
  | x :: xs, h => by
    simp only [plA, Bool.and_eq_true] at h
    show (x.py.canLay0 && PyData.canLayAll0 (pyA xs)) = true
    rw [lay_pl x h.1, layA_pl xs h.2]; rfl
end
theorem shaped_pl (d : D) (h : d.pl = true) (z : d.py.depth ≤ 64) : SeqAt.shaped d.py = true := by
  unfold SeqAt.shaped
  rw [lay_pl d h, decide_eq_true z]
  rfl
theorem depth_ints : ∀ gs : List Int, (D.lst (gs.map D.int)).py.depth ≤ 64 := fun gs => by
  have h : ∀ gs : List Int, PyData.depthAll (pyA (gs.map D.int)) = 0 := fun gs => by
    induction gs with
    | nil => rfl
    | cons a l ih => show max 0 (PyData.depthAll (pyA (l.map D.int))) = 0; rw [ih]; rfl
  show PyData.depthAll (pyA (gs.map D.int)) + 1 ≤ 64
  rw [h gs]
  decide
theorem r_neD {K : PySem.W.Frag} {H : Hp} {x y : V} {d e : D} {Q : VK} (hx : Dt K H x d) (hy : Dt K H y e) (px : d.pl = true) (py : e.pl = true) (zx : d.py.depth ≤ 64) (zy : e.py.depth ≤ 64) (q : Q (.bl (!PyData.eqv d.py e.py)) H) : rNeD K x y H Q :=
  ⟨_, _, hx.dp px, hy.dp py, shaped_pl d px zx, shaped_pl e py zy, q⟩
theorem r_eqD {K : PySem.W.Frag} {H : Hp} {x y : V} {d e : D} {Q : VK} (hx : Dt K H x d) (hy : Dt K H y e) (px : d.pl = true) (py : e.pl = true) (zx : d.py.depth ≤ 64) (zy : e.py.depth ≤ 64) (q : Q (.bl (PyData.eqv d.py e.py)) H) : rEqD K x y H Q :=
  ⟨_, _, hx.dp px, hy.dp py, shaped_pl d px zx, shaped_pl e py zy, q⟩
end TSx

/-! Own layer, part R3: what makes which data, the heap only growing. -/
namespace TSx
open PySem L2
def Mk (K : PySem.W.Frag) (te : TE) (σ : Sg) (H : Hp) (d : D) : Prop := ∀ H1, Same H H1 → ∀ Q : VK, (∀ v H2, Same H1 H2 → Dt K H2 v d → Q v H2) → te σ H1 Q
def MkA (K : PySem.W.Frag) (ta : TA) (σ : Sg) (H : Hp) (ds : List D) : Prop := ∀ H1, Same H H1 → ∀ Q : List V → Hp → Prop, (∀ vs H2, Same H1 H2 → DtA K H2 vs ds → Q vs H2) → ta σ H1 Q
section
variable {K : PySem.W.Frag} {σ : Sg} {H : Hp} {te ta tb : TE} {t : TA} {d : D} {ds es : List D}
theorem Mk.mono {H' : Hp} (h : Mk K te σ H d) (s : Same H H') : Mk K te σ H' d := fun H1 s1 => h H1 (s.trans s1)
theorem mk_non : Mk K (tC .non) σ H .non := fun H1 _ Q q => q _ H1 Gr.rfl' .non
theorem mk_int {i : Int} : Mk K (tC (.int i)) σ H (.int i) := fun H1 _ Q q => q _ H1 Gr.rfl' (.int i)
theorem mk_str {x : Str} : Mk K (tC (.str x)) σ H (.str x) := fun H1 _ Q q => q _ H1 Gr.rfl' (.str x)
theorem mk_bl {b : Bool} : Mk K (tC (.bl b)) σ H (.bl b) := fun H1 _ Q q => q _ H1 Gr.rfl' (.bl b)
theorem mk_var {n : Nat} {v : V} (h : σ[n]? = some (some v)) (a : Dt K H v d) : Mk K (tVar n) σ H d := fun H1 s Q q => ⟨v, h, q v H1 Gr.rfl' (a.gr s)⟩
theorem mk_neg {i : Int} (h : Mk K ta σ H (.int i)) : Mk K (tUn (rU fun i => .int (-i)) ta) σ H (.int (-i)) := fun H1 s Q q => h H1 s _ fun v H2 s2 a => by
  cases a
  exact ⟨i, rfl, q _ H2 s2 (.int _)⟩
theorem mk_I0 {i j : Int} {g : Int → Int → Int} (h : Mk K ta σ H (.int i)) (h2 : Mk K tb σ H (.int j)) : Mk K (tOp (rI0 fun i j => .int (g i j)) ta tb) σ H (.int (g i j)) := fun H1 s Q q => h H1 s _ fun v H2 s2 a => h2 H2 (s.trans s2) _ fun u H3 s3 b => by
  cases a
  cases b
  exact ⟨i, j, rfl, rfl, q _ H3 (s2.trans s3) (.int _)⟩
theorem mk_I0b {i j : Int} {g : Int → Int → Bool} (h : Mk K ta σ H (.int i)) (h2 : Mk K tb σ H (.int j)) : Mk K (tOp (rI0 fun i j => .bl (g i j)) ta tb) σ H (.bl (g i j)) := fun H1 s Q q => h H1 s _ fun v H2 s2 a => h2 H2 (s.trans s2) _ fun u H3 s3 b => by
  cases a
  cases b
  exact ⟨i, j, rfl, rfl, q _ H3 (s2.trans s3) (.bl _)⟩
theorem mk_I {i j : Int} {C : Int → Int → Prop} {g : Int → Int → Int} (h : Mk K ta σ H (.int i)) (h2 : Mk K tb σ H (.int j)) (c : C i j) : Mk K (tOp (rI C fun i j => .int (g i j)) ta tb) σ H (.int (g i j)) := fun H1 s Q q => h H1 s _ fun v H2 s2 a => h2 H2 (s.trans s2) _ fun u H3 s3 b => by
  cases a
  cases b
  exact ⟨i, j, rfl, rfl, c, q _ H3 (s2.trans s3) (.int _)⟩
theorem mka_nil : MkA K tNil σ H [] := fun H1 _ Q q => q _ H1 Gr.rfl' .nil
theorem mka_cons (h : Mk K ta σ H d) (r : MkA K t σ H ds) : MkA K (tCons ta t) σ H (d :: ds) := fun H1 s Q q => h H1 s _ fun v H2 s2 a => r H2 (s.trans s2) _ fun vs H3 s3 b => q _ H3 (s2.trans s3) (.cons (a.gr s3) b)
theorem mk_tup (h : MkA K t σ H ds) (z : ds.length ≤ 100000) : Mk K (tTup t) σ H (.tup ds) := fun H1 s Q q => h H1 s _ fun vs H2 s2 a => by
  refine ⟨by rw [a.len]; exact sz1 z, fun p np => ?_⟩
  exact q _ _ (s2.trans (same_new np)) (.tup (SqT.of upd_same) (a.gr (same_new np)))
theorem mk_lst (h : MkA K t σ H ds) (z : ds.length ≤ 100000) : Mk K (tLst t) σ H (.lst ds) := fun H1 s Q q => h H1 s _ fun vs H2 s2 a => by
  refine ⟨by rw [a.len]; exact sz1 z, fun p np => ?_⟩
  exact q _ _ (s2.trans (same_new np)) (.lst upd_same (a.gr (same_new np)))
theorem mk_dic : Mk K tDNewK σ H (.dic []) := fun H1 s Q q p np => q _ _ (same_new np) (.dic upd_same .nil)
theorem mk_cat (h : Mk K ta σ H (.lst ds)) (h2 : Mk K tb σ H (.lst es)) (z : ds.length + es.length ≤ 100000) : Mk K (tOp rCat ta tb) σ H (.lst (ds ++ es)) := fun H1 s Q q => h H1 s _ fun v H2 s2 a => h2 H2 (s.trans s2) _ fun u H3 s3 b => by
  cases a with
  | @lst p xs ds ea aa =>
    cases b with
    | @lst r ys es eb bb =>
      refine ⟨p, r, xs, ys, rfl, rfl, s3 _ _ ea, eb, by rw [aa.len, bb.len]; exact sz1 z, fun w nw => ?_⟩
      exact q _ _ ((s2.trans s3).trans (same_new nw)) (.lst upd_same (((aa.gr s3).app bb).gr (same_new nw)))
/-- list(xs), xs a tuple or a list -/
theorem mk_listT (h : Mk K ta σ H (.tup ds)) : Mk K (tCB (fun xs H Q => ∃ p ys, xs = [.ref p] ∧ (SqL K H p ys ∨ SqT K H p ys) ∧ ∀ l, H l = none → Q (.ref l) (upd H l (.lst ys))) (tCons ta tNil)) σ H (.lst ds) := fun H1 s Q q => h H1 s _ fun v H2 s2 a => by
  cases a with
  | @tup p xs ds e aa => exact ⟨p, xs, rfl, Or.inr e, fun l nl => q _ _ (s2.trans (same_new nl)) (.lst upd_same (aa.gr (same_new nl)))⟩
theorem mk_neD (h : Mk K ta σ H d) {e : D} (h2 : Mk K tb σ H e) (pd : d.pl = true) (pe : e.pl = true) (zd : d.py.depth ≤ 64) (ze : e.py.depth ≤ 64) : Mk K (tOp (rNeD K) ta tb) σ H (.bl (!PyData.eqv d.py e.py)) := fun H1 s Q q => h H1 s _ fun v H2 s2 a => h2 H2 (s.trans s2) _ fun u H3 s3 b =>
  r_neD (a.gr s3) b pd pe zd ze (q _ H3 (s2.trans s3) (.bl _))
theorem mk_eqD (h : Mk K ta σ H d) {e : D} (h2 : Mk K tb σ H e) (pd : d.pl = true) (pe : e.pl = true) (zd : d.py.depth ≤ 64) (ze : e.py.depth ≤ 64) : Mk K (tOp (rEqD K) ta tb) σ H (.bl (PyData.eqv d.py e.py)) := fun H1 s Q q => h H1 s _ fun v H2 s2 a => h2 H2 (s.trans s2) _ fun u H3 s3 b =>
  r_eqD (a.gr s3) b pd pe zd ze (q _ H3 (s2.trans s3) (.bl _))
/-- len of a list -/
theorem mk_len (h : Mk K ta σ H (.lst ds)) : Mk K (tCB (fun xs H Q => ∃ p ys, xs = [.ref p] ∧ (SqL K H p ys ∨ SqT K H p ys) ∧ Q (.int ys.length) H) (tCons ta tNil)) σ H (.int ds.length) := fun H1 s Q q => h H1 s _ fun v H2 s2 a => by
  cases a with
  | @lst p xs ds e aa =>
    refine ⟨p, xs, rfl, Or.inl (SqL.of e), ?_⟩
    have l := aa.len
    rw [l]
    exact q _ H2 s2 (.int _)
theorem mk_neI {i j : Int} (h : Mk K ta σ H (.int i)) (h2 : Mk K tb σ H (.int j)) : Mk K (tOp rNe ta tb) σ H (.bl (!decide (i = j))) := fun H1 s Q q => h H1 s _ fun v H2 s2 b => h2 H2 (s.trans s2) _ fun u H3 s3 c => by
  cases b
  cases c
  refine ⟨rfl, ?_⟩
  have e : decide (V.int i = V.int j) = decide (i = j) := by
    by_cases z : i = j
    · subst z; rw [decide_eq_true rfl, decide_eq_true rfl]
    · rw [decide_eq_false z, decide_eq_false fun y => z (V.int.inj y)]
  rw [e]
  exact q _ H3 (s2.trans s3) (.bl _)
theorem mk_eqI {i j : Int} (h : Mk K ta σ H (.int i)) (h2 : Mk K tb σ H (.int j)) : Mk K (tOp rEq ta tb) σ H (.bl (decide (i = j))) := fun H1 s Q q => h H1 s _ fun v H2 s2 b => h2 H2 (s.trans s2) _ fun u H3 s3 c => by
  cases b
  cases c
  refine ⟨rfl, ?_⟩
  have e : decide (V.int i = V.int j) = decide (i = j) := by
    by_cases z : i = j
    · subst z; rw [decide_eq_true rfl, decide_eq_true rfl]
    · rw [decide_eq_false z, decide_eq_false fun y => z (V.int.inj y)]
  rw [e]
  exact q _ H3 (s2.trans s3) (.bl _)
/-- a test that is known -/
def MkT (tt : TT) (σ : Sg) (H : Hp) (b : Bool) : Prop := ∀ H1, Same H H1 → ∀ Q : Bool → Hp → Prop, (∀ H2, Same H1 H2 → Q b H2) → tt σ H1 Q
theorem mt_test {b : Bool} (h : Mk K te σ H (.bl b)) : MkT (tTest te) σ H b := fun H1 s Q q => h H1 s _ fun v H2 s2 a => by
  cases a
  exact ⟨b, rfl, q H2 s2⟩
theorem mt_not {b : Bool} {tt : TT} (h : MkT tt σ H b) : MkT (tNot tt) σ H (!b) := fun H1 s Q q => h H1 s _ fun H2 s2 => q H2 s2
theorem mt_B {b : Bool} (h : Mk K te σ H (.bl b)) : MkT (tB te) σ H b := fun H1 s Q q => h H1 s _ fun v H2 s2 a => by
  cases a
  exact ⟨b, rfl, q H2 s2⟩
end
end TSx

/-! Own layer, part R4: exceptions among the data; what is known of a def and of a class. -/
namespace TSx
open PySem L2
/-- an own __init__ with one field -/
def spIni (C : Addr) (f : Str) : Sp := fun vs H Q _ => ∃ (a : Addr) (x : V), vs = [.ref a, x] ∧ H a = some (exo a C none) ∧ ∀ d, H d = none → d ≠ a → Q .non (upd (upd H d (exd d [(f, x)])) a (exo a C (some d)))
/-- an own exception class of the text, its one field -/
structure Xc (P : Program) (w : World) (K : PySem.W.Frag) (mg : Str → Option Value) (base : Heap) (nm fld : Str) (C fI : Addr) (fd : FuncData) : Prop where
  o : OexC K C
  a : ExcC K C
  iC : PySem.W.findIn K (.ref C) "__init__" = some (some (.ref fI))
  tI : PySem.W.typeIn K (.ref fI) = some (.type "function")
  F : FnOk P w K mg base CX0 1 fI fd ["self", fld] (spIni C fld)
  b : Binds K fd ["self", fld] []
  kw : KwB fd ["self", fld] [fld] id id
  g : mg nm = some (.ref C)
  no : PySem.W.findIn K (.ref C) fld = some none
/-- a def that is ready to be called -/
structure Dok (P : Program) (w : World) (K : PySem.W.Frag) (mg : Str → Option Value) (base : Heap) (k : Nat) (nm : Str) (ps : List Str) (sp : Sp) (f : Addr) (fd : FuncData) : Prop where
  G : FnOk P w K mg base CX0 k f fd ps sp
  g : mg nm = some (.ref f)
  k : PySem.W.keepIn K (.ref f) = true
  b : Binds K fd ps []
structure DoX (P : Program) (w : World) (K : PySem.W.Frag) (mg : Str → Option Value) (base : Heap) (k : Nat) (nm : Str) (ps : List Str) (sp : Sp) (f : Addr) (fd : FuncData) : Prop where
  G : FnOk P w K mg base (L2.CX P w) k f fd ps sp
  g : mg nm = some (.ref f)
  k : PySem.W.keepIn K (.ref f) = true
  b : Binds K fd ps []
structure DoG (P : Program) (w : World) (K : PySem.W.Frag) (mg : Str → Option Value) (base : Heap) (k : Nat) (nm : Str) (ps : List Str) (sp : Sp) (f : Addr) (fd : FuncData) : Prop where
  G : FnG P w K mg base CX0 k f fd ps sp
  g : mg nm = some (.ref f)
  k : PySem.W.keepIn K (.ref f) = true
  b : Binds K fd ps []
section
variable {K : PySem.W.Frag} {σ : Sg} {H : Hp} {te ta tb : TE} {t : TA} {d : D} {ds es : List D} {C : Addr} {f : Str}
/-- the heap behind a made exception -/
theorem made_gr {H1 : Hp} {a dd : Addr} {x : V} (na : H1 a = none) (nd : (upd H1 a (exo a C none)) dd = none) (ne : dd ≠ a) :
    Same H1 (upd (upd (upd (upd (upd H1 a (exo a C none)) dd (exd dd [(f, x)])) a (exo a C (some dd))) a (exq a C dd)) dd (.xd [(f, x)])) := fun b o e => by
  have hb : b ≠ a := ne_of_none e na
  have hd : b ≠ dd := fun z => by rw [z] at e; rw [upd_ne ne, e] at nd; cases nd
  rw [upd_ne hd, upd_ne hb, upd_ne hb, upd_ne hd, upd_ne hb]
  exact e
theorem mk_mkX (h : Mk K ta σ H d) : Mk K (tMkX C (spIni C f) (tCons ta tNil)) σ H (.exc C [(f, d)]) := fun H1 s Q q => h H1 s _ fun v H2 s2 a => by
  refine ⟨(show 1 ≤ 1000 by decide), fun p np => ⟨p, v, rfl, upd_same, fun dd nd ne => ⟨rfl, dd, [(f, v)], upd_same, ?_, ?_⟩⟩⟩
  · rw [upd_ne ne, upd_same]
  · have g := made_gr (C := C) (f := f) (x := v) np nd ne
    refine q _ _ (s2.trans g) (.exc (d := dd) (xs := [(f, v)]) ?_ upd_same (.cons (a.gr g) .nil))
    rw [upd_ne (Ne.symm ne), upd_same]
theorem mk_mkK (h : Mk K ta σ H d) : Mk K (tMkK C 1 (spIni C f) id (tCons ta tNil)) σ H (.exc C [(f, d)]) := fun H1 s Q q => h H1 s _ fun v H2 s2 a => by
  refine ⟨rfl, fun p np => ⟨p, v, rfl, upd_same, fun dd nd ne => ⟨rfl, dd, [(f, v)], upd_same, ?_, ?_⟩⟩⟩
  · rw [upd_ne ne, upd_same]
  · have g := made_gr (C := C) (f := f) (x := v) np nd ne
    refine q _ _ (s2.trans g) (.exc (d := dd) (xs := [(f, v)]) ?_ upd_same (.cons (a.gr g) .nil))
    rw [upd_ne (Ne.symm ne), upd_same]
theorem mk_xa {fs : List (Str × D)} (h : Mk K ta σ H (.exc C fs)) (T : ExcC K C) (no : PySem.W.findIn K (.ref C) f = some none) (l : fs.lookup f = some d) : Mk K (tXa K f ta) σ H d := fun H1 s Q q => h H1 s _ fun v H2 s2 a => by
  cases a with
  | @exc p C dd xs ds e1 e2 e3 =>
    obtain ⟨y, hy, ay⟩ := e3.look l
    exact ⟨p, C, dd, xs, y, rfl, e1, e2, T, no, hy, q y H2 s2 ay⟩
theorem mk_isX {fs : List (Str × D)} {c : V} {cv : Value} {b : Bool} (h : Mk K ta σ H (.exc C fs)) (T : ExcC K C) (hk : PySem.W.kitOne K (.ref C) cv = some b) (hc : ∀ u, RelV c u → u = cv) : Mk K (tCB (rIsX K) (tCons ta (tCons (tC c) tNil))) σ H (.bl b) := fun H1 s Q q => h H1 s _ fun v H2 s2 a => by
  cases a with
  | @exc p C dd xs ds e1 e2 e3 => exact ⟨p, C, dd, xs, c, cv, b, rfl, e1, e2, T, hc, hk, q _ H2 s2 (.bl b)⟩
end
/-- a class (or a def) of the text, by its name -/
theorem pe_cls {X : Cx} {x : Str} {C : Addr} {pos : Pos} (hg : Gl X x) (hm : X.mg x = some (.ref C)) (hd : (x == ("__debug__" : Str)) = false := by decide) : PE X (.Name x pos) (tC (.ref C)) := pe_glob hg hm rfl hd
/-- a thing without parts -/
def D.sc : D → Bool
  | .non => true
  | .bl _ => true
  | .int _ => true
  | .str _ => true
  | _ => false
theorem Dt.any {K : PySem.W.Frag} {H H' : Hp} {v : V} {d : D} (h : Dt K H v d) (s : d.sc = true) : Dt K H' v d := by
  cases h with
  | non => exact .non
  | bl b => exact .bl b
  | int i => exact .int i
  | str x => exact .str x
  | lst _ _ => cases s
  | tup _ _ => cases s
  | dic _ _ => cases s
  | exc _ _ _ => cases s
theorem DtA.any {K : PySem.W.Frag} {H H' : Hp} : ∀ {v : List V} {d : List D}, DtA K H v d → (∀ x ∈ d, x.sc = true) → DtA K H' v d
  | _, _, .nil, _ => .nil
  | _, _, .cons a b, h => .cons (a.any (h _ (List.mem_cons_self ..))) (b.any fun x hx => h x (List.mem_cons_of_mem _ hx))
/-- [e for k in range(n)], n written, e without parts -/
theorem mk_lcR {K : PySem.W.Frag} {σ : Sg} {H : Hp} {te : TE} {i n : Nat} {f : Nat → D} (hn : n ≤ 100000) (hs : ∀ k, (f k).sc = true) (h : ∀ k, k < n → ∀ H1, Same H H1 → Mk K te ((σ.set i none).set i (some (.int (k : Int)))) H1 (f k)) :
    Mk K (tLc (iRng1 (tCons (tC (.int (n : Int))) tNil)) (gName i) tYes te [i]) σ H (.lst ((List.range n).map f)) := fun H1 s Q q => by
  have flat : ∀ j, ∀ x ∈ (List.range j).map f, x.sc = true := fun j x hx => by
    obtain ⟨k, _, rfl⟩ := List.mem_map.mp hx
    exact hs k
  refine ⟨(n : Int), rfl, by omega, by omega, fun p np => lc_range (lo := 0) (n := n) (fun j H' => ∃ xs : List V, H' p = some (.lst xs) ∧ xs.length = j ∧ Same H1 H' ∧ DtA K H' xs ((List.range j).map f)) ⟨[], upd_same, rfl, same_new np, .nil⟩ ?_ ?_⟩
  · rintro j H' hj ⟨xs, e, l, s', a⟩
    have hk := h j hj H' (s.trans s') H' Gr.rfl'
    have w : (wipe σ [i]).set i (some (V.int (0 + (j : Int)))) = (σ.set i none).set i (some (.int (j : Int))) := by rw [Int.zero_add]; rfl
    refine ⟨?_, ?_⟩
    · rw [w]
      show ((σ.set i none).set i (some (.int (j : Int)))).set i none = σ.set i none
      rw [List.set_set, List.set_set]
    · rw [w]
      refine r_yes ?_
      refine hk _ fun v H2 s2 b => ⟨xs, s2 _ _ e, by rw [l]; exact sz2 (by omega), xs ++ [v], upd_same, by rw [List.length_append, l]; rfl, same_mut (s'.trans s2) np, ?_⟩
      rw [List.range_succ, List.map_append]
      exact (a.any (flat j)).app (.cons (b.any (hs j)) .nil)
  · rintro H' ⟨xs, e, l, s', a⟩
    exact q _ _ s' (.lst e a)
theorem ini_reading {K : PySem.W.Frag} {C : Addr} {f : Str} {H : Hp} {Q : VK} {vs : List V} {E : XK} (T : OexC K C) (no : PySem.W.findIn K (.ref C) f = some none) (h : spIni C f vs H Q E) :
    tOst K f (tVar 0) (tVar 1) { nx := fun _ H' => Q .non H', rt := Q } (L2.start ["self", f] vs) H := by
  obtain ⟨a, x, rfl, e, k⟩ := h
  exact ⟨x, rfl, .ref a, rfl, a, C, rfl, T, no, Or.inl ⟨e, fun d n ne => k d n ne⟩⟩
end TSx

/-! Own layer, part R5: data that stand apart from some addresses. -/
namespace TSx
open PySem L2
/-- the heap without the addresses of B -/
def wo (B : Addr → Bool) (H : Hp) : Hp := fun b => if B b = true then none else H b
def dom (H : Hp) : Addr → Bool := fun b => (H b).isSome
theorem wo_le {B : Addr → Bool} {H : Hp} : Same (wo B H) H := fun b o e => by
  unfold wo at e
  by_cases h : B b = true
  · rw [if_pos h] at e; cases e
  · rw [if_neg h] at e; exact e
theorem wo_at {B : Addr → Bool} {H : Hp} {b : Addr} (h : B b = false) : wo B H b = H b := by
  unfold wo
  rw [h]
  rfl
theorem wo_same {B : Addr → Bool} {H H' : Hp} (s : Same H H') : Same (wo B H) (wo B H') := fun b o e => by
  unfold wo at e ⊢
  by_cases h : B b = true
  · rw [if_pos h] at e; cases e
  · rw [if_neg h] at e ⊢; exact s b o e
theorem wo_kp {B : Addr → Bool} {H H' : Hp} {m g : Addr} (s : Kp m g H H') (hm : B m = true) (hg : B g = true) : Same (wo B H) (wo B H') := fun b o e => by
  unfold wo at e ⊢
  by_cases h : B b = true
  · rw [if_pos h] at e; cases e
  · rw [if_neg h] at e ⊢
    exact s b o (fun z => h (by rw [z]; exact hm)) (fun z => h (by rw [z]; exact hg)) e
theorem dom_of {H : Hp} {b : Addr} {o : HO} (h : H b = some o) : dom H b = true := by unfold dom; rw [h]; rfl
theorem dom_no {H : Hp} {b : Addr} (h : H b = none) : dom H b = false := by unfold dom; rw [h]; rfl
/-- te makes the data d, apart from B -/
def MkB (K : PySem.W.Frag) (B : Addr → Bool) (te : TE) (σ : Sg) (H : Hp) (d : D) : Prop := ∀ H1, Same H H1 → ∀ Q : VK, (∀ v H2, Same H1 H2 → Dt K (wo B H2) v d → Q v H2) → te σ H1 Q
def MkBA (K : PySem.W.Frag) (B : Addr → Bool) (ta : TA) (σ : Sg) (H : Hp) (ds : List D) : Prop := ∀ H1, Same H H1 → ∀ Q : List V → Hp → Prop, (∀ vs H2, Same H1 H2 → DtA K (wo B H2) vs ds → Q vs H2) → ta σ H1 Q
section
variable {K : PySem.W.Frag} {B : Addr → Bool} {σ : Sg} {H : Hp} {te ta tb : TE} {t : TA} {d : D} {ds es : List D}
theorem kb_non : MkB K B (tC .non) σ H .non := fun H1 _ Q q => q _ H1 Gr.rfl' .non
theorem kb_int {i : Int} : MkB K B (tC (.int i)) σ H (.int i) := fun H1 _ Q q => q _ H1 Gr.rfl' (.int i)
theorem kb_str {x : Str} : MkB K B (tC (.str x)) σ H (.str x) := fun H1 _ Q q => q _ H1 Gr.rfl' (.str x)
theorem kb_bl {b : Bool} : MkB K B (tC (.bl b)) σ H (.bl b) := fun H1 _ Q q => q _ H1 Gr.rfl' (.bl b)
theorem kb_var {n : Nat} {v : V} (h : σ[n]? = some (some v)) (a : Dt K (wo B H) v d) : MkB K B (tVar n) σ H d := fun H1 s Q q => ⟨v, h, q v H1 Gr.rfl' (a.gr (wo_same s))⟩
theorem kb_neg {i : Int} (h : MkB K B ta σ H (.int i)) : MkB K B (tUn (rU fun i => .int (-i)) ta) σ H (.int (-i)) := fun H1 s Q q => h H1 s _ fun v H2 s2 a => by
  cases a
  exact ⟨i, rfl, q _ H2 s2 (.int _)⟩
theorem kb_I {i j : Int} {C : Int → Int → Prop} {g : Int → Int → Int} (h : MkB K B ta σ H (.int i)) (h2 : MkB K B tb σ H (.int j)) (c : C i j) : MkB K B (tOp (rI C fun i j => .int (g i j)) ta tb) σ H (.int (g i j)) := fun H1 s Q q => h H1 s _ fun v H2 s2 a => h2 H2 (s.trans s2) _ fun u H3 s3 b => by
  cases a
  cases b
  exact ⟨i, j, rfl, rfl, c, q _ H3 (s2.trans s3) (.int _)⟩
theorem kba_nil : MkBA K B tNil σ H [] := fun H1 _ Q q => q _ H1 Gr.rfl' .nil
theorem kba_cons (h : MkB K B ta σ H d) (r : MkBA K B t σ H ds) : MkBA K B (tCons ta t) σ H (d :: ds) := fun H1 s Q q => h H1 s _ fun v H2 s2 a => r H2 (s.trans s2) _ fun vs H3 s3 b => q _ H3 (s2.trans s3) (.cons (a.gr (wo_same s3)) b)
/-- a free place is none of B's, where B's are all taken -/
theorem apart {H1 : Hp} {p : Addr} (hB : ∀ b, B b = true → H b ≠ none) (s : Same H H1) (n : H1 p = none) : B p = false := by
  cases e : B p with
  | false => rfl
  | true => exact absurd (gr_none s n) (hB p e)
theorem kb_tup (hB : ∀ b, B b = true → H b ≠ none) (h : MkBA K B t σ H ds) (z : ds.length ≤ 100000) : MkB K B (tTup t) σ H (.tup ds) := fun H1 s Q q => h H1 s _ fun vs H2 s2 a => by
  refine ⟨by rw [a.len]; exact sz1 z, fun p np => ?_⟩
  refine q _ _ (s2.trans (same_new np)) (.tup (SqT.of ?_) (a.gr (wo_same (same_new np))))
  rw [wo_at (apart hB (s.trans s2) np), upd_same]
theorem kb_lst (hB : ∀ b, B b = true → H b ≠ none) (h : MkBA K B t σ H ds) (z : ds.length ≤ 100000) : MkB K B (tLst t) σ H (.lst ds) := fun H1 s Q q => h H1 s _ fun vs H2 s2 a => by
  refine ⟨by rw [a.len]; exact sz1 z, fun p np => ?_⟩
  refine q _ _ (s2.trans (same_new np)) (.lst ?_ (a.gr (wo_same (same_new np))))
  rw [wo_at (apart hB (s.trans s2) np), upd_same]
theorem kb_dic (hB : ∀ b, B b = true → H b ≠ none) : MkB K B tDNewK σ H (.dic []) := fun H1 s Q q p np => q _ _ (same_new np) (.dic (by rw [wo_at (apart hB s np), upd_same]) .nil)
theorem kb_cat (hB : ∀ b, B b = true → H b ≠ none) (h : MkB K B ta σ H (.lst ds)) (h2 : MkB K B tb σ H (.lst es)) (z : ds.length + es.length ≤ 100000) : MkB K B (tOp rCat ta tb) σ H (.lst (ds ++ es)) := fun H1 s Q q => h H1 s _ fun v H2 s2 a => h2 H2 (s.trans s2) _ fun u H3 s3 b => by
  cases a with
  | @lst p xs ds ea aa =>
    cases b with
    | @lst r ys es eb bb =>
      refine ⟨p, r, xs, ys, rfl, rfl, s3 _ _ (wo_le _ _ ea), wo_le _ _ eb, by rw [aa.len, bb.len]; exact sz1 z, fun w nw => ?_⟩
      refine q _ _ ((s2.trans s3).trans (same_new nw)) (.lst ?_ (((aa.gr (wo_same s3)).app bb).gr (wo_same (same_new nw))))
      rw [wo_at (apart hB ((s.trans s2).trans s3) nw), upd_same]
end
end TSx

/-! Own layer, part R6: classes over OverflowError, two fields, lists times a number, a list's place, a comprehension over pairs. -/
namespace TSx
open PySem L2
/-- an own __init__ with two fields -/
def spIni2 (C : Addr) (f g : Str) : Sp := fun vs H Q _ => ∃ (a : Addr) (x y : V), vs = [.ref a, x, y] ∧ H a = some (exo a C none) ∧ ∀ d, H d = none → d ≠ a → Q .non (upd (upd (upd H d (exd d [(f, x)])) a (exo a C (some d))) d (exd d [(g, y), (f, x)]))
structure Xo (P : Program) (w : World) (K : PySem.W.Frag) (mg : Str → Option Value) (base : Heap) (nm fld : Str) (C fI : Addr) (fd : FuncData) : Prop where
  o : OofC K C
  a : ExcC K C
  iC : PySem.W.findIn K (.ref C) "__init__" = some (some (.ref fI))
  tI : PySem.W.typeIn K (.ref fI) = some (.type "function")
  F : FnOk P w K mg base CX0 1 fI fd ["self", fld] (spIni C fld)
  b : Binds K fd ["self", fld] []
  g : mg nm = some (.ref C)
  no : PySem.W.findIn K (.ref C) fld = some none
def swp {α : Type} : List α → List α
  | [x, y] => [y, x]
  | l => l
theorem swp_rel {zs : List V} {ws : List Value} (r : Vals zs ws) : Vals (swp zs) (swp ws) := by
  cases r with
  | nil => exact .nil
  | cons a r =>
    cases r with
    | nil => exact .cons a .nil
    | cons b r =>
      cases r with
      | nil => exact .cons b (.cons a .nil)
      | cons c r => exact .cons a (.cons b (.cons c r))
structure Xt (P : Program) (w : World) (K : PySem.W.Frag) (mg : Str → Option Value) (base : Heap) (nm f1 f2 : Str) (C fI : Addr) (fd : FuncData) : Prop where
  o : OexC K C
  a : ExcC K C
  iC : PySem.W.findIn K (.ref C) "__init__" = some (some (.ref fI))
  tI : PySem.W.typeIn K (.ref fI) = some (.type "function")
  F : FnOk P w K mg base CX0 1 fI fd ["self", f1, f2] (spIni2 C f1 f2)
  b : Binds K fd ["self", f1, f2] []
  kw : KwB fd ["self", f1, f2] [f2, f1] swp swp
  g : mg nm = some (.ref C)
  no1 : PySem.W.findIn K (.ref C) f1 = some none
  no2 : PySem.W.findIn K (.ref C) f2 = some none
section
variable {K : PySem.W.Frag} {σ : Sg} {H : Hp} {te ta tb : TE} {t : TA} {d d1 d2 : D} {ds es : List D} {C : Addr} {f g : Str}
theorem ofi_reading {Q : VK} {vs : List V} {E : XK} (T : OofC K C) (no : PySem.W.findIn K (.ref C) f = some none) (h : spIni C f vs H Q E) :
    tOfS K f (tVar 0) (tVar 1) { nx := fun _ H' => Q .non H', rt := Q } (L2.start ["self", f] vs) H := by
  obtain ⟨a, x, rfl, e, k⟩ := h
  exact ⟨x, rfl, .ref a, rfl, a, C, rfl, T, no, e, fun d n ne => k d n ne⟩
theorem ini2_reading {Q : VK} {vs : List V} {E : XK} (T : OexC K C) (no1 : PySem.W.findIn K (.ref C) f = some none) (no2 : PySem.W.findIn K (.ref C) g = some none) (h : spIni2 C f g vs H Q E) :
    tSeq (tOst K f (tVar 0) (tVar 1)) (tOst K g (tVar 0) (tVar 2)) { nx := fun _ H' => Q .non H', rt := Q } (L2.start ["self", f, g] vs) H := by
  obtain ⟨a, x, y, rfl, e, k⟩ := h
  refine ⟨x, rfl, .ref a, rfl, a, C, rfl, T, no1, Or.inl ⟨e, fun d n ne => ?_⟩⟩
  refine ⟨y, rfl, .ref a, rfl, a, C, rfl, T, no2, Or.inr ⟨d, [(f, x)], upd_same, ?_, (show 1 ≤ 900 by decide), k d n ne⟩⟩
  rw [upd_ne ne, upd_same]
theorem made_gr2 {H1 : Hp} {a dd : Addr} {x y : V} (na : H1 a = none) (nd : (upd H1 a (exo a C none)) dd = none) (ne : dd ≠ a) :
    Same H1 (upd (upd (upd (upd (upd (upd H1 a (exo a C none)) dd (exd dd [(f, x)])) a (exo a C (some dd))) dd (exd dd [(g, y), (f, x)])) a (exq a C dd)) dd (.xd [(g, y), (f, x)])) := fun b o e => by
  have hb : b ≠ a := ne_of_none e na
  have hd : b ≠ dd := fun z => by rw [z] at e; rw [upd_ne ne, e] at nd; cases nd
  rw [upd_ne hd, upd_ne hb, upd_ne hd, upd_ne hb, upd_ne hd, upd_ne hb]
  exact e
theorem mk_mkX2 (h : Mk K ta σ H d1) (h2 : Mk K tb σ H d2) : Mk K (tMkX C (spIni2 C f g) (tCons ta (tCons tb tNil))) σ H (.exc C [(g, d2), (f, d1)]) := fun H1 s Q q => h H1 s _ fun v H2 s2 a => h2 H2 (s.trans s2) _ fun u H3 s3 b => by
  refine ⟨(show 2 ≤ 1000 by decide), fun p np => ⟨p, v, u, rfl, upd_same, fun dd nd ne => ⟨rfl, dd, [(g, u), (f, v)], ?_, upd_same, ?_⟩⟩⟩
  · rw [upd_ne (Ne.symm ne), upd_same]
  · have gg := made_gr2 (C := C) (f := f) (g := g) (x := v) (y := u) np nd ne
    refine q _ _ ((s2.trans s3).trans gg) (.exc (d := dd) (xs := [(g, u), (f, v)]) ?_ upd_same (.cons (b.gr gg) (.cons ((a.gr s3).gr gg) .nil)))
    rw [upd_ne (Ne.symm ne), upd_same]
theorem mk_mkK2 (h : Mk K ta σ H d2) (h2 : Mk K tb σ H d1) : Mk K (tMkK C 2 (spIni2 C f g) swp (tCons ta (tCons tb tNil))) σ H (.exc C [(g, d2), (f, d1)]) := fun H1 s Q q => h H1 s _ fun u H2 s2 b => h2 H2 (s.trans s2) _ fun v H3 s3 a => by
  refine ⟨rfl, fun p np => ⟨p, v, u, rfl, upd_same, fun dd nd ne => ⟨rfl, dd, [(g, u), (f, v)], ?_, upd_same, ?_⟩⟩⟩
  · rw [upd_ne (Ne.symm ne), upd_same]
  · have gg := made_gr2 (C := C) (f := f) (g := g) (x := v) (y := u) np nd ne
    refine q _ _ ((s2.trans s3).trans gg) (.exc (d := dd) (xs := [(g, u), (f, v)]) ?_ upd_same (.cons ((b.gr s3).gr gg) (.cons (a.gr gg) .nil)))
    rw [upd_ne (Ne.symm ne), upd_same]
theorem DtA.rep {vs : List V} (h : DtA K H vs ds) : ∀ n : Nat, DtA K H (List.replicate n vs).flatten (List.replicate n ds).flatten
  | 0 => .nil
  | n + 1 => by
    rw [List.replicate_succ, List.replicate_succ, List.flatten_cons, List.flatten_cons]
    exact h.app (DtA.rep h n)
theorem mk_rep {k : Int} (h : Mk K ta σ H (.lst ds)) (h2 : Mk K tb σ H (.int k)) (k0 : 0 ≤ k) (k1 : k < 1000) (z : ds.length ≤ 100) : Mk K (tOp rRep ta tb) σ H (.lst (List.replicate k.toNat ds).flatten) := fun H1 s Q q => h H1 s _ fun v H2 s2 a => h2 H2 (s.trans s2) _ fun u H3 s3 b => by
  cases b
  cases a with
  | @lst p xs _ e aa =>
    refine ⟨p, k, xs, rfl, rfl, s3 _ _ e, by omega, by omega, ?_, fun w nw => q _ _ ((s2.trans s3).trans (same_new nw)) (.lst upd_same (((aa.gr s3).rep _).gr (same_new nw)))⟩
    refine sz1 (Nat.le_trans (Nat.mul_le_mul (show xs.length ≤ 100 by rw [aa.len]; exact z) (show k.toNat ≤ 1000 by omega)) (by decide))
theorem DtA.nth {vs : List V} {i : Nat} {y : D} (h : DtA K H vs ds) (e : ds[i]? = some y) : ∃ x, vs[i]? = some x ∧ Dt K H x y := by
  induction ds generalizing vs i with
  | nil => simp at e
  | cons z l ih =>
    cases h with
    | @cons v ws _ _ a b =>
    cases i with
    | zero => simp at e; subst e; exact ⟨v, rfl, a⟩
    | succ i =>
      obtain ⟨x, h1, h2⟩ := ih b (by simpa using e)
      exact ⟨x, by simpa using h1, h2⟩
theorem mk_ixL {i : Nat} (h : Mk K ta σ H (.lst ds)) (h2 : Mk K tb σ H (.int (i : Int))) (e : ds[i]? = some d) : Mk K (tOp (rIxL K) ta tb) σ H d := fun H1 s Q q => h H1 s _ fun v H2 s2 a => h2 H2 (s.trans s2) _ fun u H3 s3 b => by
  cases b
  cases a with
  | @lst p xs _ el aa =>
    obtain ⟨x, hx, ax⟩ := aa.nth e
    exact ⟨p, xs, (i : Int), x, rfl, rfl, SqL.of (s3 _ _ el), atI_nat hx, q x _ (s2.trans s3) (ax.gr s3)⟩
end
def rowD (p : Str × Bool) : D := .tup [.str p.1, .bl p.2]
theorem mk_lcT {K : PySem.W.Frag} {H : Hp} {ti : TE} {a b c d : Option V} (rows : List (Str × Bool)) (h : Mk K ti [a, b, c, d] H (.lst (rows.map rowD))) (z : rows.length < 1000) :
    Mk K (tLc (iList K ti) (gTup K 2 (gCons (gName 2) (gCons (gName 3) gNil))) (tB (tVar 3)) (tVar 2) [2, 3]) [a, b, c, d] H (.lst ((rows.filter (·.2)).map fun p => .str p.1)) := fun H1 s Q q => h H1 s _ fun v H2 s2 av => by
  cases av with
  | @lst p xs _ e aa =>
  have lx : xs.length = rows.length := by rw [aa.len, List.length_map]
  refine ⟨p, rfl, ⟨xs, SqL.of e⟩, fun D hD => lc_list (K := K) (a := p) (xs := xs) (fun k H' => Same H2 H' ∧ ∃ ys : List V, H' D = some (.lst ys) ∧ ys.length ≤ k ∧ DtA K H' ys (((rows.take k).filter (·.2)).map fun p => .str p.1))
    ⟨same_new hD, [], upd_same, Nat.le_refl _, .nil⟩ (fun k H' _ w => SqL.of (w.1 _ _ e)) ?_ ?_⟩
  · rintro k x H' hx ⟨s', ys, ey, ly, ay⟩
    obtain ⟨dx, edx, adx⟩ := aa.at hx
    obtain ⟨r, hr, rfl⟩ : ∃ r, rows[k]? = some r ∧ rowD r = dx := by
      rw [List.getElem?_map] at edx
      cases q : rows[k]? with
      | none => rw [q] at edx; cases edx
      | some r => rw [q] at edx; cases edx; exact ⟨r, rfl, rfl⟩
    have kl : k < rows.length := (List.getElem?_eq_some_iff.mp hr).1
    have tk : rows.take (k + 1) = rows.take k ++ [r] := by rw [List.take_add_one, hr]; rfl
    obtain ⟨l, bb⟩ := r
    cases adx with
    | @tup t ws _ hT at2 =>
    cases at2 with
    | cons q1 at2 =>
    cases at2 with
    | cons q2 at2 =>
    cases at2
    cases q1
    cases q2
    refine ⟨t, _, rfl, gr_T s' hT, rfl, _, _, rfl, r_name ⟨_, _, rfl, r_name ⟨rfl, rfl, ?_⟩⟩⟩
    refine ⟨_, rfl, bb, rfl, ?_⟩
    cases bb with
    | false =>
      refine iteF ?_
      refine ⟨s', ys, ey, by omega, ?_⟩
      rw [tk, List.filter_append]
      simpa using ay
    | true =>
      refine iteT ?_
      refine ⟨_, rfl, ys, ey, sz2 (by omega), same_mut s' hD, _, upd_same, by rw [List.length_append]; simpa using ly, ?_⟩
      rw [tk, List.filter_append, List.map_append]
      have flat : ∀ {l : List (Str × Bool)}, ∀ x ∈ l.map (fun p : Str × Bool => TSx.D.str p.1), x.sc = true := by
        intro l x hx
        obtain ⟨y, _, rfl⟩ := List.mem_map.mp hx
        rfl
      exact (ay.any flat).app (.cons (.str l) .nil)
  · rintro H' ⟨s', ys, ey, ly, ay⟩
    refine q _ _ (s2.trans s') (.lst ey ?_)
    rw [lx, List.take_length] at ay
    exact ay
end TSx

namespace TSx
open PySem L2
local macro_rules | `(tactic| walk_at "rd") => `(tactic| repeat (first
  | ((with_reducible show tVar _ _ _ _); refine r_v rfl ?_)
  | with_reducible refine r_c ?_
  | with_reducible refine r_op ?_
  | with_reducible refine r_I0 ?_
  | with_reducible refine r_cb ?_
  | with_reducible refine r_nil ?_
  | with_reducible refine r_cons ?_
  | with_reducible refine r_seq ?_
  | with_reducible refine r_next ?_
  | with_reducible refine r_asg ?_
  | with_reducible refine r_name ?_
  | with_reducible refine r_ret ?_
  | with_reducible refine r_drop ?_
  | with_reducible refine r_if ?_
  | with_reducible refine r_test ?_
  | with_reducible refine r_bl ?_
  | with_reducible refine r_int1 ?_
  | ((with_reducible refine r_mul ?hm ?_); (case hm => first | exact cmR (by omega) (by omega) | exact cmL (by omega) (by omega)))
  | ((with_reducible refine r_div ?hm ?_); (case hm => exact cdv (by omega) (by omega)))
  | ((with_reducible refine r_mod ?hm ?_); (case hm => omega))
  | with_reducible refine r_sub ?_
  | with_reducible refine r_dget ?_
  | with_reducible refine r_dput ?_
  | with_reducible refine r_lst ?_
  | with_reducible refine r_call ?_))
def top (i : Nat) : Stmt := PySem.Challenge.pw_termseats_k80_errors_of_the_third_part.main.body.getD i (.Pass ⟨0, 0, 0, 0⟩)
abbrev sMixed : Stmt := top 14
theorem scMixed : FnScope ["cell", "n", "blend"] ["cell", "n"] (defScope sMixed) := ⟨rfl, rfl, rfl, by decide +kernel, rfl, by decide +kernel, by decide +kernel⟩
section
variable {P : Program} {w : World} {K : PySem.W.Frag} {mg : Str → Option Value} {base : Heap}
theorem ok_mixed {f : Addr} {fd : FuncData} (F : L2.Fun K "_law_mixed" "_law_mixed" sMixed f fd) (T : Blt mg) : FnOk P w K mg base CX0 1 f fd ["cell", "n"] spMixed := by
  refine F.ok scMixed (fun vs H Q E h => ?_) (fun cdv A outer s H vs Q E hr h => ?_)
  · obtain ⟨c, n, rfl, _⟩ := h
    rfl
  · obtain ⟨c, n, rfl, c0, c1, n0, n1, k⟩ := h
    refine ⟨_, pss_cons (ps_set (i := 2) scMixed.nd rfl (Or.inl rfl)
        (pe_op op_add (pe_op op_add (pe_op op_mod (pe_callTy call_intI (by rfl) T.int PyProof.Rows.boot_int (pa_cons (pe_op op_mul (pe_op op_mul (pv 0) (pe_op op_add pe_int (pe_op op_mul pe_int (pv 1)))) pe_int) pa_nil)) pe_int)
          (pe_op op_mul (pe_op op_mul pe_int (pv 1)) (pv 1))) (pe_op op_mul pe_int (pv 1))))
      (pss_one (ps_ret (pe_op op_fdiv (pe_op op_mod (pe_callTy call_intI (by rfl) T.int PyProof.Rows.boot_int (pa_cons (pe_op op_mul (pv 2) pe_int) pa_nil)) pe_int) pe_int))), ?_⟩
    walk_at "rd"
    exact k _ (by omega) (by omega)
abbrev sFolded : Stmt := top 15
theorem scFolded : FnScope ["script", "found", "n", "cell"] ["script"] (defScope sFolded) := ⟨rfl, rfl, rfl, by decide +kernel, rfl, by decide +kernel, by decide +kernel⟩
theorem ok_folded {f : Addr} {fd : FuncData} (F : L2.Fun K "_law_folded" "_law_folded" sFolded f fd) (T : Blt mg) : FnOk P w K mg base CX0 1 f fd ["script"] (spFolded K) := by
  refine F.ok scFolded (fun vs H Q E h => ?_) (fun cdv A outer s H vs Q E hr h => ?_)
  · obtain ⟨a, ns, rfl, _⟩ := h
    rfl
  · obtain ⟨a, ns, rfl, hS, hz, k⟩ := h
    refine ⟨_, pss_cons (ps_setLc (i := 1) (own := [("n", 2)]) (g := gName 2) (tt := tYes) rfl scFolded.nd rfl rfl (sw_true rfl rfl rfl (by decide +kernel)) (pi_range1 rfl T.range (pa_cons pe_int pa_nil)) (blkOk_by (N := ["script", "found", "n", "cell"]) (sc := defScope sFolded) (by decide +kernel))
        (fun _ _ _ _ _ => pg_name (i := 2) scFolded.nd rfl (Or.inl rfl)) (fun _ _ _ _ _ => pts_nil) (fun _ _ _ _ _ => pe_op op_add pe_int (pv 2)))
      (pss_cons (ps_for PassesOwn.never rfl (pi_enum (by rfl) T.enumerate (pa_cons (pv 0) pa_nil)) (pg_tup rfl (pgs_cons (pg_name (i := 2) scFolded.nd rfl (Or.inl rfl)) (pgs_cons (pg_name (i := 3) scFolded.nd rfl (Or.inl rfl)) pgs_nil)))
        (pss_one (ps_asg (pe_op op_mod (pe_callTy call_intI (by rfl) T.int PyProof.Rows.boot_int (pa_cons (pe_op op_add (pe_op op_mul (pe_ix ix_list (pv 1) (pe_op op_mod (pe_callTy call_intI (by rfl) T.int PyProof.Rows.boot_int (pa_cons (pv 2) pa_nil)) pe_int) (fun _ _ => rfl)) pe_int) (pv 3)) pa_nil)) pe_int)
          (pg_sub (pv 1) (pe_op op_mod (pe_callTy call_intI (by rfl) T.int PyProof.Rows.boot_int (pa_cons (pv 2) pa_nil)) pe_int) set_list))))
      (pss_cons (ps_for PassesOwn.never rfl (pi_range2 rfl T.range (pa_cons pe_int (pa_cons pe_int pa_nil))) (pg_name (i := 2) scFolded.nd rfl (Or.inl rfl))
        (pss_one (ps_asg (pe_op op_mod (pe_callTy call_intI (by rfl) T.int PyProof.Rows.boot_int (pa_cons (pe_op op_add (pe_ix ix_list (pv 1) (pv 2) (fun _ _ => rfl)) (pe_op op_mul (pe_ix ix_list (pv 1) (pe_op op_sub (pv 2) pe_int) (fun _ _ => rfl)) pe_int)) pa_nil)) pe_int)
          (pg_sub (pv 1) (pv 2) set_list))))
      (pss_one (ps_ret (pv 1))))), ?_⟩
    walk_at "rd"
    refine ⟨64, rfl, by decide, by decide, fun D hD => lc_range (lo := 0) (n := 64) (fun i H' => ∃ cs : List Int, cs.length = i ∧ (∀ c ∈ cs, 0 ≤ c ∧ c < 2147483647) ∧ H' D = some (.lst (cs.map V.int)) ∧ Same H H')
      ⟨[], rfl, by simp, upd_same, same_new hD⟩ ?_ ?_⟩
    · rintro i H' hi ⟨cs, hl, hc, hD', hs⟩
      refine ⟨rfl, r_yes ?_⟩
      walk_at "rd"
      refine ⟨_, hD', ?_, ?_⟩
      · rw [List.length_map]; exact sz2 (by omega)
      · refine ⟨cs ++ [17 + (0 + (i : Int))], by rw [List.length_append, hl]; rfl, fun c hm => ?_, ?_, same_mut hs hD⟩
        · rcases List.mem_append.mp hm with z | z
          · exact hc c z
          · rw [List.mem_singleton.mp z]; omega
        · rw [upd_same, List.map_append]; rfl
    · rintro H' ⟨cs, hl, hc, hD', hs⟩
      walk_at "rd"
      refine ⟨_, rfl, a, _, rfl, hs.seq hS, for_it (walk_enum (K := K) (a := a) (xs := ns.map V.int)) (fun i σ H2 => ∃ (cs : List Int) (x y : Option V), σ = [some (.ref a), some (.ref D), x, y] ∧ Cells cs ∧ H2 D = some (.lst (cs.map V.int)) ∧ Same H H2)
        ⟨cs, _, _, rfl, ⟨hl, hc⟩, hD', hs⟩ (fun i σ H2 _ z => by obtain ⟨_, _, _, _, _, _, z⟩ := z; exact z.seq hS) ?_ ?_⟩
      · rintro i v σ H2 H3 hi ⟨cs, x, y, rfl, hC, hD2, s2⟩ ⟨T, x', y', rfl, nT, rfl, e1, e2⟩
        cases e1
        replace e2 : (List.map V.int ns)[i]? = some y' := e2
        obtain ⟨z, rfl⟩ : ∃ z, y' = V.int z := by
          rw [List.getElem?_map] at e2
          cases q : ns[i]? with
          | none => rw [q] at e2; cases e2
          | some z => rw [q] at e2; cases e2; exact ⟨z, rfl⟩
        have hT : ∀ {u : HO}, (upd H2 T u) D = some (.lst (cs.map V.int)) := fun {u} => by rw [upd_ne (ne_of_none hD2 nT)]; exact hD2
        have sT : ∀ {u : HO}, Same H (upd H2 T u) := fun {u} => s2.trans (same_new nT)
        have hlt : i % 64 < cs.length := by rw [hC.len]; omega
        obtain ⟨c, hc1, hc2⟩ := at_int hlt
        have hb := hC.low c hc1
        refine ⟨T, _, rfl, SqT.of upd_same, rfl, _, _, rfl, _, _, rfl, rfl, ?_⟩
        walk_at "rd"
        refine r_ixL hT (by rw [show ((i : Int) % 64) = ((i % 64 : Nat) : Int) by omega]; exact hc2) ?_
        walk_at "rd"
        refine r_setL hT (j := i % 64) (by rw [List.length_map, show ((i : Int) % 64) = ((i % 64 : Nat) : Int) by omega]; exact ixN_int hlt) ?_
        rw [map_set]
        exact ⟨_, _, _, rfl, hC.set _ (by omega) (by omega), upd_same, same_mut sT hD⟩
      · rintro σ H2 ⟨cs, x, y, rfl, hC, hD2, s2⟩
        walk_at "rd"
        refine ⟨1, 64, rfl, ⟨by decide, by decide, by decide, by decide⟩, for_range (lo := 1) (n := 63) (fun i σ H2 => ∃ (cs : List Int) (x y : Option V), σ = [some (.ref a), some (.ref D), x, y] ∧ Cells cs ∧ H2 D = some (.lst (cs.map V.int)) ∧ Same H H2)
          ⟨cs, _, _, rfl, hC, hD2, s2⟩ ?_ ?_⟩
        · rintro i σ H2 hi ⟨cs, x, y, rfl, hC, hD2, s2⟩
          have l1 : i + 1 < cs.length := by rw [hC.len]; omega
          have l2 : i < cs.length := by rw [hC.len]; omega
          obtain ⟨c, hc1, hc2⟩ := at_int l1
          obtain ⟨d, hd1, hd2⟩ := at_int l2
          have hb := hC.low c hc1
          have hb2 := hC.low d hd1
          walk_at "rd"
          refine r_ixL hD2 (by rw [show ((1 : Int) + (i : Int)) = ((i + 1 : Nat) : Int) by omega]; exact hc2) ?_
          walk_at "rd"
          refine r_ixL hD2 (by rw [show ((1 : Int) + (i : Int) - 1) = ((i : Nat) : Int) by omega]; exact hd2) ?_
          walk_at "rd"
          refine r_setL hD2 (j := i + 1) (by rw [List.length_map, show ((1 : Int) + (i : Int)) = ((i + 1 : Nat) : Int) by omega]; exact ixN_int l1) ?_
          rw [map_set]
          exact ⟨_, _, _, rfl, hC.set _ (by omega) (by omega), upd_same, same_mut s2 hD⟩
        · rintro σ H2 ⟨cs, x, y, rfl, hC, hD2, s2⟩
          walk_at "rd"
          exact k _ D cs hD s2 hC hD2
abbrev sDraw : Stmt := top 16
theorem scDraw : FnScope ["m", "limit", "n", "lot", "here", "cell"] ["m", "limit"] (defScope sDraw) := ⟨rfl, rfl, rfl, by decide +kernel, rfl, by decide +kernel, by decide +kernel⟩
theorem ok_draw {f fM : Addr} {fd fdM : FuncData} (F : L2.Fun K "_law_draw" "_law_draw" sDraw f fd) (T : Blt mg) (FM : L2.Fun K "_law_mixed" "_law_mixed" sMixed fM fdM) (gM : mg "_law_mixed" = some (.ref fM)) (bM : Binds K fdM ["cell", "n"] []) : FnOk P w K mg base CX0 2 f fd ["m", "limit"] spDraw := by
  have GM : FnOk P w K mg base CX0 1 fM fdM ["cell", "n"] spMixed := ok_mixed FM T
  refine F.ok scDraw (fun vs H Q E h => ?_) (fun cdv A outer s H vs Q E hr h => ?_)
  · obtain ⟨m, c, g, r, l, rfl, _⟩ := h
    rfl
  · obtain ⟨m, c, g, r, l, rfl, l0, l1, ⟨⟨n, cs, gs, h1, h2, h3, hC, hg, hn⟩, ne⟩, k⟩ := h
    have hu := hu_of hr
    have kpM : PySem.W.keepIn K (.ref fM) = true := FM.kp
    refine ⟨_, pss_cons (ps_set (i := 2) scDraw.nd rfl (Or.inl rfl) (pe_dget hu (pv 0) pe_str (fun _ _ => rfl)))
      (pss_cons (ps_dput hu (pv 0) pe_str (pe_op op_add (pv 2) pe_int) rfl)
      (pss_cons (ps_if (pt_cmpR (op_neD hr.units) (pe_dget hu (pv 0) pe_str (fun _ _ => rfl)) (pe_lst pa_nil) (nomark _))
        (pss_cons (ps_set (i := 3) scDraw.nd rfl (Or.inl rfl) (pe_dget hu (pv 0) pe_str (fun _ _ => rfl)))
        (pss_cons (ps_set (i := 4) scDraw.nd rfl (Or.inl rfl) (pe_op op_mod (pe_callTy call_intI (by rfl) T.int PyProof.Rows.boot_int (pa_cons (pv 2) pa_nil)) (pe_callB call_len_seq (by rfl) T.len PySem.boot_len (pa_cons (pv 3) pa_nil))))
        (pss_cons (ps_set (i := 5) scDraw.nd rfl (Or.inl rfl) (pe_ix ix_list (pv 3) (pv 4) (fun _ _ => rfl)))
        (pss_one (ps_if (pt_cmpR op_gt (pv 5) pe_int (nomark _))
          (pss_cons (ps_asg (pe_op op_fdiv (pv 5) (pv 1)) (pg_sub (pv 3) (pv 4) set_list))
          (pss_one (ps_ret (pe_op op_mod (pe_callTy call_intI (by rfl) T.int PyProof.Rows.boot_int (pa_cons (pv 5) pa_nil)) (pv 1))))) pss_nil))))) pss_nil)
      (pss_cons (ps_set (i := 3) scDraw.nd rfl (Or.inl rfl) (pe_dget hu (pv 0) pe_str (fun _ _ => rfl)))
      (pss_one (ps_ret (pe_op op_mod (pe_callTy call_intI (by rfl) T.int PyProof.Rows.boot_int (pa_cons
        (pe_call GM hr rfl gM kpM bM .nil pass0 (pa_cons (pe_call GM hr rfl gM kpM bM .nil pass0 (pa_cons (pe_op op_add (pe_ix ix_list (pv 3) (pe_op op_mod (pe_callTy call_intI (by rfl) T.int PyProof.Rows.boot_int (pa_cons (pv 2) pa_nil)) pe_int) (fun _ _ => rfl)) (pe_op op_mul pe_int (pe_op op_fdiv (pv 2) pe_int))) (pa_cons (pv 2) pa_nil)))
          (pa_cons (pe_op op_add (pv 2) pe_int) pa_nil))) pa_nil)) (pv 1))))))), ?_⟩
    -- n = m["spot"]; m["spot"] = n + 1
    have mc : c ≠ m := fun e => by rw [e, h1] at h2; cases h2
    have mg' : g ≠ m := fun e => by rw [e, h1] at h3; cases h3
    have c2 : ∀ u, (upd H m u) c = some (.lst (cs.map V.int)) := fun u => by rw [upd_ne mc]; exact h2
    have g2 : ∀ u, (upd H m u) g = some (.lst (gs.map V.int)) := fun u => by rw [upd_ne mg']; exact h3
    walk_at "rd"
    refine ⟨m, _, rfl, dg_spot h1, ?_⟩
    walk_at "rd"
    refine ⟨m, _, rfl, dp_spot h1, ?_⟩
    have hm : (upd H m (.dK (kvM c g ((n : Int) + 1)))) m = some (.dK (kvM c g ((n : Int) + 1))) := upd_same
    generalize hH1 : upd H m (.dK (kvM c g ((n : Int) + 1))) = H1
    have c3 : H1 c = some (.lst (cs.map V.int)) := by rw [← hH1]; exact c2 _
    have g3 : H1 g = some (.lst (gs.map V.int)) := by rw [← hH1]; exact g2 _
    rw [hH1] at hm
    have kp1 : Kp m g H H1 := fun b o b1 b2 e => by rw [← hH1, upd_ne b1]; exact e
    have cast1 : ((n : Int) + 1) = ((n + 1 : Nat) : Int) := by omega
    -- if m["great"] != []
    walk_at "rd"
    refine ⟨m, _, rfl, dg_great hm, ?_⟩
    walk_at "rd"
    refine ⟨Nat.zero_le _, fun p np => ?_⟩
    have sp : Same H1 (upd H1 p (.lst [])) := same_new np
    refine r_neD (d := .lst (gs.map D.int)) (e := .lst []) (.lst (sp _ _ g3) (dts gs)) (.lst upd_same .nil) (pl_ints gs) rfl (depth_ints gs) (by decide) ?_
    refine r_bl ?_
    have hm2 := sp _ _ hm
    have g4 := sp _ _ g3
    have c4 := sp _ _ c3
    have kp2 : Kp m g H (upd H1 p (.lst [])) := kp1.tr (Kp.of sp)
    generalize upd H1 p (.lst []) = H2 at hm2 g4 c4 kp2 ⊢
    have e0 : PyData.eqv (D.lst (gs.map D.int)).py (D.lst []).py = gs.isEmpty := eqv_nil gs
    rw [e0]
    have fin : ∀ (v : Int) (H3 : Hp) (gs' : List Int), 0 ≤ v → v < l → H3 m = some (.dK (kvM c g ((n : Int) + 1))) → H3 c = some (.lst (cs.map V.int)) → H3 g = some (.lst (gs'.map V.int)) → gs'.length ≤ 63 → Kp m g H H3 → Q (.int v) H3 := fun v H3 gs' v0 v1 a1 a2 a3 a4 a5 =>
      k v H3 v0 v1 ⟨⟨n + 1, cs, gs', by rw [a1, cast1], a2, a3, hC, a4, by omega⟩, ne⟩ a5
    cases gs with
    | nil =>
      refine r_ifF rfl ?_
      walk_at "rd"
      refine ⟨m, _, rfl, dg_cells hm2, ?_⟩
      walk_at "rd"
      have hlt : n % 64 < cs.length := by rw [hC.len]; omega
      obtain ⟨x, hx1, hx2⟩ := at_int hlt
      have hb := hC.low x hx1
      refine r_ixL c4 (by rw [show ((n : Int) % 64) = ((n % 64 : Nat) : Int) by omega]; exact hx2) ?_
      walk_at "rd"
      refine ⟨_, _, rfl, by omega, by omega, by omega, by omega, fun v v0 v1 => ?_⟩
      walk_at "rd"
      refine ⟨_, _, rfl, by omega, by omega, by omega, by omega, fun v' v0' v1' => ?_⟩
      walk_at "rd"
      exact fin _ H2 [] (Int.emod_nonneg _ (by omega)) (Int.emod_lt_of_pos _ l0) hm2 c4 g4 hg kp2
    | cons a0 gs0 =>
      refine r_ifT rfl ?_
      walk_at "rd"
      refine ⟨m, _, rfl, dg_great hm2, ?_⟩
      walk_at "rd"
      refine ⟨g, _, rfl, Or.inl (SqL.of g4), ?_⟩
      have len0 : ((List.map V.int (a0 :: gs0)).length : Int) = ((gs0.length + 1 : Nat) : Int) := by simp
      rw [len0]
      walk_at "rd"
      have hlt : n % (gs0.length + 1) < (a0 :: gs0).length := Nat.mod_lt _ (Nat.succ_pos _)
      have em : ((n : Int) % ((gs0.length + 1 : Nat) : Int)) = ((n % (gs0.length + 1) : Nat) : Int) := by simp
      obtain ⟨x, hx1, hx2⟩ := at_int hlt
      refine r_ixL g4 (by rw [em]; exact hx2) ?_
      walk_at "rd"
      by_cases xp : 0 < x
      · refine r_ifT (decide_eq_true xp) ?_
        walk_at "rd"
        refine r_setL g4 (j := n % (gs0.length + 1)) (by rw [List.length_map, em]; exact ixN_int hlt) ?_
        walk_at "rd"
        rw [map_set]
        have gm : ∀ u, (upd H2 g u) m = some (.dK (kvM c g ((n : Int) + 1))) := fun u => by rw [upd_ne (Ne.symm mg')]; exact hm2
        have gc : ∀ u, (upd H2 g u) c = some (.lst (cs.map V.int)) := fun u => by rw [upd_ne ne]; exact c4
        exact fin _ _ _ (Int.emod_nonneg _ (by omega)) (Int.emod_lt_of_pos _ l0) (gm _) (gc _) upd_same (by rw [List.length_set]; exact hg) fun b o b1 b2 e => by rw [upd_ne b2]; exact kp2 b o b1 b2 e
      · refine r_ifF (decide_eq_false xp) ?_
        walk_at "rd"
        refine ⟨m, _, rfl, dg_cells hm2, ?_⟩
        walk_at "rd"
        have hlt : n % 64 < cs.length := by rw [hC.len]; omega
        obtain ⟨x, hx1, hx2⟩ := at_int hlt
        have hb := hC.low x hx1
        refine r_ixL c4 (by rw [show ((n : Int) % 64) = ((n % 64 : Nat) : Int) by omega]; exact hx2) ?_
        walk_at "rd"
        refine ⟨_, _, rfl, by omega, by omega, by omega, by omega, fun v v0 v1 => ?_⟩
        walk_at "rd"
        refine ⟨_, _, rfl, by omega, by omega, by omega, by omega, fun v' v0' v1' => ?_⟩
        walk_at "rd"
        exact fin _ H2 _ (Int.emod_nonneg _ (by omega)) (Int.emod_lt_of_pos _ l0) hm2 c4 g4 hg kp2
abbrev sBegun : Stmt := top 17
theorem scBegun : FnScope ["script", "m", "cell"] ["script"] (defScope sBegun) := ⟨rfl, rfl, rfl, by decide +kernel, rfl, by decide +kernel, by decide +kernel⟩
theorem ok_begun {f fF : Addr} {fd fdF : FuncData} (F : L2.Fun K "_law_begun" "_law_begun" sBegun f fd) (T : Blt mg) (FF : L2.Fun K "_law_folded" "_law_folded" sFolded fF fdF) (gF : mg "_law_folded" = some (.ref fF)) (bF : Binds K fdF ["script"] []) : FnOk P w K mg base CX0 2 f fd ["script"] (spBegun K) := by
  have GF : FnOk P w K mg base CX0 1 fF fdF ["script"] (spFolded K) := ok_folded FF T
  refine F.ok scBegun (fun vs H Q E h => ?_) (fun cdv A outer s H vs Q E hr h => ?_)
  · obtain ⟨a, ns, rfl, _⟩ := h
    rfl
  · obtain ⟨a, ns, rfl, hS, hz, k⟩ := h
    have hu := hu_of hr
    have kpF : PySem.W.keepIn K (.ref fF) = true := FF.kp
    refine ⟨_, pss_cons (ps_set (i := 1) scBegun.nd rfl (Or.inl rfl) (pe_disp (pps_cons pe_str (pe_call GF hr rfl gF kpF bF .nil pass0 (pa_cons (pv 0) pa_nil)) (pps_cons pe_str (pe_lst pa_nil) (pps_cons pe_str pe_int pps_nil))) (by rfl) (by rfl) (fun z => by cases z) (by decide)))
      (pss_cons (ps_dput hu (pv 1) pe_str (pe_lc (own := [("cell", 2)]) (g := gName 2) (tt := tYes) rfl scBegun.nd (pi_list (pv 0)) (blkOk_by (N := ["script", "m", "cell"]) (sc := defScope sBegun) (by decide +kernel))
        (fun _ _ _ _ _ => pg_name (i := 2) scBegun.nd rfl (Or.inl rfl)) (fun _ _ _ _ _ => pts_nil) (fun _ _ _ _ _ => pe_ifExp (pt_cmpR op_ge (pv 2) (pe_op op_pow pe_int pe_int) (nomark _)) (pv 2) pe_int)) rfl)
      (pss_one (ps_ret (pv 1)))), ?_⟩
    walk_at "rd"
    intro p np
    have hp : (upd H p (.dK [])) p = some (.dK []) := upd_same
    have s0 : Same H (upd H p (.dK [])) := same_new np
    refine ⟨_, rfl, a, ns, rfl, s0.seq hS, hz, fun H1 c cs nc s1 hC hc => ?_⟩
    refine ⟨Nat.zero_le _, fun g ng => ?_⟩
    have gp : g ≠ p := fun e => by rw [e, s1 _ _ hp] at ng; cases ng
    have gc : g ≠ c := fun e => by rw [e, hc] at ng; cases ng
    have pc : p ≠ c := fun e => by rw [← e, hp] at nc; cases nc
    have h0p : (upd H1 g (.lst [])) p = some (.dK []) := by rw [upd_ne (Ne.symm gp)]; exact s1 _ _ hp
    have h0c : (upd H1 g (.lst [])) c = some (.lst (cs.map V.int)) := by rw [upd_ne (Ne.symm gc)]; exact hc
    have h0g : (upd H1 g (.lst [])) g = some (.lst []) := upd_same
    have s2 : Same H (upd H1 g (.lst [])) := (s0.trans s1).trans (same_new ng)
    have fg : H g = none := (s0.trans s1).free ng
    have fc : H c = none := s0.free nc
    generalize upd H1 g (.lst []) = H2 at h0p h0c h0g s2 ⊢
    refine ⟨h0p, [(Sum.inr "cells", .ref c), (Sum.inr "great", .ref g), (Sum.inr "spot", .int 0)], rfl, (show 3 ≤ 15 by decide), ?_⟩

    have s3 : Same H (upd H2 p (.dK (kvM c g 0))) := same_mut s2 np
    have h3p : (upd H2 p (.dK (kvM c g 0))) p = some (.dK (kvM c g 0)) := upd_same
    have h3c : (upd H2 p (.dK (kvM c g 0))) c = some (.lst (cs.map V.int)) := by rw [upd_ne (Ne.symm pc)]; exact h0c
    change gName 1 (V.ref p) _ (upd H2 p (.dK (kvM c g 0))) _
    generalize upd H2 p (.dK (kvM c g 0)) = H3 at s3 h3p h3c ⊢
    walk_at "rd"
    refine ⟨_, rfl, a, rfl, ⟨_, s3.seq hS⟩, fun D hD => lc_list (K := K) (a := a) (xs := ns.map V.int) (fun i H' => ∃ gs : List Int, gs.length = i ∧ H' D = some (.lst (gs.map V.int)) ∧ Same H3 H')
      ⟨[], rfl, upd_same, same_new hD⟩ (fun i H' _ z => by obtain ⟨_, _, _, z⟩ := z; exact (s3.trans z).seq hS) ?_ ?_⟩
    · rintro i v H' hi ⟨gs, hl, hD', hs⟩
      obtain ⟨z, rfl⟩ : ∃ z, v = V.int z := by
        rw [List.getElem?_map] at hi
        cases q : ns[i]? with
        | none => rw [q] at hi; cases hi
        | some z => rw [q] at hi; cases hi; exact ⟨z, rfl⟩
      have il : i < 63 := by
        have := (List.getElem?_eq_some_iff.mp hi).1
        rw [List.length_map] at this
        omega
      refine ⟨rfl, r_yes ?_⟩
      have fin : ∀ y : Int, ∃ acc, H' D = some (.lst acc) ∧ acc.length < sizeLine ∧ ∃ gs : List Int, gs.length = i + 1 ∧ (upd H' D (.lst (acc ++ [V.int y]))) D = some (.lst (gs.map V.int)) ∧ Same H3 (upd H' D (.lst (acc ++ [V.int y]))) := fun y =>
        ⟨_, hD', by rw [List.length_map]; exact sz2 (by omega), gs ++ [y], by rw [List.length_append, hl]; rfl, by rw [upd_same, List.map_append]; rfl, same_mut hs hD⟩
      refine ⟨_, rfl, _, _, rfl, rfl, ⟨by decide, by decide, by decide⟩, _, _, rfl, rfl, _, rfl, ?_⟩
      refine ite2 (fun _ => ?_) (fun _ => ?_)
      · walk_at "rd"
        exact fin z
      · walk_at "rd"
        exact fin 0
    · rintro H' ⟨gs, hl, hD', hs⟩
      walk_at "rd"
      have h4p := hs _ _ h3p
      have h4c := hs _ _ h3c
      refine ⟨p, _, rfl, DPut.k (k := Sum.inr "great") h4p (show 3 < sizeLine by decide), ?_⟩
      walk_at "rd"
      have Dp : D ≠ p := fun e => by rw [e, h3p] at hD; cases hD
      have Dc : c ≠ D := fun e => by rw [← e, h3c] at hD; cases hD
      refine k _ p c D (same_mut (s3.trans hs) np) np fc (s3.free hD) ⟨⟨0, cs, gs, ?_, ?_, ?_, hC, ?_, by omega⟩, Dc⟩
      · exact upd_same
      · rw [upd_ne (Ne.symm pc)]; exact h4c
      · rw [upd_ne Dp]; exact hD'
      · have : gs.length = ns.length := by rw [hl, List.length_map]
        omega
end
end TSx

namespace TSx
open PySem L2
local macro_rules | `(tactic| walk_at "rd") => `(tactic| repeat (first
  | ((with_reducible show tVar _ _ _ _); refine r_v rfl ?_)
  | with_reducible refine r_c ?_
  | with_reducible refine r_op ?_
  | with_reducible refine r_I0 ?_
  | with_reducible refine r_cb ?_
  | with_reducible refine r_nil ?_
  | with_reducible refine r_cons ?_
  | with_reducible refine r_seq ?_
  | with_reducible refine r_next ?_
  | with_reducible refine r_asg ?_
  | with_reducible refine r_name ?_
  | with_reducible refine r_ret ?_
  | with_reducible refine r_drop ?_
  | with_reducible refine r_if ?_
  | with_reducible refine r_test ?_
  | with_reducible refine r_bl ?_
  | with_reducible refine r_call ?_))
local macro_rules | `(tactic| walk_at "st") => `(tactic| repeat (first
  | with_reducible refine r_seq ?_
  | with_reducible refine r_next ?_
  | with_reducible refine r_asg ?_
  | with_reducible refine r_name ?_
  | with_reducible refine r_ret ?_
  | with_reducible refine r_drop ?_
  | with_reducible refine r_if ?_))
local macro_rules | `(tactic| walk_at "mk") => `(tactic| repeat (first
  | with_reducible exact mk_non
  | with_reducible exact mk_int
  | with_reducible exact mk_str
  | with_reducible exact mk_bl
  | with_reducible exact mk_dic
  | with_reducible exact mka_nil
  | with_reducible refine mka_cons ?_ ?_
  | ((with_reducible refine mk_tup ?_ ?hz); (case hz => decide))
  | ((with_reducible refine mk_lst ?_ ?hz); (case hz => decide))
  | with_reducible refine mk_neg ?_))
abbrev sLike : Stmt := top 18
theorem scLike : FnScope ["answer", "due"] ["answer", "due"] (defScope sLike) := ⟨rfl, rfl, rfl, by decide +kernel, rfl, by decide +kernel, by decide +kernel⟩
/-- two that are the same data -/
def spLike (K : PySem.W.Frag) : Sp := fun vs H Q _ => ∃ (x y : V) (d : D), vs = [x, y] ∧ Dt K H x d ∧ Dt K H y d ∧ d.rd ∧ Q (.bl true) H
/-- where the classes stand -/
structure Adr where
  house : Addr
  stand : Addr
  choices : Addr
  band : Addr
  number : Addr
  paper : Addr
  wide : Addr
  seen : Addr
  phases : Addr
  text : Addr
  seat : Addr
  great : Addr
structure Nm (mg : Str → Option Value) (a : Adr) : Prop where
  gBadHouse : mg "BadHouse" = some (.ref a.house)
  gBadStand : mg "BadStand" = some (.ref a.stand)
  gBadChoices : mg "BadChoices" = some (.ref a.choices)
  gBadBand : mg "BadBand" = some (.ref a.band)
  gBadNumber : mg "BadNumber" = some (.ref a.number)
  gBadPaper : mg "BadPaper" = some (.ref a.paper)
  gBadWide : mg "BadWide" = some (.ref a.wide)
  gBadSeen : mg "BadSeen" = some (.ref a.seen)
  gBadPhases : mg "BadPhases" = some (.ref a.phases)
  gBadText : mg "BadText" = some (.ref a.text)
  gSeatError : mg "SeatError" = some (.ref a.seat)
  gTooGreat : mg "TooGreat" = some (.ref a.great)
  nValueError : mg "ValueError" = none
/-- what isinstance finds of the class at C -/
structure Row (K : PySem.W.Frag) (a : Adr) (C : Addr) (b1 b2 b3 b4 bs bg : Bool) : Prop where
  e : ExcC K C
  house : PySem.W.kitOne K (.ref C) (.ref a.house) = some false
  stand : PySem.W.kitOne K (.ref C) (.ref a.stand) = some false
  choices : PySem.W.kitOne K (.ref C) (.ref a.choices) = some false
  band : PySem.W.kitOne K (.ref C) (.ref a.band) = some false
  number : PySem.W.kitOne K (.ref C) (.ref a.number) = some false
  paper : PySem.W.kitOne K (.ref C) (.ref a.paper) = some false
  wide : PySem.W.kitOne K (.ref C) (.ref a.wide) = some b1
  seen : PySem.W.kitOne K (.ref C) (.ref a.seen) = some b2
  phases : PySem.W.kitOne K (.ref C) (.ref a.phases) = some b3
  text : PySem.W.kitOne K (.ref C) (.ref a.text) = some b4
  seat : PySem.W.kitOne K (.ref C) (.ref a.seat) = some bs
  value : PySem.W.kitOne K (.ref C) (.type "ValueError") = some bs
  great : PySem.W.kitOne K (.ref C) (.ref a.great) = some bg
def rowsOf (b1 b2 b3 b4 bs bg : Bool) : List (Str × Bool) := [("house", false), ("stand", false), ("choices", false), ("band", false), ("number", false), ("paper", false), ("wide", b1), ("seen", b2), ("phases", b3), ("text", b4), ("seat", bs), ("kind", bs), ("great", bg)]
def labels (r : List (Str × Bool)) : D := .lst ((r.filter (·.2)).map fun p => .str p.1)
abbrev sClasses : Stmt := top 19
theorem scClasses : FnScope ["error", "rows", "label", "is_so"] ["error"] (defScope sClasses) := ⟨rfl, rfl, rfl, by decide +kernel, rfl, by decide +kernel, by decide +kernel⟩
def spClasses (K : PySem.W.Frag) (a : Adr) : Sp := fun vs H Q _ => ∃ (x : V) (C : Addr) (fs : List (Str × D)) (b1 b2 b3 b4 bs bg : Bool), vs = [x] ∧ Dt K H x (.exc C fs) ∧ Row K a C b1 b2 b3 b4 bs bg ∧ ∀ v H', Same H H' → Dt K H' v (labels (rowsOf b1 b2 b3 b4 bs bg)) → Q v H'
section
variable {P : Program} {w : World} {K : PySem.W.Frag} {mg : Str → Option Value} {base : Heap} {a : Adr}
theorem ok_like {f : Addr} {fd : FuncData} (F : L2.Fun K "_law_like" "_law_like" sLike f fd) (B : Blt mg) : FnG P w K mg base CX0 1 f fd ["answer", "due"] (spLike K) := by
  refine fnG_of0 F scLike (fun vs H Q E h => ?_) (fun cdv A outer s H vs Q E g hr h => ?_)
  · obtain ⟨x, y, d, rfl, _⟩ := h
    rfl
  · obtain ⟨x, y, d, rfl, hx, hy, hd, k⟩ := h
    have g2 := guards_deeper g (PyProof.Rows.envOfC "_law_like" (defScope sLike) s.heap.objs.size f cdv)
    refine ⟨_, (pss_one (ps_ret (pe_cmpR op_eq (pe_callB (call_reprD g2 hr.units) (by rfl) B.repr PyProof.Rows.boot_repr (pa_cons (pv 0) pa_nil)) (pe_callB (call_reprD g2 hr.units) (by rfl) B.repr PyProof.Rows.boot_repr (pa_cons (pv 1) pa_nil)) (nomark _)))), ?_⟩
    walk_at "rd"
    refine ⟨x, d, rfl, hx, hd, ?_⟩
    walk_at "rd"
    refine ⟨y, d, rfl, hy, hd, rfl, ?_⟩
    rw [decide_eq_true rfl]
    exact k
theorem mk_row2 {σ : Sg} {H : Hp} {x : V} {C : Addr} {fs : List (Str × D)} {n : Nat} {l1 l2 : Str} {c1 c2 : V} {u1 u2 : Value} {b1 b2 : Bool} (h : σ[n]? = some (some x)) (hx : Dt K H x (.exc C fs)) (e : ExcC K C)
    (h1 : ∀ u, RelV c1 u → u = u1) (h2 : ∀ u, RelV c2 u → u = u2) (k1 : PySem.W.kitOne K (.ref C) u1 = some b1) (k2 : PySem.W.kitOne K (.ref C) u2 = some b2) :
    Mk K (tLst (tCons (tTup (tCons (tC (.str l1)) (tCons (tCB (rIsX K) (tCons (tVar n) (tCons (tC c1) tNil))) tNil))) (tCons (tTup (tCons (tC (.str l2)) (tCons (tCB (rIsX K) (tCons (tVar n) (tCons (tC c2) tNil))) tNil))) tNil))) σ H (.lst [rowD (l1, b1), rowD (l2, b2)]) :=
  mk_lst (mka_cons (mk_tup (mka_cons mk_str (mka_cons (mk_isX (mk_var h hx) e k1 h1) mka_nil)) (by simp)) (mka_cons (mk_tup (mka_cons mk_str (mka_cons (mk_isX (mk_var h hx) e k2 h2) mka_nil)) (by simp)) mka_nil)) (by simp)
theorem ok_classes {f : Addr} {fd : FuncData} (F : L2.Fun K "_law_classes" "_law_classes" sClasses f fd) (B : Blt mg) (T : Nm mg a) : FnOk P w K mg base CX0 1 f fd ["error"] (spClasses K a) := by
  refine F.ok scClasses (fun vs H Q E h => ?_) (fun cdv A outer s H vs Q E hr h => ?_)
  · obtain ⟨x, C, fs, b1, b2, b3, b4, bs, bg, rfl, _⟩ := h
    rfl
  · obtain ⟨x, C, fs, b1, b2, b3, b4, bs, bg, rfl, hx, R, k⟩ := h
    refine ⟨_, (pss_cons (ps_set (i := 1) scClasses.nd rfl (Or.inl rfl) (pe_lst (pa_cons (pe_tup (pa_cons pe_str (pa_cons (pe_callB call_isX (by rfl) B.isinstance PyProof.Rows.boot_isinstance (pa_cons (pv 0) (pa_cons (pe_cls rfl T.gBadHouse) pa_nil))) pa_nil))) (pa_cons (pe_tup (pa_cons pe_str (pa_cons (pe_callB call_isX (by rfl) B.isinstance PyProof.Rows.boot_isinstance (pa_cons (pv 0) (pa_cons (pe_cls rfl T.gBadStand) pa_nil))) pa_nil))) pa_nil))))
  (pss_cons (ps_set (i := 1) scClasses.nd rfl (Or.inl rfl) (pe_op op_cat (pv 1) (pe_lst (pa_cons (pe_tup (pa_cons pe_str (pa_cons (pe_callB call_isX (by rfl) B.isinstance PyProof.Rows.boot_isinstance (pa_cons (pv 0) (pa_cons (pe_cls rfl T.gBadChoices) pa_nil))) pa_nil))) (pa_cons (pe_tup (pa_cons pe_str (pa_cons (pe_callB call_isX (by rfl) B.isinstance PyProof.Rows.boot_isinstance (pa_cons (pv 0) (pa_cons (pe_cls rfl T.gBadBand) pa_nil))) pa_nil))) pa_nil)))))
  (pss_cons (ps_set (i := 1) scClasses.nd rfl (Or.inl rfl) (pe_op op_cat (pv 1) (pe_lst (pa_cons (pe_tup (pa_cons pe_str (pa_cons (pe_callB call_isX (by rfl) B.isinstance PyProof.Rows.boot_isinstance (pa_cons (pv 0) (pa_cons (pe_cls rfl T.gBadNumber) pa_nil))) pa_nil))) (pa_cons (pe_tup (pa_cons pe_str (pa_cons (pe_callB call_isX (by rfl) B.isinstance PyProof.Rows.boot_isinstance (pa_cons (pv 0) (pa_cons (pe_cls rfl T.gBadPaper) pa_nil))) pa_nil))) pa_nil)))))
  (pss_cons (ps_set (i := 1) scClasses.nd rfl (Or.inl rfl) (pe_op op_cat (pv 1) (pe_lst (pa_cons (pe_tup (pa_cons pe_str (pa_cons (pe_callB call_isX (by rfl) B.isinstance PyProof.Rows.boot_isinstance (pa_cons (pv 0) (pa_cons (pe_cls rfl T.gBadWide) pa_nil))) pa_nil))) (pa_cons (pe_tup (pa_cons pe_str (pa_cons (pe_callB call_isX (by rfl) B.isinstance PyProof.Rows.boot_isinstance (pa_cons (pv 0) (pa_cons (pe_cls rfl T.gBadSeen) pa_nil))) pa_nil))) pa_nil)))))
  (pss_cons (ps_set (i := 1) scClasses.nd rfl (Or.inl rfl) (pe_op op_cat (pv 1) (pe_lst (pa_cons (pe_tup (pa_cons pe_str (pa_cons (pe_callB call_isX (by rfl) B.isinstance PyProof.Rows.boot_isinstance (pa_cons (pv 0) (pa_cons (pe_cls rfl T.gBadPhases) pa_nil))) pa_nil))) (pa_cons (pe_tup (pa_cons pe_str (pa_cons (pe_callB call_isX (by rfl) B.isinstance PyProof.Rows.boot_isinstance (pa_cons (pv 0) (pa_cons (pe_cls rfl T.gBadText) pa_nil))) pa_nil))) pa_nil)))))
  (pss_cons (ps_set (i := 1) scClasses.nd rfl (Or.inl rfl) (pe_op op_cat (pv 1) (pe_lst (pa_cons (pe_tup (pa_cons pe_str (pa_cons (pe_callB call_isX (by rfl) B.isinstance PyProof.Rows.boot_isinstance (pa_cons (pv 0) (pa_cons (pe_cls rfl T.gSeatError) pa_nil))) pa_nil))) (pa_cons (pe_tup (pa_cons pe_str (pa_cons (pe_callB call_isX (by rfl) B.isinstance PyProof.Rows.boot_isinstance (pa_cons (pv 0) (pa_cons (pe_bltn (v := .ty "ValueError") (by rfl) T.nValueError (by decide +kernel) rfl) pa_nil))) pa_nil))) pa_nil)))))
  (pss_one (ps_ret (pe_lc (own := [("label", 2), ("is_so", 3)]) (g := gTup _ 2 (gCons (gName 2) (gCons (gName 3) gNil))) rfl scClasses.nd (pi_list (pe_op op_cat (pv 1) (pe_lst (pa_cons (pe_tup (pa_cons pe_str (pa_cons (pe_callB call_isX (by rfl) B.isinstance PyProof.Rows.boot_isinstance (pa_cons (pv 0) (pa_cons (pe_cls rfl T.gTooGreat) pa_nil))) pa_nil))) pa_nil)))) (blkOk_by (N := ["error", "rows", "label", "is_so"]) (sc := defScope sClasses) (by decide +kernel)) (fun _ _ _ _ _ => pg_tup rfl (pgs_cons (pg_name (i := 2) scClasses.nd rfl (Or.inl rfl)) (pgs_cons (pg_name (i := 3) scClasses.nd rfl (Or.inl rfl)) pgs_nil))) (fun _ _ _ _ _ => (pts_one (pt_val (pv 3)))) (fun _ _ _ _ _ => (pv 2))))))))))), ?_⟩
    have ref : ∀ {c : Addr}, ∀ u : Value, RelV (.ref c) u → u = .ref c := fun u r => r
    have typ : ∀ {c : String}, ∀ u : Value, RelV (.ty c) u → u = .type c := fun u r => r
    walk_at "st"
    refine (mk_row2 (l1 := "house") (l2 := "stand") (b1 := false) (b2 := false) rfl hx R.e ref ref R.house R.stand : Mk K (tLst _) (L2.start ["error", "rows", "label", "is_so"] [x]) H _) H Gr.rfl' _ fun v1 H1 s1 a1 => ?_
    have hx1 := hx.gr s1
    walk_at "st"
    refine (mk_cat (mk_var rfl a1) (mk_row2 (l1 := "choices") (l2 := "band") rfl hx1 R.e ref ref R.choices R.band) (by simp) : Mk K (tOp rCat (tVar 1) (tLst _)) [some x, some v1, none, none] H1 _) H1 Gr.rfl' _ fun v2 H2 s2 a2 => ?_
    have hx2 := hx1.gr s2
    walk_at "st"
    refine (mk_cat (mk_var rfl a2) (mk_row2 (l1 := "number") (l2 := "paper") rfl hx2 R.e ref ref R.number R.paper) (by simp) : Mk K (tOp rCat (tVar 1) (tLst _)) [some x, some v2, none, none] H2 _) H2 Gr.rfl' _ fun v3 H3 s3 a3 => ?_
    have hx3 := hx2.gr s3
    walk_at "st"
    refine (mk_cat (mk_var rfl a3) (mk_row2 (l1 := "wide") (l2 := "seen") rfl hx3 R.e ref ref R.wide R.seen) (by simp) : Mk K (tOp rCat (tVar 1) (tLst _)) [some x, some v3, none, none] H3 _) H3 Gr.rfl' _ fun v4 H4 s4 a4 => ?_
    have hx4 := hx3.gr s4
    walk_at "st"
    refine (mk_cat (mk_var rfl a4) (mk_row2 (l1 := "phases") (l2 := "text") rfl hx4 R.e ref ref R.phases R.text) (by simp) : Mk K (tOp rCat (tVar 1) (tLst _)) [some x, some v4, none, none] H4 _) H4 Gr.rfl' _ fun v5 H5 s5 a5 => ?_
    have hx5 := hx4.gr s5
    walk_at "st"
    refine (mk_cat (mk_var rfl a5) (mk_row2 (l1 := "seat") (l2 := "kind") rfl hx5 R.e ref typ R.seat R.value) (by simp) : Mk K (tOp rCat (tVar 1) (tLst _)) [some x, some v5, none, none] H5 _) H5 Gr.rfl' _ fun v6 H6 s6 a6 => ?_
    have hx6 := hx5.gr s6
    walk_at "st"
    refine mk_lcT (rowsOf b1 b2 b3 b4 bs bg) (mk_cat (mk_var rfl a6) (mk_lst (mka_cons (mk_tup (mka_cons mk_str (mka_cons (mk_isX (mk_var rfl hx6) R.e R.great ref) mka_nil)) (by simp)) mka_nil) (by simp)) (by simp)) (show 13 < 1000 by decide) H6 Gr.rfl' _ fun v7 H7 s7 a7 => ?_
    exact k v7 H7 ((((((s1.trans s2).trans s3).trans s4).trans s5).trans s6).trans s7) a7
end
end TSx

namespace TSx
open PySem L2
local macro_rules | `(tactic| walk_at "rd") => `(tactic| repeat (first
  | ((with_reducible show tVar _ _ _ _); refine r_v rfl ?_)
  | with_reducible refine r_c ?_
  | with_reducible refine r_op ?_
  | with_reducible refine r_I0 ?_
  | with_reducible refine r_cb ?_
  | with_reducible refine r_nil ?_
  | with_reducible refine r_cons ?_
  | with_reducible refine r_seq ?_
  | with_reducible refine r_next ?_
  | with_reducible refine r_asg ?_
  | with_reducible refine r_name ?_
  | with_reducible refine r_ret ?_
  | with_reducible refine r_drop ?_
  | with_reducible refine r_if ?_
  | with_reducible refine r_test ?_
  | with_reducible refine r_bl ?_
  | with_reducible refine r_call ?_))
local macro_rules | `(tactic| walk_at "st") => `(tactic| repeat (first
  | with_reducible refine r_seq ?_
  | with_reducible refine r_next ?_
  | with_reducible refine r_asg ?_
  | with_reducible refine r_name ?_
  | with_reducible refine r_ret ?_
  | with_reducible refine r_drop ?_
  | with_reducible refine r_if ?_))
local macro_rules | `(tactic| walk_at "mk") => `(tactic| repeat (first
  | with_reducible exact mk_non
  | with_reducible exact mk_int
  | with_reducible exact mk_str
  | with_reducible exact mk_bl
  | with_reducible exact mk_dic
  | with_reducible exact mka_nil
  | with_reducible refine mka_cons ?_ ?_
  | ((with_reducible refine mk_tup ?_ ?hz); (case hz => decide))
  | ((with_reducible refine mk_lst ?_ ?hz); (case hz => decide))
  | with_reducible refine mk_neg ?_))
abbrev sIniW : Stmt := inClass (top 8) 0
abbrev sIniS : Stmt := inClass (top 9) 0
abbrev sIniP : Stmt := inClass (top 10) 0
abbrev sIniT : Stmt := inClass (top 11) 0
abbrev sIniG : Stmt := inClass (top 12) 0
theorem scIniW : FnScope ["self", "place"] ["self", "place"] (defScope sIniW) := ⟨rfl, rfl, rfl, by decide +kernel, rfl, by decide +kernel, by decide +kernel⟩
theorem scIniS : FnScope ["self", "place"] ["self", "place"] (defScope sIniS) := ⟨rfl, rfl, rfl, by decide +kernel, rfl, by decide +kernel, by decide +kernel⟩
theorem scIniP : FnScope ["self", "value"] ["self", "value"] (defScope sIniP) := ⟨rfl, rfl, rfl, by decide +kernel, rfl, by decide +kernel, by decide +kernel⟩
theorem scIniT : FnScope ["self", "line", "word"] ["self", "line", "word"] (defScope sIniT) := ⟨rfl, rfl, rfl, by decide +kernel, rfl, by decide +kernel, by decide +kernel⟩
theorem scIniG : FnScope ["self", "most"] ["self", "most"] (defScope sIniG) := ⟨rfl, rfl, rfl, by decide +kernel, rfl, by decide +kernel, by decide +kernel⟩
section
variable {P : Program} {w : World} {K : PySem.W.Frag} {mg : Str → Option Value} {base : Heap}
theorem ok_iniW {C f : Addr} {fd : FuncData} (F : L2.Fun K "__init__" "BadWide.__init__" sIniW f fd) (T : OexC K C) (no : PySem.W.findIn K (.ref C) "place" = some none) : FnOk P w K mg base CX0 1 f fd ["self", "place"] (spIni C "place") := by
  refine F.ok scIniW (fun vs H Q E h => by obtain ⟨a, x, rfl, _⟩ := h; rfl) (fun cdv A outer s H vs Q E hr h => ?_)
  exact ⟨_, pss_one (ps_ost (pv 0) (pv 1)), ini_reading T no h⟩
theorem ok_iniS {C f : Addr} {fd : FuncData} (F : L2.Fun K "__init__" "BadSeen.__init__" sIniS f fd) (T : OexC K C) (no : PySem.W.findIn K (.ref C) "place" = some none) : FnOk P w K mg base CX0 1 f fd ["self", "place"] (spIni C "place") := by
  refine F.ok scIniS (fun vs H Q E h => by obtain ⟨a, x, rfl, _⟩ := h; rfl) (fun cdv A outer s H vs Q E hr h => ?_)
  exact ⟨_, pss_one (ps_ost (pv 0) (pv 1)), ini_reading T no h⟩
theorem ok_iniP {C f : Addr} {fd : FuncData} (F : L2.Fun K "__init__" "BadPhases.__init__" sIniP f fd) (T : OexC K C) (no : PySem.W.findIn K (.ref C) "value" = some none) : FnOk P w K mg base CX0 1 f fd ["self", "value"] (spIni C "value") := by
  refine F.ok scIniP (fun vs H Q E h => by obtain ⟨a, x, rfl, _⟩ := h; rfl) (fun cdv A outer s H vs Q E hr h => ?_)
  exact ⟨_, pss_one (ps_ost (pv 0) (pv 1)), ini_reading T no h⟩
theorem ok_iniT {C f : Addr} {fd : FuncData} (F : L2.Fun K "__init__" "BadText.__init__" sIniT f fd) (T : OexC K C) (no1 : PySem.W.findIn K (.ref C) "line" = some none) (no2 : PySem.W.findIn K (.ref C) "word" = some none) : FnOk P w K mg base CX0 1 f fd ["self", "line", "word"] (spIni2 C "line" "word") := by
  refine F.ok scIniT (fun vs H Q E h => by obtain ⟨a, x, y, rfl, _⟩ := h; rfl) (fun cdv A outer s H vs Q E hr h => ?_)
  exact ⟨_, pss_cons (ps_ost (pv 0) (pv 1)) (pss_one (ps_ost (pv 0) (pv 2))), ini2_reading T no1 no2 h⟩
theorem ok_iniG {C f : Addr} {fd : FuncData} (F : L2.Fun K "__init__" "TooGreat.__init__" sIniG f fd) (T : OofC K C) (no : PySem.W.findIn K (.ref C) "most" = some none) : FnOk P w K mg base CX0 1 f fd ["self", "most"] (spIni C "most") := by
  refine F.ok scIniG (fun vs H Q E h => by obtain ⟨a, x, rfl, _⟩ := h; rfl) (fun cdv A outer s H vs Q E hr h => ?_)
  exact ⟨_, pss_one (ps_ofS (pv 0) (pv 1)), ofi_reading T no h⟩
end
/-! ### the things -/
def things1 (v : Int) : List D := [.non, .int 0, .bl true, .int v]
def things2 : List D := [.str "", .str "row", .tup [], .tup [.int 1, .str "a"], .lst [.int 1, .lst [.int 2]], .dic [], .dic [(Sum.inr "a", .int 1)]]
structure Small (d : D) : Prop where
  sh : d.sh = true
  sb : d.pd.showable = true
  ln : d.pd.shown.length ≤ 100
  dp : d.pd.depth ≤ 10
theorem small_things {v : Int} (h0 : 0 ≤ v) (h1 : v < 1000000) : ∀ d ∈ things1 v ++ things2, Small d := by
  have hv : Small (.int v) := by
    refine ⟨rfl, ?_, ?_, (show 0 ≤ 10 by decide)⟩
    · refine decide_eq_true ?_
      by_cases z : v.natAbs = 0
      · rw [z]; decide
      · exact (Nat.log2_lt z).mpr (Nat.lt_of_lt_of_le (show v.natAbs < 2 ^ 20 by omega) (Nat.pow_le_pow_right (by decide) (by decide)))
    · exact Nat.le_trans (PyProof.Rows.toString_length_le (k := 6) h0 (by decide) (by omega)) (by decide)
  intro d hd
  simp only [things1, things2, List.cons_append, List.nil_append, List.mem_cons, List.not_mem_nil, or_false] at hd
  rcases hd with rfl | rfl | rfl | rfl | rfl | rfl | rfl | rfl | rfl | rfl | rfl
  case inr.inr.inr.inl => exact hv
  all_goals exact ⟨by decide +kernel, by decide +kernel, by decide +kernel, by decide +kernel⟩
theorem small_rd {d : D} (h : Small d) : d.rd := ⟨h.sh, h.sb, sz1 (Nat.le_trans h.ln (by decide)), Nat.le_trans h.dp (by decide)⟩
theorem five_rd {p q : D} (hp : Small p) (hq : Small q) : (D.lst [p, p, p, p, q]).rd := by
  refine ⟨?_, ?_, ?_, ?_⟩
  · show (p.sh && (p.sh && (p.sh && (p.sh && (q.sh && true))))) = true
    rw [hp.sh, hq.sh]; rfl
  · show (p.pd.showable && (p.pd.showable && (p.pd.showable && (p.pd.showable && (q.pd.showable && true))))) = true
    rw [hp.sb, hq.sb]; rfl
  · have a := hp.ln
    have b := hq.ln
    have e : (D.lst [p, p, p, p, q]).pd.shown = listText [p.pd.shown, p.pd.shown, p.pd.shown, p.pd.shown, q.pd.shown] := rfl
    rw [e]
    generalize p.pd.shown = x at a ⊢
    generalize q.pd.shown = y at b ⊢
    have l : (listText [x, x, x, x, y]).length = 1 + 0 + x.length + 2 + x.length + 2 + x.length + 2 + x.length + 2 + y.length + 1 := by
      unfold listText
      show (((((((((((("[" : Str) ++ ("" : Str)) ++ x) ++ (", " : Str)) ++ x) ++ (", " : Str)) ++ x) ++ (", " : Str)) ++ x) ++ (", " : Str)) ++ y) ++ ("]" : Str)).length = _
      simp only [strLen_append]
      rfl
    rw [l]
    exact sz1 (by omega)
  · have a := hp.dp
    have b := hq.dp
    show max p.pd.depth (max p.pd.depth (max p.pd.depth (max p.pd.depth (max q.pd.depth 0)))) + 1 ≤ 50
    omega
theorem kb_dic1 {K : PySem.W.Frag} {B : Addr → Bool} {σ : Sg} {H : Hp} {x : Str} {i : Int} (hB : ∀ b, B b = true → H b ≠ none) : MkB K B (tDisp [(tC (.str x), tC (.int i))]) σ H (.dic [(Sum.inr x, .int i)]) := fun H1 s Q q p np => by
  have h : (upd H1 p (.dK [])) p = some (.dK []) := upd_same
  refine ⟨h, [(Sum.inr x, .int i)], rfl, (show 1 ≤ 15 by decide), ?_⟩
  have e : mergeK [] [((Sum.inr x : Key), V.int i)] = [(Sum.inr x, .int i)] := rfl
  rw [e]
  refine q _ _ (same_mut (same_new np) np) (.dic (xs := [(Sum.inr x, .int i)]) ?_ (.cons (.int i) .nil))
  rw [wo_at (apart hB s np), upd_same]
theorem mt_or {tt uu : TT} {σ : Sg} {H : Hp} {b : Bool} (h : MkT tt σ H false) (h2 : MkT uu σ H b) : MkT (tOr tt uu) σ H b := fun H1 s Q q => h H1 s _ fun H2 s2 => h2 H2 (s.trans s2) Q fun H3 s3 => q H3 (s2.trans s3)
theorem mk_classes {K : PySem.W.Frag} {a : Adr} {ta : TE} {σ : Sg} {H : Hp} {C : Addr} {fs : List (Str × D)} {b1 b2 b3 b4 bs bg : Bool} (h : Mk K ta σ H (.exc C fs)) (R : Row K a C b1 b2 b3 b4 bs bg) : Mk K (tCall (spClasses K a) [] E0 (tCons ta tNil)) σ H (labels (rowsOf b1 b2 b3 b4 bs bg)) := fun H1 s Q q => h H1 s _ fun v H2 s2 b =>
  ⟨v, C, fs, b1, b2, b3, b4, bs, bg, rfl, b, R, fun v' H' s' x => q v' H' (s2.trans s') x⟩
theorem mk_like {K : PySem.W.Frag} {ta tb : TE} {σ : Sg} {H : Hp} {d : D} (h : Mk K ta σ H d) (h2 : Mk K tb σ H d) (r : d.rd) : Mk K (tCall (spLike K) [] E0 (tCons ta (tCons tb tNil))) σ H (.bl true) := fun H1 s Q q => h H1 s _ fun v H2 s2 b => h2 H2 (s.trans s2) _ fun u H3 s3 c =>
  ⟨v, u, d, rfl, b.gr s3, c, r, q _ H3 (s2.trans s3) (.bl true)⟩
end TSx

namespace TSx
open PySem L2
local macro_rules | `(tactic| walk_at "rd") => `(tactic| repeat (first
  | ((with_reducible show tVar _ _ _ _); refine r_v rfl ?_)
  | with_reducible refine r_c ?_
  | with_reducible refine r_op ?_
  | with_reducible refine r_I0 ?_
  | with_reducible refine r_cb ?_
  | with_reducible refine r_nil ?_
  | with_reducible refine r_cons ?_
  | with_reducible refine r_seq ?_
  | with_reducible refine r_next ?_
  | with_reducible refine r_asg ?_
  | with_reducible refine r_name ?_
  | with_reducible refine r_ret ?_
  | with_reducible refine r_drop ?_
  | with_reducible refine r_if ?_
  | with_reducible refine r_test ?_
  | with_reducible refine r_bl ?_
  | with_reducible refine r_call ?_))
local macro_rules | `(tactic| walk_at "st") => `(tactic| repeat (first
  | with_reducible refine r_seq ?_
  | with_reducible refine r_next ?_
  | with_reducible refine r_asg ?_
  | with_reducible refine r_name ?_
  | with_reducible refine r_ret ?_
  | with_reducible refine r_drop ?_
  | with_reducible refine r_if ?_))
local macro_rules | `(tactic| walk_at "mk") => `(tactic| repeat (first
  | with_reducible exact mk_non
  | with_reducible exact mk_int
  | with_reducible exact mk_str
  | with_reducible exact mk_bl
  | with_reducible exact mk_dic
  | with_reducible exact mka_nil
  | with_reducible refine mka_cons ?_ ?_
  | ((with_reducible refine mk_tup ?_ ?hz); (case hz => decide))
  | ((with_reducible refine mk_lst ?_ ?hz); (case hz => decide))
  | with_reducible refine mk_neg ?_))
local macro_rules | `(tactic| walk_at "kb") => `(tactic| repeat (first
  | with_reducible exact kb_non
  | with_reducible exact kb_int
  | with_reducible exact kb_str
  | with_reducible exact kb_bl
  | with_reducible exact kb_dic (by assumption)
  | with_reducible exact kb_dic1 (by assumption)
  | with_reducible exact kba_nil
  | with_reducible refine kba_cons ?_ ?_
  | ((with_reducible refine kb_tup (by assumption) ?_ ?hz); (case hz => decide))
  | ((with_reducible refine kb_lst (by assumption) ?_ ?hz); (case hz => decide))))
abbrev sLaw : Stmt := top 20
theorem scLaw : FnScope ["script", "m", "turn", "things", "by_place", "by_names", "some", "q", "z", "k", "told_so"] ["script"] (defScope sLaw) := ⟨rfl, rfl, rfl, by decide +kernel, rfl, by decide +kernel, by decide +kernel⟩
def spLaw (K : PySem.W.Frag) : Sp := fun vs H Q _ => ∃ (a : Addr) (ns : List Int), vs = [.ref a] ∧ SqL K H a (ns.map V.int) ∧ ns.length ≤ 63 ∧ ∀ H', Q (.bl true) H'
theorem r_for {wi : TI} {gg : TG} {tb : TS} {D : Ends} {σ : Sg} {H : Hp} (q : wi σ H fun J H1 => ∃ W : Nat → Nat → Sg → Hp → Prop, (∃ m, W 0 m σ H1) ∧ ∀ i m σ H, W i m σ H →
    (J.stop i H ∧ D.nx σ H) ∨ (J.go i H ∧ ∃ N : Sg → Hp → Prop, (∀ σ' H', N σ' H' → ∃ m', m' < m ∧ W (i + 1) m' σ' H') ∧ ∀ x H', J.yld i H x H' → gg x σ H' fun σ2 H2 => tb { D with nx := N, ct := N, bk := D.nx } σ2 H2)) : tFor wi gg tb D σ H := q
theorem r_rng1 {ta : TA} {σ : Sg} {H : Hp} {R : It → Hp → Prop} (q : ta σ H fun vs H1 => ∃ j : Int, vs = [.int j] ∧ -(2 ^ 62) ≤ j ∧ j < 2 ^ 62 ∧ R (Itr 0 j.toNat) H1) : iRng1 ta σ H R := q
theorem r_itT {K : PySem.W.Frag} {tl : TE} {σ : Sg} {H : Hp} {R : It → Hp → Prop} (q : tl σ H fun x H1 => ∃ a, x = .ref a ∧ (∃ xs, SqT K H1 a xs) ∧ R (Itt K a) H1) : iTup K tl σ H R := q
def four (a : Adr) (p q : D) : List D := [.exc a.wide [("place", p)], .exc a.seen [("place", p)], .exc a.phases [("value", p)], .exc a.text [("word", q), ("line", p)]]
def lab4 : List D := [.str "wide", .str "seen", .str "phases", .str "text"]
section
variable {P : Program} {w : World} {K : PySem.W.Frag} {mg : Str → Option Value} {base : Heap} {a : Adr}
theorem m_dom {m c g : Addr} {H : Hp} {r : Nat} (M : MAt m c g H r) : dom H m = true ∧ dom H g = true := by
  obtain ⟨⟨n, cs, gs, h1, h2, h3, _⟩, _⟩ := M
  exact ⟨dom_of h1, dom_of h3⟩
theorem dom_all {H : Hp} : ∀ b, dom H b = true → H b ≠ none := fun b e z => by rw [dom_no z] at e; cases e
theorem nat_of {v : Int} {n : Nat} (h0 : 0 ≤ v) (h1 : v < n) : ∃ i : Nat, v = (i : Int) ∧ i < n := ⟨v.toNat, by omega, by omega⟩
/-- one of the four, its labels -/
theorem mt_lab {σ : Sg} {H : Hp} {ta tb : TE} {i : Nat} {nm : Str} {C : Addr} {fs : List (Str × D)} {b1 b2 b3 b4 : Bool} {p q : D} (h : Mk K ta σ H (.lst (four a p q))) (hk : Mk K tb σ H (.int (i : Int))) (e : (four a p q)[i]? = some (.exc C fs)) (R : Row K a C b1 b2 b3 b4 true false)
    (en : lab4[i]? = some (.str nm)) (x : labels (rowsOf b1 b2 b3 b4 true false) = .lst [.str nm, .str "seat", .str "kind"]) (pl : (D.lst [.str nm, .str "seat", .str "kind"]).pl = true) (dp : (D.lst [.str nm, .str "seat", .str "kind"]).py.depth ≤ 64)
    (same : (!PyData.eqv (D.lst [.str nm, .str "seat", .str "kind"]).py (D.lst [.str nm, .str "seat", .str "kind"]).py) = false) :
    MkT (tTest (tOp (rNeD K) (tCall (spClasses K a) [] E0 (tCons (tOp (rIxL K) ta tb) tNil)) (tLst (tCons (tOp (rIxL K) (tLst (tCons (tC (.str "wide")) (tCons (tC (.str "seen")) (tCons (tC (.str "phases")) (tCons (tC (.str "text")) tNil))))) tb) (tCons (tC (.str "seat")) (tCons (tC (.str "kind")) tNil)))))) σ H false := by
  have l := mk_classes (a := a) (mk_ixL h hk e) R
  rw [x] at l
  have r : Mk K (tLst (tCons (tOp (rIxL K) (tLst (tCons (tC (.str "wide")) (tCons (tC (.str "seen")) (tCons (tC (.str "phases")) (tCons (tC (.str "text")) tNil))))) tb) (tCons (tC (.str "seat")) (tCons (tC (.str "kind")) tNil)))) σ H (.lst [.str nm, .str "seat", .str "kind"]) :=
    mk_lst (mka_cons (mk_ixL (mk_lst (mka_cons mk_str (mka_cons mk_str (mka_cons mk_str (mka_cons mk_str mka_nil)))) (show 4 ≤ 100000 by decide) : Mk K _ σ H (.lst lab4)) hk en) (mka_cons mk_str (mka_cons mk_str mka_nil))) (show 3 ≤ 100000 by decide)
  have t := mt_test (mk_neD l r pl pl dp dp)
  rw [same] at t
  exact t
theorem ok_law {f fB fD fC fL fW fS fP fT fG : Addr} {fd fdB fdD fdC fdL fdW fdS fdP fdT fdG : FuncData} (F : L2.Fun K "law" "law" sLaw f fd) (B : Blt mg) (hmin : mg "min" = none)
    (d_law_begun : Dok P w K mg base 2 "_law_begun" ["script"] (spBegun K) fB fdB) (d_law_draw : Dok P w K mg base 2 "_law_draw" ["m", "limit"] spDraw fD fdD)
    (d_law_classes : Dok P w K mg base 1 "_law_classes" ["error"] (spClasses K a) fC fdC) (d_law_like : DoG P w K mg base 1 "_law_like" ["answer", "due"] (spLike K) fL fdL)
    (xBadWide : Xc P w K mg base "BadWide" "place" a.wide fW fdW) (xBadSeen : Xc P w K mg base "BadSeen" "place" a.seen fS fdS) (xBadPhases : Xc P w K mg base "BadPhases" "value" a.phases fP fdP)
    (xBadText : Xt P w K mg base "BadText" "line" "word" a.text fT fdT) (xTooGreat : Xo P w K mg base "TooGreat" "most" a.great fG fdG)
    (RW : Row K a a.wide true false false false true false) (RS : Row K a a.seen false true false false true false) (RP : Row K a a.phases false false true false true false) (RT : Row K a a.text false false false true true false) (RG : Row K a a.great false false false false false true) :
    FnG P w K mg base CX0 3 f fd ["script"] (spLaw K) := by
  refine fnG_of0 F scLaw (fun vs H Q E h => ?_) (fun cdv A outer s H vs Q E g hr h => ?_)
  · obtain ⟨o, ns, rfl, _⟩ := h
    rfl
  · obtain ⟨o, ns, rfl, hS, hz, k⟩ := h
    have g2 := guards_deeper g (PyProof.Rows.envOfC "law" (defScope sLaw) s.heap.objs.size f cdv)
    refine ⟨_, (pss_cons (ps_set (i := 1) scLaw.nd rfl (Or.inl rfl) (pe_call d_law_begun.G (hr.mono (by decide)) rfl d_law_begun.g d_law_begun.k d_law_begun.b .nil pass0 (pa_cons (pv 0) pa_nil)))
  (pss_cons (ps_for PassesOwn.never rfl (pi_range1 rfl B.range (pa_cons (pe_op op_add pe_int (pe_callB (call_min2 rfl) (by rfl) hmin PyProof.Rows.boot_min (pa_cons pe_int (pa_cons (pe_callB call_len_seq (by rfl) B.len PySem.boot_len (pa_cons (pv 0) pa_nil)) pa_nil)))) pa_nil)) (pg_name (i := 2) scLaw.nd rfl (Or.inl rfl))
  (pss_cons (ps_set (i := 3) scLaw.nd rfl (Or.inl rfl) (pe_lst (pa_cons pe_non (pa_cons pe_int (pa_cons pe_bl (pa_cons (pe_call d_law_draw.G (hr.mono (by decide)) rfl d_law_draw.g d_law_draw.k d_law_draw.b .nil pass0 (pa_cons (pv 1) (pa_cons (pe_op op_pow pe_int pe_int) pa_nil))) (pa_cons pe_str (pa_cons pe_str (pa_cons (pe_tup pa_nil) (pa_cons (pe_tup (pa_cons pe_int (pa_cons pe_str pa_nil))) (pa_cons (pe_lst (pa_cons pe_int (pa_cons (pe_lst (pa_cons pe_int pa_nil)) pa_nil))) (pa_cons pe_dnewK (pa_cons (pe_disp (pps_cons pe_str pe_int pps_nil) (by rfl) (by rfl) (fun z => by cases z) (by decide)) pa_nil)))))))))))))
  (pss_cons (ps_par (i := 7) (j := 8) (by rfl) scLaw.nd rfl rfl (by decide) rfl rfl (pa_cons (pe_ix ix_list (pv 3) (pe_call d_law_draw.G (hr.mono (by decide)) rfl d_law_draw.g d_law_draw.k d_law_draw.b .nil pass0 (pa_cons (pv 1) (pa_cons pe_int pa_nil))) (fun _ _ => rfl)) (pa_cons (pe_ix ix_list (pv 3) (pe_call d_law_draw.G (hr.mono (by decide)) rfl d_law_draw.g d_law_draw.k d_law_draw.b .nil pass0 (pa_cons (pv 1) (pa_cons pe_int pa_nil))) (fun _ _ => rfl)) pa_nil)) (by rfl))
  (pss_cons (ps_set (i := 4) scLaw.nd rfl (Or.inl rfl) (pe_lst (pa_cons (pe_mkX xBadWide.o xBadWide.iC xBadWide.tI xBadWide.F (hr.mono (by decide)) xBadWide.b pass0 xBadWide.g (pa_cons (pv 7) pa_nil)) (pa_cons (pe_mkX xBadSeen.o xBadSeen.iC xBadSeen.tI xBadSeen.F (hr.mono (by decide)) xBadSeen.b pass0 xBadSeen.g (pa_cons (pv 7) pa_nil)) (pa_cons (pe_mkX xBadPhases.o xBadPhases.iC xBadPhases.tI xBadPhases.F (hr.mono (by decide)) xBadPhases.b pass0 xBadPhases.g (pa_cons (pv 7) pa_nil)) (pa_cons (pe_mkX xBadText.o xBadText.iC xBadText.tI xBadText.F (hr.mono (by decide)) xBadText.b pass0 xBadText.g (pa_cons (pv 7) (pa_cons (pv 8) pa_nil))) pa_nil))))))
  (pss_cons (ps_set (i := 5) scLaw.nd rfl (Or.inl rfl) (pe_lst (pa_cons (pe_mkK xBadWide.o xBadWide.iC xBadWide.tI xBadWide.F (hr.mono (by decide)) xBadWide.kw pass0 xBadWide.g (pk_cons (pv 7) pk_nil)) (pa_cons (pe_mkK xBadSeen.o xBadSeen.iC xBadSeen.tI xBadSeen.F (hr.mono (by decide)) xBadSeen.kw pass0 xBadSeen.g (pk_cons (pv 7) pk_nil)) (pa_cons (pe_mkK xBadPhases.o xBadPhases.iC xBadPhases.tI xBadPhases.F (hr.mono (by decide)) xBadPhases.kw pass0 xBadPhases.g (pk_cons (pv 7) pk_nil)) (pa_cons (pe_mkK xBadText.o xBadText.iC xBadText.tI xBadText.F (hr.mono (by decide)) xBadText.kw pass0 xBadText.g (pk_cons (pv 8) (pk_cons (pv 7) pk_nil))) pa_nil))))))
  (pss_cons (ps_for PassesOwn.never rfl (pi_tup (pe_tup (pa_cons (pv 4) (pa_cons (pv 5) pa_nil)))) (pg_name (i := 6) scLaw.nd rfl (Or.inl rfl))
  (pss_cons (ps_for PassesOwn.never rfl (pi_range1 rfl B.range (pa_cons pe_int pa_nil)) (pg_name (i := 9) scLaw.nd rfl (Or.inl rfl))
  (pss_one (ps_if (pt_cmpR (op_neD hr.units) (pe_call d_law_classes.G (hr.mono (by decide)) rfl d_law_classes.g d_law_classes.k d_law_classes.b .nil pass0 (pa_cons (pe_ix ix_list (pv 6) (pv 9) (fun _ _ => rfl)) pa_nil)) (pe_lst (pa_cons (pe_ix ix_list (pe_lst (pa_cons pe_str (pa_cons pe_str (pa_cons pe_str (pa_cons pe_str pa_nil))))) (pv 9) (fun _ _ => rfl)) (pa_cons pe_str (pa_cons pe_str pa_nil)))) (nomark _)) (pss_one (ps_ret pe_bl)) pss_nil)))
  (pss_cons (ps_set (i := 10) scLaw.nd rfl (Or.inl rfl) (pe_lst (pa_cons (pe_xa (pe_ix ix_list (pv 6) pe_int (fun _ _ => rfl))) (pa_cons (pe_xa (pe_ix ix_list (pv 6) pe_int (fun _ _ => rfl))) (pa_cons (pe_xa (pe_ix ix_list (pv 6) pe_int (fun _ _ => rfl))) (pa_cons (pe_xa (pe_ix ix_list (pv 6) pe_int (fun _ _ => rfl))) (pa_cons (pe_xa (pe_ix ix_list (pv 6) pe_int (fun _ _ => rfl))) pa_nil)))))))
  (pss_one (ps_if (pt_not (pt_val (pe_callG d_law_like.G g2 (hr.mono (by decide)) rfl d_law_like.g d_law_like.k d_law_like.b pass0 (pa_cons (pv 10) (pa_cons (pe_op op_cat (pe_op op_rep (pe_lst (pa_cons (pv 7) pa_nil)) pe_int) (pe_lst (pa_cons (pv 8) pa_nil))) pa_nil))))) (pss_one (ps_ret pe_bl)) pss_nil)))))
  (pss_one (ps_if (PW.pt (pw_or (pt_cmpR (op_neD hr.units) (pe_call d_law_classes.G (hr.mono (by decide)) rfl d_law_classes.g d_law_classes.k d_law_classes.b .nil pass0 (pa_cons (pe_mkO xTooGreat.o xTooGreat.iC xTooGreat.tI xTooGreat.F (hr.mono (by decide)) xTooGreat.b pass0 xTooGreat.g (pa_cons (pv 7) pa_nil)) pa_nil)) (pe_lst (pa_cons pe_str pa_nil)) (nomark _)) (pw_or1 (pt_not (pt_val (pe_callG d_law_like.G g2 (hr.mono (by decide)) rfl d_law_like.g d_law_like.k d_law_like.b pass0 (pa_cons (pe_xa (pe_mkO xTooGreat.o xTooGreat.iC xTooGreat.tI xTooGreat.F (hr.mono (by decide)) xTooGreat.b pass0 xTooGreat.g (pa_cons (pv 7) pa_nil))) (pa_cons (pv 7) pa_nil)))))))) (pss_one (ps_ret pe_bl)) pss_nil))))))))
  (pss_one (ps_ret pe_bl)))), ?_⟩
    walk_at "rd"
    refine ⟨o, ns, rfl, hS, hz, fun H1 m c g s1 nm nc ng M => ?_⟩
    walk_at "rd"
    refine r_for (r_rng1 (r_cons ?_))
    walk_at "rd"
    refine ⟨o, _, rfl, Or.inl (s1.seq hS), ?_⟩
    walk_at "rd"
    refine ⟨6, _, rfl, ?_⟩
    walk_at "rd"
    have ll : ((List.map V.int ns).length : Int) ≤ 63 := by rw [List.length_map]; omega
    have l0 : 0 ≤ ((List.map V.int ns).length : Int) := Int.natCast_nonneg _
    generalize ((List.map V.int ns).length : Int) = ln at ll l0 ⊢
    have cnt : 0 ≤ (3 + (if ln < 6 then ln else 6) : Int) ∧ (3 + (if ln < 6 then ln else 6) : Int) ≤ 9 := by split <;> omega
    generalize (3 + (if ln < 6 then ln else 6) : Int) = tn at cnt ⊢
    have tn0 : -(2 ^ 62) ≤ tn ∧ tn < 2 ^ 62 := ⟨by omega, by omega⟩
    refine ⟨tn, rfl, tn0.1, tn0.2, for_range (lo := 0) (n := tn.toNat) (fun i σ H' => ∃ o2 o3 o4 o5 o6 o7 o8 o9 o10 : Option V, σ = [some (.ref o), some (.ref m), o2, o3, o4, o5, o6, o7, o8, o9, o10] ∧ MAt m c g H' (536870912 - 3 * i))
      ⟨_, _, _, _, _, _, _, _, _, rfl, M.less (by omega)⟩ ?_ ?_⟩
    · rintro i σ H1 hi ⟨o2, o3, o4, o5, o6, o7, o8, o9, o10, rfl, M1⟩
      have i9 : i < 9 := by omega
      walk_at "st"
      -- the things
      refine r_lst ?_
      walk_at "rd"
      refine r_pow ⟨by decide, by decide, by decide⟩ ?_
      walk_at "rd"
      refine ⟨m, c, g, 536870912 - 3 * i - 1, _, rfl, by decide, by decide, M1.less (by omega), fun v0 H2 p0 q0 M2 _ => ?_⟩
      have q0' : v0 < 1000000 := q0
      have dm := (m_dom M2).1
      have dg := (m_dom M2).2
      have dB := dom_all (H := H2)
      show tCons _ _ _ H2 _
      refine (show MkBA K (dom H2) _ _ H2 things2 from ?mm) H2 Gr.rfl' _ fun xs H3 s3 ax => ?_
      case mm =>
        unfold things2
        walk_at "kb"
      have lx : xs.length = 7 := ax.len
      refine ⟨?_, fun p np => ?_⟩
      · show xs.length + 1 + 1 + 1 + 1 ≤ sizeLine
        exact sz1 (by omega)
      have hw : DtA K (wo (dom H2) (upd H3 p (.lst (.non :: .int 0 :: .bl true :: .int v0 :: xs)))) (.non :: .int 0 :: .bl true :: .int v0 :: xs) (things1 v0 ++ things2) :=
        .cons .non (.cons (.int 0) (.cons (.bl true) (.cons (.int v0) (ax.gr (wo_same (same_new np))))))
      have hp : wo (dom H2) (upd H3 p (.lst (.non :: .int 0 :: .bl true :: .int v0 :: xs))) p = some (.lst (.non :: .int 0 :: .bl true :: .int v0 :: xs)) := by
        rw [wo_at (apart dB s3 np), upd_same]
      have M3 := M2.same (s3.trans (same_new (o := .lst (.non :: .int 0 :: .bl true :: .int v0 :: xs)) np))
      generalize upd H3 p (.lst (.non :: .int 0 :: .bl true :: .int v0 :: xs)) = H4 at hw hp M3 ⊢
      have ly : (V.non :: .int 0 :: .bl true :: .int v0 :: xs).length = 11 := by simp [lx]
      generalize (V.non :: .int 0 :: .bl true :: .int v0 :: xs) = ys at hw hp ly ⊢
      have sm := small_things p0 q0'
      have ld : (things1 v0 ++ things2).length = 11 := rfl
      generalize things1 v0 ++ things2 = ds at hw sm ld ⊢
      -- the two of them
      walk_at "st"
      refine r_cons ?_
      walk_at "rd"
      refine ⟨m, c, g, 536870912 - 3 * i - 2, 11, rfl, by decide, by decide, M3.less (by omega), fun v1 H5 p1 q1 M5 k5 => ?_⟩
      obtain ⟨i1, rfl, l1⟩ := nat_of (n := 11) p1 q1
      have hp5 := wo_kp k5 dm dg _ _ hp
      have hw5 := hw.gr (wo_kp k5 dm dg)
      obtain ⟨d1, e1⟩ : ∃ d, ds[i1]? = some d := ⟨ds[i1]'(by omega), by simp⟩
      obtain ⟨x1, f1, b1⟩ := hw5.nth e1
      refine ⟨p, ys, (i1 : Int), x1, rfl, rfl, SqL.of (wo_le _ _ hp5), atI_nat f1, ?_⟩
      refine r_cons ?_
      walk_at "rd"
      refine ⟨m, c, g, 536870912 - 3 * i - 3, 11, rfl, by decide, by decide, M5.less (by omega), fun v2 H6 p2 q2 M6 k6 => ?_⟩
      obtain ⟨i2, rfl, l2⟩ := nat_of (n := 11) p2 q2
      have hp6 := wo_kp k6 dm dg _ _ hp5
      have hw6 := hw5.gr (wo_kp k6 dm dg)
      obtain ⟨d2, e2⟩ : ∃ d, ds[i2]? = some d := ⟨ds[i2]'(by omega), by simp⟩
      obtain ⟨x2, f2, b2⟩ := hw6.nth e2
      refine ⟨p, ys, (i2 : Int), x2, rfl, rfl, SqL.of (wo_le _ _ hp6), atI_nat f2, ?_⟩
      refine r_nil ⟨_, _, rfl, ?_⟩
      have hq : Dt K H6 x1 d1 := (b1.gr (wo_kp k6 dm dg)).gr wo_le
      have hz2 : Dt K H6 x2 d2 := b2.gr wo_le
      have sm1 := sm d1 (List.mem_of_getElem? e1)
      have sm2 := sm d2 (List.mem_of_getElem? e2)
      have rd5 := five_rd sm1 sm2
      have rd1 := small_rd sm1
      clear hp hw hp5 hw5 b1 hp6 hw6 b2
      -- made by place and by name
      walk_at "st"
      refine (show Mk K (tLst _) _ H6 (.lst (four a d1 d2)) from
        mk_lst (mka_cons (mk_mkX (mk_var rfl hq)) (mka_cons (mk_mkX (mk_var rfl hq)) (mka_cons (mk_mkX (mk_var rfl hq)) (mka_cons (mk_mkX2 (mk_var rfl hq) (mk_var rfl hz2)) mka_nil)))) (show 4 ≤ 100000 by decide)) H6 Gr.rfl' _ fun v4 H7 s7 a7 => ?_
      have hq7 := hq.gr s7
      have hz7 := hz2.gr s7
      walk_at "st"
      refine (show Mk K (tLst _) _ H7 (.lst (four a d1 d2)) from
        mk_lst (mka_cons (mk_mkK (mk_var rfl hq7)) (mka_cons (mk_mkK (mk_var rfl hq7)) (mka_cons (mk_mkK (mk_var rfl hq7)) (mka_cons (mk_mkK2 (mk_var rfl hz7) (mk_var rfl hq7)) mka_nil)))) (show 4 ≤ 100000 by decide)) H7 Gr.rfl' _ fun v5 H8 s8 a8 => ?_
      walk_at "st"
      refine r_for (r_itT (r_tup ?_))
      walk_at "rd"
      refine ⟨sz1 (show 2 ≤ 100000 by decide), fun t nt => ?_⟩
      have s9 : Same H8 (upd H8 t (.tup [v4, v5])) := same_new nt
      have ht : (upd H8 t (.tup [v4, v5])) t = some (.tup [v4, v5]) := upd_same
      have both : DtA K (upd H8 t (.tup [v4, v5])) [v4, v5] [.lst (four a d1 d2), .lst (four a d1 d2)] := .cons ((a7.gr s8).gr s9) (.cons (a8.gr s9) .nil)
      have M9 := ((M6.same s7).same s8).same s9
      have hq9 := (hq7.gr s8).gr s9
      have hz9 := (hz7.gr s8).gr s9
      generalize upd H8 t (.tup [v4, v5]) = H9 at ht both M9 hq9 hz9 ⊢
      refine ⟨t, rfl, ⟨_, SqT.of ht⟩, for_tup (K := K) (a := t) (xs := [v4, v5]) (fun j σ H' => ∃ o6 o9 o10 : Option V, σ = [some (.ref o), some (.ref m), some (.int (0 + (i : Int))), some (.ref p), some v4, some v5, o6, some x1, some x2, o9, o10] ∧ Same H9 H')
        ⟨_, _, _, rfl, Gr.rfl'⟩ (fun j σ H' _ z => by obtain ⟨_, _, _, _, z⟩ := z; exact SqT.of (z _ _ ht)) ?_ ?_⟩
      · rintro j vj σ Ha hj ⟨o6, o9, o10, rfl, sa⟩
        obtain ⟨dv, ev, av⟩ := both.at hj
        have hj2 : j < 2 := (List.getElem?_eq_some_iff.mp hj).1
        have edv : dv = .lst (four a d1 d2) := by
          have : j = 0 ∨ j = 1 := by omega
          rcases this with rfl | rfl
          · exact (Option.some.inj ev).symm
          · exact (Option.some.inj ev).symm
        subst edv
        walk_at "st"
        refine r_for (r_rng1 (r_cons ?_))
        walk_at "rd"
        refine ⟨4, rfl, by decide, by decide, for_range (lo := 0) (n := 4) (fun n σ H' => ∃ o9 o10 : Option V, σ = [some (.ref o), some (.ref m), some (.int (0 + (i : Int))), some (.ref p), some v4, some v5, some vj, some x1, some x2, o9, o10] ∧ Same Ha H')
          ⟨_, _, rfl, Gr.rfl'⟩ ?_ ?_⟩
        · rintro n σ Hb hn ⟨o9, o10, rfl, sb⟩
          rw [Int.zero_add]
          walk_at "st"
          have avb := av.gr (sa.trans sb)
          refine (show MkT _ _ Hb false from ?tst) Hb Gr.rfl' _ fun Hc sc => ?_
          case tst =>
            have : n = 0 ∨ n = 1 ∨ n = 2 ∨ n = 3 := by omega
            rcases this with rfl | rfl | rfl | rfl
            · exact mt_lab (nm := "wide") (mk_var rfl avb) (mk_var rfl (.int ((0 : Nat) : Int))) rfl RW rfl rfl (by decide +kernel) (by decide +kernel) (by decide +kernel)
            · exact mt_lab (nm := "seen") (mk_var rfl avb) (mk_var rfl (.int ((1 : Nat) : Int))) rfl RS rfl rfl (by decide +kernel) (by decide +kernel) (by decide +kernel)
            · exact mt_lab (nm := "phases") (mk_var rfl avb) (mk_var rfl (.int ((2 : Nat) : Int))) rfl RP rfl rfl (by decide +kernel) (by decide +kernel) (by decide +kernel)
            · exact mt_lab (nm := "text") (mk_var rfl avb) (mk_var rfl (.int ((3 : Nat) : Int))) rfl RT rfl rfl (by decide +kernel) (by decide +kernel) (by decide +kernel)
          refine iteF ?_
          walk_at "st"
          exact ⟨_, _, rfl, sb.trans sc⟩
        · rintro σ Hb ⟨o9, o10, rfl, sb⟩
          walk_at "st"
          have avb := av.gr (sa.trans sb)
          have hqb := hq9.gr (sa.trans sb)
          have hzb := hz9.gr (sa.trans sb)
          have at_ : ∀ {n : Nat} {C : Addr} {fs : List (Str × D)}, (four a d1 d2)[n]? = some (.exc C fs) → Mk K (tOp (rIxL K) (tVar 6) (tC (.int (n : Int)))) [some (.ref o), some (.ref m), some (.int (0 + (i : Int))), some (.ref p), some v4, some v5, some vj, some x1, some x2, o9, o10] Hb (.exc C fs) := fun e => mk_ixL (mk_var rfl avb) mk_int e
          refine (show Mk K (tLst _) _ Hb (.lst [d1, d1, d1, d1, d2]) from
            mk_lst (mka_cons (mk_xa (at_ (n := 0) rfl) xBadWide.a xBadWide.no rfl) (mka_cons (mk_xa (at_ (n := 1) rfl) xBadSeen.a xBadSeen.no rfl) (mka_cons (mk_xa (at_ (n := 2) rfl) xBadPhases.a xBadPhases.no rfl)
              (mka_cons (mk_xa (at_ (n := 3) rfl) xBadText.a xBadText.no1 rfl) (mka_cons (mk_xa (at_ (n := 3) rfl) xBadText.a xBadText.no2 rfl) mka_nil))))) (show 5 ≤ 100000 by decide)) Hb Gr.rfl' _ fun v10 Hc sc ac => ?_
          have hqc := hqb.gr sc
          have hzc := hzb.gr sc
          walk_at "st"
          refine (mt_not (mt_B (mk_like (d := .lst [d1, d1, d1, d1, d2]) (mk_var rfl ac) (mk_cat (mk_rep (k := 4) (mk_lst (mka_cons (mk_var rfl hqc) mka_nil) (show 1 ≤ 100000 by decide)) mk_int (by decide) (by decide) (show 1 ≤ 100 by decide)) (mk_lst (mka_cons (mk_var rfl hzc) mka_nil) (show 1 ≤ 100000 by decide)) (show 5 ≤ 100000 by decide)) rd5)) : MkT _ _ Hc (!true)) Hc Gr.rfl' _ fun Hd sd => ?_
          refine iteF ?_
          walk_at "st"
          exact ⟨_, _, _, rfl, ((sa.trans sb).trans sc).trans sd⟩
      · rintro σ Ha ⟨o6, o9, o10, rfl, sa⟩
        walk_at "st"
        have hqa := hq9.gr sa
        have gm : Mk K (tMkX a.great (spIni a.great "most") (tCons (tVar 7) tNil)) [some (.ref o), some (.ref m), some (.int (0 + (i : Int))), some (.ref p), some v4, some v5, o6, some x1, some x2, o9, o10] Ha (.exc a.great [("most", d1)]) := mk_mkX (mk_var rfl hqa)
        have lg := mk_classes (a := a) gm RG
        rw [show labels (rowsOf false false false false false true) = .lst [.str "great"] from rfl] at lg
        have t1 := mt_test (mk_neD (d := .lst [.str "great"]) (e := .lst [.str "great"]) lg (mk_lst (mka_cons mk_str mka_nil) (show 1 ≤ 100000 by decide)) (by decide +kernel) (by decide +kernel) (by decide +kernel) (by decide +kernel))
        rw [show (!PyData.eqv (D.lst [.str "great"]).py (D.lst [.str "great"]).py) = false by decide +kernel] at t1
        refine (mt_or t1 (mt_not (mt_B (mk_like (mk_xa gm xTooGreat.a xTooGreat.no rfl) (mk_var rfl hqa) rd1))) : MkT _ _ Ha (!true)) Ha Gr.rfl' _ fun Hb sb => ?_
        refine iteF ?_
        walk_at "st"
        exact ⟨_, _, _, _, _, _, _, _, _, rfl, ((M9.same sa).same sb).less (by omega)⟩
    · rintro σ H' ⟨o2, o3, o4, o5, o6, o7, o8, o9, o10, rfl, M1⟩
      walk_at "rd"
      exact k H'
end
end TSx

namespace TSx
open PySem L2
local macro_rules | `(tactic| walk_at "rd") => `(tactic| repeat (first
  | ((with_reducible show tVar _ _ _ _); refine r_v rfl ?_)
  | with_reducible refine r_c ?_
  | with_reducible refine r_op ?_
  | with_reducible refine r_I0 ?_
  | with_reducible refine r_cb ?_
  | with_reducible refine r_nil ?_
  | with_reducible refine r_cons ?_
  | with_reducible refine r_seq ?_
  | with_reducible refine r_next ?_
  | with_reducible refine r_asg ?_
  | with_reducible refine r_name ?_
  | with_reducible refine r_ret ?_
  | with_reducible refine r_drop ?_
  | with_reducible refine r_if ?_
  | with_reducible refine r_test ?_
  | with_reducible refine r_bl ?_
  | with_reducible refine r_call ?_))
local macro_rules | `(tactic| walk_at "st") => `(tactic| repeat (first
  | with_reducible refine r_seq ?_
  | with_reducible refine r_next ?_
  | with_reducible refine r_asg ?_
  | with_reducible refine r_name ?_
  | with_reducible refine r_ret ?_
  | with_reducible refine r_drop ?_
  | with_reducible refine r_if ?_))
local macro_rules | `(tactic| walk_at "mk") => `(tactic| repeat (first
  | with_reducible exact mk_non
  | with_reducible exact mk_int
  | with_reducible exact mk_str
  | with_reducible exact mk_bl
  | with_reducible exact mk_dic
  | with_reducible exact mka_nil
  | with_reducible refine mka_cons ?_ ?_
  | ((with_reducible refine mk_tup ?_ ?hz); (case hz => decide))
  | ((with_reducible refine mk_lst ?_ ?hz); (case hz => decide))
  | with_reducible refine mk_neg ?_))
/-! ### the end: what the top has written -/
theorem kit_ref {K : PySem.W.Frag} {C E : Addr} {b : Bool} (ic : PySem.W.isClsIn K E = true) (ty : PySem.W.typeIn K (.ref E) = some (.type "type")) (s : PySem.W.subIn K (.ref C) (.ref E) = some b) (self : PySem.W.subIn K (.ref C) (.ref C) = some true) : PySem.W.kitOne K (.ref C) (.ref E) = some b := by
  have e2 : ((PySem.W.clsIn K E).isSome && PySem.W.typeIn K (.ref E) == some (.type "type")) = true := by
    have ic' : (PySem.W.clsIn K E).isSome = true := ic
    rw [ic', ty] <;> rfl
  show (if (Value.ref C == Value.ref E) = true then some true else (if ((PySem.W.clsIn K E).isSome && PySem.W.typeIn K (.ref E) == some (.type "type")) = true then PySem.W.subIn K (.ref C) (.ref E) else none)) = some b
  by_cases h : (Value.ref C == Value.ref E) = true
  · rw [if_pos h]
    have e : C = E := Value.ref.inj (beq_iff_eq.mp h)
    rw [← e, self] at s
    exact s
  · rw [if_neg h, if_pos e2]
    exact s
theorem kit_type {K : PySem.W.Frag} {C : Addr} {T : String} {b : Bool} (m : PySem.W.kitMeta T = true) (s : PySem.W.subIn K (.ref C) (.type T) = some b) : PySem.W.kitOne K (.ref C) (.type T) = some b := by
  show (if (Value.ref C == Value.type T) = true then some true else (if PySem.W.kitMeta T = true then PySem.W.subIn K (.ref C) (.type T) else none)) = some b
  have h : ¬ (Value.ref C == Value.type T) = true := by
    intro z
    cases beq_iff_eq.mp z
  rw [if_neg h, if_pos m]
  exact s
theorem all_mk {l : PySem.W.OpenLaw} {w : World} {K : PySem.W.Frag} {h : Heap} {mg : Str → Option Value} {fa c_house c_stand c_choices c_band c_number c_paper c_wide c_seen c_phases c_text c_seat c_great i_W i_S i_P i_T i_G f_mixed f_folded f_draw f_begun f_like f_classes f_law : Addr} (X : K.In h) (G : h.Ns mainGlobals mg) (hfa : mg "law" = some (.ref fa))
    {nmW qW : Str} {NW : Addr} {bsW : List Value} {snW : List Str} {subW : List Value} {abW : Bool} {colW : Option Bool} {ddW : Option Addr} {m0W m1W m2W m3W m5W : Option Value}
    {odW anW : Option Addr} {slW : Array (Option Value)} {ocW kVW dcW pmW cdW ctW : Value}
    {nmS qS : Str} {NS : Addr} {bsS : List Value} {snS : List Str} {subS : List Value} {abS : Bool} {colS : Option Bool} {ddS : Option Addr} {m0S m1S m2S m3S m5S : Option Value}
    {odS anS : Option Addr} {slS : Array (Option Value)} {ocS kVS dcS pmS cdS ctS : Value}
    {nmP qP : Str} {NP : Addr} {bsP : List Value} {snP : List Str} {subP : List Value} {abP : Bool} {colP : Option Bool} {ddP : Option Addr} {m0P m1P m2P m3P m5P : Option Value}
    {odP anP : Option Addr} {slP : Array (Option Value)} {ocP kVP dcP pmP cdP ctP : Value}
    {nmT qT : Str} {NT : Addr} {bsT : List Value} {snT : List Str} {subT : List Value} {abT : Bool} {colT : Option Bool} {ddT : Option Addr} {m0T m1T m2T m3T m5T : Option Value}
    {odT anT : Option Addr} {slT : Array (Option Value)} {ocT kVT dcT pmT cdT ctT : Value}
    {nmG qG : Str} {NG : Addr} {bsG : List Value} {snG : List Str} {subG : List Value} {abG : Bool} {colG : Option Bool} {ddG : Option Addr} {m0G m1G m2G m3G m5G : Option Value}
    {odG anG : Option Addr} {slG : Array (Option Value)} {ocG kVG dcG pmG cdG ctG : Value}
    {od_mixed an_mixed : Option Addr} {sl_mixed : Array (Option Value)} {oc_mixed kV_mixed dc_mixed pm_mixed cd_mixed ct_mixed : Value}
    {od_folded an_folded : Option Addr} {sl_folded : Array (Option Value)} {oc_folded kV_folded dc_folded pm_folded cd_folded ct_folded : Value}
    {od_draw an_draw : Option Addr} {sl_draw : Array (Option Value)} {oc_draw kV_draw dc_draw pm_draw cd_draw ct_draw : Value}
    {od_begun an_begun : Option Addr} {sl_begun : Array (Option Value)} {oc_begun kV_begun dc_begun pm_begun cd_begun ct_begun : Value}
    {od_like an_like : Option Addr} {sl_like : Array (Option Value)} {oc_like kV_like dc_like pm_like cd_like ct_like : Value}
    {od_classes an_classes : Option Addr} {sl_classes : Array (Option Value)} {oc_classes kV_classes dc_classes pm_classes cd_classes ct_classes : Value}
    {od_law an_law : Option Addr} {sl_law : Array (Option Value)} {oc_law kV_law dc_law pm_law cd_law ct_law : Value}
    (a_house : PySem.W.nsIn K mainGlobals "BadHouse" = some (some (.ref c_house)))
    (ic_house : PySem.W.isClsIn K c_house = true)
    (ty_house : PySem.W.typeIn K (.ref c_house) = some (.type "type"))
    (a_stand : PySem.W.nsIn K mainGlobals "BadStand" = some (some (.ref c_stand)))
    (ic_stand : PySem.W.isClsIn K c_stand = true)
    (ty_stand : PySem.W.typeIn K (.ref c_stand) = some (.type "type"))
    (a_choices : PySem.W.nsIn K mainGlobals "BadChoices" = some (some (.ref c_choices)))
    (ic_choices : PySem.W.isClsIn K c_choices = true)
    (ty_choices : PySem.W.typeIn K (.ref c_choices) = some (.type "type"))
    (a_band : PySem.W.nsIn K mainGlobals "BadBand" = some (some (.ref c_band)))
    (ic_band : PySem.W.isClsIn K c_band = true)
    (ty_band : PySem.W.typeIn K (.ref c_band) = some (.type "type"))
    (a_number : PySem.W.nsIn K mainGlobals "BadNumber" = some (some (.ref c_number)))
    (ic_number : PySem.W.isClsIn K c_number = true)
    (ty_number : PySem.W.typeIn K (.ref c_number) = some (.type "type"))
    (a_paper : PySem.W.nsIn K mainGlobals "BadPaper" = some (some (.ref c_paper)))
    (ic_paper : PySem.W.isClsIn K c_paper = true)
    (ty_paper : PySem.W.typeIn K (.ref c_paper) = some (.type "type"))
    (a_wide : PySem.W.nsIn K mainGlobals "BadWide" = some (some (.ref c_wide)))
    (ic_wide : PySem.W.isClsIn K c_wide = true)
    (ty_wide : PySem.W.typeIn K (.ref c_wide) = some (.type "type"))
    (a_seen : PySem.W.nsIn K mainGlobals "BadSeen" = some (some (.ref c_seen)))
    (ic_seen : PySem.W.isClsIn K c_seen = true)
    (ty_seen : PySem.W.typeIn K (.ref c_seen) = some (.type "type"))
    (a_phases : PySem.W.nsIn K mainGlobals "BadPhases" = some (some (.ref c_phases)))
    (ic_phases : PySem.W.isClsIn K c_phases = true)
    (ty_phases : PySem.W.typeIn K (.ref c_phases) = some (.type "type"))
    (a_text : PySem.W.nsIn K mainGlobals "BadText" = some (some (.ref c_text)))
    (ic_text : PySem.W.isClsIn K c_text = true)
    (ty_text : PySem.W.typeIn K (.ref c_text) = some (.type "type"))
    (a_seat : PySem.W.nsIn K mainGlobals "SeatError" = some (some (.ref c_seat)))
    (ic_seat : PySem.W.isClsIn K c_seat = true)
    (ty_seat : PySem.W.typeIn K (.ref c_seat) = some (.type "type"))
    (a_great : PySem.W.nsIn K mainGlobals "TooGreat" = some (some (.ref c_great)))
    (ic_great : PySem.W.isClsIn K c_great = true)
    (ty_great : PySem.W.typeIn K (.ref c_great) = some (.type "type"))
    (hn : PySem.W.specialIn K (.builtin "object.__class__") "__get__" = some (some (.builtin "getset_descriptor.__get__")))
    (ht : PySem.W.takesIn K (.builtin "object.__class__") = some true)
    (xLW : K.lookup c_wide = some (excClassObj nmW qW c_wide NW bsW [.ref c_seat, .type "ValueError", .type "Exception", .type "BaseException", .type "object"] true snW subW abW colW ddW m0W m1W m2W m3W m5W "ValueError.__new__"))
    (saW : PySem.W.findIn K (.ref c_wide) "__setattr__" = some (some (.builtin "object.__setattr__")))
    (eCW : PySem.W.subIn K (.ref c_wide) (.type "BaseException") = some true)
    (kCW : PySem.W.keepIn K (.ref c_wide) = true)
    (hgW : PySem.W.findIn K (.ref c_wide) "__getattribute__" = some (some (.builtin "BaseException.__getattribute__")))
    (hkW : PySem.W.findIn K (.ref c_wide) "__getattr__" = some none)
    (hdW : PySem.W.hasDictIn K c_wide = true)
    (haW : PySem.W.findIn K (.ref c_wide) "__class__" = some (some (.builtin "object.__class__")))
    (hmW : PySem.W.mroIn K c_wide (.type "object") = some true)
    (noW_place : PySem.W.findIn K (.ref c_wide) "place" = some none)
    (iCW : PySem.W.findIn K (.ref c_wide) "__init__" = some (some (.ref i_W)))
    (tIW : PySem.W.typeIn K (.ref i_W) = some (.type "function"))
    (lW : K.lookup i_W = some ⟨ocW, odW, .func (PySem.W.fnOf "__init__" "BadWide.__init__" (defArgs sIniW) (defBody sIniW) (defScope sIniW) .none kVW dcW pmW anW cdW ctW), slW⟩)
    (cd_W : PySem.W.codeIn K cdW "BadWide.__init__" = true)
    (kIW : PySem.W.keepIn K (.ref i_W) = true)
    (sW_house : PySem.W.subIn K (.ref c_wide) (.ref c_house) = some false)
    (sW_stand : PySem.W.subIn K (.ref c_wide) (.ref c_stand) = some false)
    (sW_choices : PySem.W.subIn K (.ref c_wide) (.ref c_choices) = some false)
    (sW_band : PySem.W.subIn K (.ref c_wide) (.ref c_band) = some false)
    (sW_number : PySem.W.subIn K (.ref c_wide) (.ref c_number) = some false)
    (sW_paper : PySem.W.subIn K (.ref c_wide) (.ref c_paper) = some false)
    (sW_wide : PySem.W.subIn K (.ref c_wide) (.ref c_wide) = some true)
    (sW_seen : PySem.W.subIn K (.ref c_wide) (.ref c_seen) = some false)
    (sW_phases : PySem.W.subIn K (.ref c_wide) (.ref c_phases) = some false)
    (sW_text : PySem.W.subIn K (.ref c_wide) (.ref c_text) = some false)
    (sW_seat : PySem.W.subIn K (.ref c_wide) (.ref c_seat) = some true)
    (sW_great : PySem.W.subIn K (.ref c_wide) (.ref c_great) = some false)
    (sW_ValueError : PySem.W.subIn K (.ref c_wide) (.type "ValueError") = some true)
    (xLS : K.lookup c_seen = some (excClassObj nmS qS c_seen NS bsS [.ref c_seat, .type "ValueError", .type "Exception", .type "BaseException", .type "object"] true snS subS abS colS ddS m0S m1S m2S m3S m5S "ValueError.__new__"))
    (saS : PySem.W.findIn K (.ref c_seen) "__setattr__" = some (some (.builtin "object.__setattr__")))
    (eCS : PySem.W.subIn K (.ref c_seen) (.type "BaseException") = some true)
    (kCS : PySem.W.keepIn K (.ref c_seen) = true)
    (hgS : PySem.W.findIn K (.ref c_seen) "__getattribute__" = some (some (.builtin "BaseException.__getattribute__")))
    (hkS : PySem.W.findIn K (.ref c_seen) "__getattr__" = some none)
    (hdS : PySem.W.hasDictIn K c_seen = true)
    (haS : PySem.W.findIn K (.ref c_seen) "__class__" = some (some (.builtin "object.__class__")))
    (hmS : PySem.W.mroIn K c_seen (.type "object") = some true)
    (noS_place : PySem.W.findIn K (.ref c_seen) "place" = some none)
    (iCS : PySem.W.findIn K (.ref c_seen) "__init__" = some (some (.ref i_S)))
    (tIS : PySem.W.typeIn K (.ref i_S) = some (.type "function"))
    (lS : K.lookup i_S = some ⟨ocS, odS, .func (PySem.W.fnOf "__init__" "BadSeen.__init__" (defArgs sIniS) (defBody sIniS) (defScope sIniS) .none kVS dcS pmS anS cdS ctS), slS⟩)
    (cd_S : PySem.W.codeIn K cdS "BadSeen.__init__" = true)
    (kIS : PySem.W.keepIn K (.ref i_S) = true)
    (sS_house : PySem.W.subIn K (.ref c_seen) (.ref c_house) = some false)
    (sS_stand : PySem.W.subIn K (.ref c_seen) (.ref c_stand) = some false)
    (sS_choices : PySem.W.subIn K (.ref c_seen) (.ref c_choices) = some false)
    (sS_band : PySem.W.subIn K (.ref c_seen) (.ref c_band) = some false)
    (sS_number : PySem.W.subIn K (.ref c_seen) (.ref c_number) = some false)
    (sS_paper : PySem.W.subIn K (.ref c_seen) (.ref c_paper) = some false)
    (sS_wide : PySem.W.subIn K (.ref c_seen) (.ref c_wide) = some false)
    (sS_seen : PySem.W.subIn K (.ref c_seen) (.ref c_seen) = some true)
    (sS_phases : PySem.W.subIn K (.ref c_seen) (.ref c_phases) = some false)
    (sS_text : PySem.W.subIn K (.ref c_seen) (.ref c_text) = some false)
    (sS_seat : PySem.W.subIn K (.ref c_seen) (.ref c_seat) = some true)
    (sS_great : PySem.W.subIn K (.ref c_seen) (.ref c_great) = some false)
    (sS_ValueError : PySem.W.subIn K (.ref c_seen) (.type "ValueError") = some true)
    (xLP : K.lookup c_phases = some (excClassObj nmP qP c_phases NP bsP [.ref c_seat, .type "ValueError", .type "Exception", .type "BaseException", .type "object"] true snP subP abP colP ddP m0P m1P m2P m3P m5P "ValueError.__new__"))
    (saP : PySem.W.findIn K (.ref c_phases) "__setattr__" = some (some (.builtin "object.__setattr__")))
    (eCP : PySem.W.subIn K (.ref c_phases) (.type "BaseException") = some true)
    (kCP : PySem.W.keepIn K (.ref c_phases) = true)
    (hgP : PySem.W.findIn K (.ref c_phases) "__getattribute__" = some (some (.builtin "BaseException.__getattribute__")))
    (hkP : PySem.W.findIn K (.ref c_phases) "__getattr__" = some none)
    (hdP : PySem.W.hasDictIn K c_phases = true)
    (haP : PySem.W.findIn K (.ref c_phases) "__class__" = some (some (.builtin "object.__class__")))
    (hmP : PySem.W.mroIn K c_phases (.type "object") = some true)
    (noP_value : PySem.W.findIn K (.ref c_phases) "value" = some none)
    (iCP : PySem.W.findIn K (.ref c_phases) "__init__" = some (some (.ref i_P)))
    (tIP : PySem.W.typeIn K (.ref i_P) = some (.type "function"))
    (lP : K.lookup i_P = some ⟨ocP, odP, .func (PySem.W.fnOf "__init__" "BadPhases.__init__" (defArgs sIniP) (defBody sIniP) (defScope sIniP) .none kVP dcP pmP anP cdP ctP), slP⟩)
    (cd_P : PySem.W.codeIn K cdP "BadPhases.__init__" = true)
    (kIP : PySem.W.keepIn K (.ref i_P) = true)
    (sP_house : PySem.W.subIn K (.ref c_phases) (.ref c_house) = some false)
    (sP_stand : PySem.W.subIn K (.ref c_phases) (.ref c_stand) = some false)
    (sP_choices : PySem.W.subIn K (.ref c_phases) (.ref c_choices) = some false)
    (sP_band : PySem.W.subIn K (.ref c_phases) (.ref c_band) = some false)
    (sP_number : PySem.W.subIn K (.ref c_phases) (.ref c_number) = some false)
    (sP_paper : PySem.W.subIn K (.ref c_phases) (.ref c_paper) = some false)
    (sP_wide : PySem.W.subIn K (.ref c_phases) (.ref c_wide) = some false)
    (sP_seen : PySem.W.subIn K (.ref c_phases) (.ref c_seen) = some false)
    (sP_phases : PySem.W.subIn K (.ref c_phases) (.ref c_phases) = some true)
    (sP_text : PySem.W.subIn K (.ref c_phases) (.ref c_text) = some false)
    (sP_seat : PySem.W.subIn K (.ref c_phases) (.ref c_seat) = some true)
    (sP_great : PySem.W.subIn K (.ref c_phases) (.ref c_great) = some false)
    (sP_ValueError : PySem.W.subIn K (.ref c_phases) (.type "ValueError") = some true)
    (xLT : K.lookup c_text = some (excClassObj nmT qT c_text NT bsT [.ref c_seat, .type "ValueError", .type "Exception", .type "BaseException", .type "object"] true snT subT abT colT ddT m0T m1T m2T m3T m5T "ValueError.__new__"))
    (saT : PySem.W.findIn K (.ref c_text) "__setattr__" = some (some (.builtin "object.__setattr__")))
    (eCT : PySem.W.subIn K (.ref c_text) (.type "BaseException") = some true)
    (kCT : PySem.W.keepIn K (.ref c_text) = true)
    (hgT : PySem.W.findIn K (.ref c_text) "__getattribute__" = some (some (.builtin "BaseException.__getattribute__")))
    (hkT : PySem.W.findIn K (.ref c_text) "__getattr__" = some none)
    (hdT : PySem.W.hasDictIn K c_text = true)
    (haT : PySem.W.findIn K (.ref c_text) "__class__" = some (some (.builtin "object.__class__")))
    (hmT : PySem.W.mroIn K c_text (.type "object") = some true)
    (noT_line : PySem.W.findIn K (.ref c_text) "line" = some none)
    (noT_word : PySem.W.findIn K (.ref c_text) "word" = some none)
    (iCT : PySem.W.findIn K (.ref c_text) "__init__" = some (some (.ref i_T)))
    (tIT : PySem.W.typeIn K (.ref i_T) = some (.type "function"))
    (lT : K.lookup i_T = some ⟨ocT, odT, .func (PySem.W.fnOf "__init__" "BadText.__init__" (defArgs sIniT) (defBody sIniT) (defScope sIniT) .none kVT dcT pmT anT cdT ctT), slT⟩)
    (cd_T : PySem.W.codeIn K cdT "BadText.__init__" = true)
    (kIT : PySem.W.keepIn K (.ref i_T) = true)
    (sT_house : PySem.W.subIn K (.ref c_text) (.ref c_house) = some false)
    (sT_stand : PySem.W.subIn K (.ref c_text) (.ref c_stand) = some false)
    (sT_choices : PySem.W.subIn K (.ref c_text) (.ref c_choices) = some false)
    (sT_band : PySem.W.subIn K (.ref c_text) (.ref c_band) = some false)
    (sT_number : PySem.W.subIn K (.ref c_text) (.ref c_number) = some false)
    (sT_paper : PySem.W.subIn K (.ref c_text) (.ref c_paper) = some false)
    (sT_wide : PySem.W.subIn K (.ref c_text) (.ref c_wide) = some false)
    (sT_seen : PySem.W.subIn K (.ref c_text) (.ref c_seen) = some false)
    (sT_phases : PySem.W.subIn K (.ref c_text) (.ref c_phases) = some false)
    (sT_text : PySem.W.subIn K (.ref c_text) (.ref c_text) = some true)
    (sT_seat : PySem.W.subIn K (.ref c_text) (.ref c_seat) = some true)
    (sT_great : PySem.W.subIn K (.ref c_text) (.ref c_great) = some false)
    (sT_ValueError : PySem.W.subIn K (.ref c_text) (.type "ValueError") = some true)
    (xLG : K.lookup c_great = some (excClassObj nmG qG c_great NG bsG [.type "OverflowError", .type "ArithmeticError", .type "Exception", .type "BaseException", .type "object"] true snG subG abG colG ddG m0G m1G m2G m3G m5G "OverflowError.__new__"))
    (saG : PySem.W.findIn K (.ref c_great) "__setattr__" = some (some (.builtin "object.__setattr__")))
    (eCG : PySem.W.subIn K (.ref c_great) (.type "BaseException") = some true)
    (kCG : PySem.W.keepIn K (.ref c_great) = true)
    (hgG : PySem.W.findIn K (.ref c_great) "__getattribute__" = some (some (.builtin "BaseException.__getattribute__")))
    (hkG : PySem.W.findIn K (.ref c_great) "__getattr__" = some none)
    (hdG : PySem.W.hasDictIn K c_great = true)
    (haG : PySem.W.findIn K (.ref c_great) "__class__" = some (some (.builtin "object.__class__")))
    (hmG : PySem.W.mroIn K c_great (.type "object") = some true)
    (noG_most : PySem.W.findIn K (.ref c_great) "most" = some none)
    (iCG : PySem.W.findIn K (.ref c_great) "__init__" = some (some (.ref i_G)))
    (tIG : PySem.W.typeIn K (.ref i_G) = some (.type "function"))
    (lG : K.lookup i_G = some ⟨ocG, odG, .func (PySem.W.fnOf "__init__" "TooGreat.__init__" (defArgs sIniG) (defBody sIniG) (defScope sIniG) .none kVG dcG pmG anG cdG ctG), slG⟩)
    (cd_G : PySem.W.codeIn K cdG "TooGreat.__init__" = true)
    (kIG : PySem.W.keepIn K (.ref i_G) = true)
    (sG_house : PySem.W.subIn K (.ref c_great) (.ref c_house) = some false)
    (sG_stand : PySem.W.subIn K (.ref c_great) (.ref c_stand) = some false)
    (sG_choices : PySem.W.subIn K (.ref c_great) (.ref c_choices) = some false)
    (sG_band : PySem.W.subIn K (.ref c_great) (.ref c_band) = some false)
    (sG_number : PySem.W.subIn K (.ref c_great) (.ref c_number) = some false)
    (sG_paper : PySem.W.subIn K (.ref c_great) (.ref c_paper) = some false)
    (sG_wide : PySem.W.subIn K (.ref c_great) (.ref c_wide) = some false)
    (sG_seen : PySem.W.subIn K (.ref c_great) (.ref c_seen) = some false)
    (sG_phases : PySem.W.subIn K (.ref c_great) (.ref c_phases) = some false)
    (sG_text : PySem.W.subIn K (.ref c_great) (.ref c_text) = some false)
    (sG_seat : PySem.W.subIn K (.ref c_great) (.ref c_seat) = some false)
    (sG_great : PySem.W.subIn K (.ref c_great) (.ref c_great) = some true)
    (sG_ValueError : PySem.W.subIn K (.ref c_great) (.type "ValueError") = some false)
    (a_mixed : PySem.W.nsIn K mainGlobals "_law_mixed" = some (some (.ref f_mixed)))
    (l_mixed : K.lookup f_mixed = some ⟨oc_mixed, od_mixed, .func (PySem.W.fnOf "_law_mixed" "_law_mixed" (defArgs sMixed) (defBody sMixed) (defScope sMixed) .none kV_mixed dc_mixed pm_mixed an_mixed cd_mixed ct_mixed), sl_mixed⟩)
    (cd_of_mixed : PySem.W.codeIn K cd_mixed "_law_mixed" = true)
    (k_mixed : PySem.W.keepIn K (.ref f_mixed) = true)
    (a_folded : PySem.W.nsIn K mainGlobals "_law_folded" = some (some (.ref f_folded)))
    (l_folded : K.lookup f_folded = some ⟨oc_folded, od_folded, .func (PySem.W.fnOf "_law_folded" "_law_folded" (defArgs sFolded) (defBody sFolded) (defScope sFolded) .none kV_folded dc_folded pm_folded an_folded cd_folded ct_folded), sl_folded⟩)
    (cd_of_folded : PySem.W.codeIn K cd_folded "_law_folded" = true)
    (k_folded : PySem.W.keepIn K (.ref f_folded) = true)
    (a_draw : PySem.W.nsIn K mainGlobals "_law_draw" = some (some (.ref f_draw)))
    (l_draw : K.lookup f_draw = some ⟨oc_draw, od_draw, .func (PySem.W.fnOf "_law_draw" "_law_draw" (defArgs sDraw) (defBody sDraw) (defScope sDraw) .none kV_draw dc_draw pm_draw an_draw cd_draw ct_draw), sl_draw⟩)
    (cd_of_draw : PySem.W.codeIn K cd_draw "_law_draw" = true)
    (k_draw : PySem.W.keepIn K (.ref f_draw) = true)
    (a_begun : PySem.W.nsIn K mainGlobals "_law_begun" = some (some (.ref f_begun)))
    (l_begun : K.lookup f_begun = some ⟨oc_begun, od_begun, .func (PySem.W.fnOf "_law_begun" "_law_begun" (defArgs sBegun) (defBody sBegun) (defScope sBegun) .none kV_begun dc_begun pm_begun an_begun cd_begun ct_begun), sl_begun⟩)
    (cd_of_begun : PySem.W.codeIn K cd_begun "_law_begun" = true)
    (k_begun : PySem.W.keepIn K (.ref f_begun) = true)
    (a_like : PySem.W.nsIn K mainGlobals "_law_like" = some (some (.ref f_like)))
    (l_like : K.lookup f_like = some ⟨oc_like, od_like, .func (PySem.W.fnOf "_law_like" "_law_like" (defArgs sLike) (defBody sLike) (defScope sLike) .none kV_like dc_like pm_like an_like cd_like ct_like), sl_like⟩)
    (cd_of_like : PySem.W.codeIn K cd_like "_law_like" = true)
    (k_like : PySem.W.keepIn K (.ref f_like) = true)
    (a_classes : PySem.W.nsIn K mainGlobals "_law_classes" = some (some (.ref f_classes)))
    (l_classes : K.lookup f_classes = some ⟨oc_classes, od_classes, .func (PySem.W.fnOf "_law_classes" "_law_classes" (defArgs sClasses) (defBody sClasses) (defScope sClasses) .none kV_classes dc_classes pm_classes an_classes cd_classes ct_classes), sl_classes⟩)
    (cd_of_classes : PySem.W.codeIn K cd_classes "_law_classes" = true)
    (k_classes : PySem.W.keepIn K (.ref f_classes) = true)
    (a_law : PySem.W.nsIn K mainGlobals "law" = some (some (.ref f_law)))
    (l_law : K.lookup f_law = some ⟨oc_law, od_law, .func (PySem.W.fnOf "law" "law" (defArgs sLaw) (defBody sLaw) (defScope sLaw) .none kV_law dc_law pm_law an_law cd_law ct_law), sl_law⟩)
    (cd_of_law : PySem.W.codeIn K cd_law "law" = true)
    (k_law : PySem.W.keepIn K (.ref f_law) = true)
    (z_int : PySem.W.nsIn K mainGlobals "int" = some none)
    (z_len : PySem.W.nsIn K mainGlobals "len" = some none)
    (z_range : PySem.W.nsIn K mainGlobals "range" = some none)
    (z_enumerate : PySem.W.nsIn K mainGlobals "enumerate" = some none)
    (z_repr : PySem.W.nsIn K mainGlobals "repr" = some none)
    (z_isinstance : PySem.W.nsIn K mainGlobals "isinstance" = some none)
    (z_list : PySem.W.nsIn K mainGlobals "list" = some none)
    (z_min : PySem.W.nsIn K mainGlobals "min" = some none)
    (z_ValueError : PySem.W.nsIn K mainGlobals "ValueError" = some none)
    : ∃ fd : FuncData, (∀ (s : Shared) (v : Value), BindsTo s fd ⟨[v], []⟩ [("script", v)]) ∧ ∀ base : Heap, K.In base → base.Ns mainGlobals mg → FnG l.prog w K mg base CX0 3 fa fd ["script"] (spLaw K) := by
  have e := hfa.symm.trans (PySem.W.mg_of X G a_law)
  cases e
  let A : Adr := ⟨c_house, c_stand, c_choices, c_band, c_number, c_paper, c_wide, c_seen, c_phases, c_text, c_seat, c_great⟩
  have B : Blt mg := ⟨PySem.W.mg_none_of X G z_int, PySem.W.mg_none_of X G z_len, PySem.W.mg_none_of X G z_range, PySem.W.mg_none_of X G z_enumerate, PySem.W.mg_none_of X G z_repr, PySem.W.mg_none_of X G z_isinstance, PySem.W.mg_none_of X G z_list⟩
  have hmin := PySem.W.mg_none_of X G z_min
  have T : Nm mg A := ⟨PySem.W.mg_of X G a_house, PySem.W.mg_of X G a_stand, PySem.W.mg_of X G a_choices, PySem.W.mg_of X G a_band, PySem.W.mg_of X G a_number, PySem.W.mg_of X G a_paper, PySem.W.mg_of X G a_wide, PySem.W.mg_of X G a_seen, PySem.W.mg_of X G a_phases, PySem.W.mg_of X G a_text, PySem.W.mg_of X G a_seat, PySem.W.mg_of X G a_great, PySem.W.mg_none_of X G z_ValueError⟩
  have oW : OexC K c_wide := ⟨⟨_, _, _, _, _, _, _, _, _, _, _, _, _, _, _, xLW, rfl⟩, saW, eCW, ty_wide, kCW⟩
  have xW : ExcC K c_wide := ⟨hgW, hkW, eCW, hdW, haW, hn, ht, hmW⟩
  have RW : Row K A c_wide true false false false true false := ⟨xW, kit_ref ic_house ty_house sW_house sW_wide, kit_ref ic_stand ty_stand sW_stand sW_wide, kit_ref ic_choices ty_choices sW_choices sW_wide, kit_ref ic_band ty_band sW_band sW_wide, kit_ref ic_number ty_number sW_number sW_wide, kit_ref ic_paper ty_paper sW_paper sW_wide, kit_ref ic_wide ty_wide sW_wide sW_wide, kit_ref ic_seen ty_seen sW_seen sW_wide, kit_ref ic_phases ty_phases sW_phases sW_wide, kit_ref ic_text ty_text sW_text sW_wide, kit_ref ic_seat ty_seat sW_seat sW_wide, kit_type (by decide +kernel) sW_ValueError, kit_ref ic_great ty_great sW_great sW_wide⟩
  have FW := fun_mk (st := sIniW) lW cd_W kIW
  have bW := FW.binds (ps := ["self", "place"]) fun _ _ _ _ _ _ us hl => match us, hl with | [_, _], _ => rfl
  have kwW : KwB (PySem.W.fnOf "__init__" "BadWide.__init__" (defArgs sIniW) (defBody sIniW) (defScope sIniW) .none kVW dcW pmW anW cdW ctW) ["self", "place"] ["place"] id id := ⟨fun s self ws hl => match ws, hl with | [_], _ => .of_eq rfl, fun r => r⟩
  have oS : OexC K c_seen := ⟨⟨_, _, _, _, _, _, _, _, _, _, _, _, _, _, _, xLS, rfl⟩, saS, eCS, ty_seen, kCS⟩
  have xS : ExcC K c_seen := ⟨hgS, hkS, eCS, hdS, haS, hn, ht, hmS⟩
  have RS : Row K A c_seen false true false false true false := ⟨xS, kit_ref ic_house ty_house sS_house sS_seen, kit_ref ic_stand ty_stand sS_stand sS_seen, kit_ref ic_choices ty_choices sS_choices sS_seen, kit_ref ic_band ty_band sS_band sS_seen, kit_ref ic_number ty_number sS_number sS_seen, kit_ref ic_paper ty_paper sS_paper sS_seen, kit_ref ic_wide ty_wide sS_wide sS_seen, kit_ref ic_seen ty_seen sS_seen sS_seen, kit_ref ic_phases ty_phases sS_phases sS_seen, kit_ref ic_text ty_text sS_text sS_seen, kit_ref ic_seat ty_seat sS_seat sS_seen, kit_type (by decide +kernel) sS_ValueError, kit_ref ic_great ty_great sS_great sS_seen⟩
  have FS := fun_mk (st := sIniS) lS cd_S kIS
  have bS := FS.binds (ps := ["self", "place"]) fun _ _ _ _ _ _ us hl => match us, hl with | [_, _], _ => rfl
  have kwS : KwB (PySem.W.fnOf "__init__" "BadSeen.__init__" (defArgs sIniS) (defBody sIniS) (defScope sIniS) .none kVS dcS pmS anS cdS ctS) ["self", "place"] ["place"] id id := ⟨fun s self ws hl => match ws, hl with | [_], _ => .of_eq rfl, fun r => r⟩
  have oP : OexC K c_phases := ⟨⟨_, _, _, _, _, _, _, _, _, _, _, _, _, _, _, xLP, rfl⟩, saP, eCP, ty_phases, kCP⟩
  have xP : ExcC K c_phases := ⟨hgP, hkP, eCP, hdP, haP, hn, ht, hmP⟩
  have RP : Row K A c_phases false false true false true false := ⟨xP, kit_ref ic_house ty_house sP_house sP_phases, kit_ref ic_stand ty_stand sP_stand sP_phases, kit_ref ic_choices ty_choices sP_choices sP_phases, kit_ref ic_band ty_band sP_band sP_phases, kit_ref ic_number ty_number sP_number sP_phases, kit_ref ic_paper ty_paper sP_paper sP_phases, kit_ref ic_wide ty_wide sP_wide sP_phases, kit_ref ic_seen ty_seen sP_seen sP_phases, kit_ref ic_phases ty_phases sP_phases sP_phases, kit_ref ic_text ty_text sP_text sP_phases, kit_ref ic_seat ty_seat sP_seat sP_phases, kit_type (by decide +kernel) sP_ValueError, kit_ref ic_great ty_great sP_great sP_phases⟩
  have FP := fun_mk (st := sIniP) lP cd_P kIP
  have bP := FP.binds (ps := ["self", "value"]) fun _ _ _ _ _ _ us hl => match us, hl with | [_, _], _ => rfl
  have kwP : KwB (PySem.W.fnOf "__init__" "BadPhases.__init__" (defArgs sIniP) (defBody sIniP) (defScope sIniP) .none kVP dcP pmP anP cdP ctP) ["self", "value"] ["value"] id id := ⟨fun s self ws hl => match ws, hl with | [_], _ => .of_eq rfl, fun r => r⟩
  have oT : OexC K c_text := ⟨⟨_, _, _, _, _, _, _, _, _, _, _, _, _, _, _, xLT, rfl⟩, saT, eCT, ty_text, kCT⟩
  have xT : ExcC K c_text := ⟨hgT, hkT, eCT, hdT, haT, hn, ht, hmT⟩
  have RT : Row K A c_text false false false true true false := ⟨xT, kit_ref ic_house ty_house sT_house sT_text, kit_ref ic_stand ty_stand sT_stand sT_text, kit_ref ic_choices ty_choices sT_choices sT_text, kit_ref ic_band ty_band sT_band sT_text, kit_ref ic_number ty_number sT_number sT_text, kit_ref ic_paper ty_paper sT_paper sT_text, kit_ref ic_wide ty_wide sT_wide sT_text, kit_ref ic_seen ty_seen sT_seen sT_text, kit_ref ic_phases ty_phases sT_phases sT_text, kit_ref ic_text ty_text sT_text sT_text, kit_ref ic_seat ty_seat sT_seat sT_text, kit_type (by decide +kernel) sT_ValueError, kit_ref ic_great ty_great sT_great sT_text⟩
  have FT := fun_mk (st := sIniT) lT cd_T kIT
  have bT := FT.binds (ps := ["self", "line", "word"]) fun _ _ _ _ _ _ us hl => match us, hl with | [_, _, _], _ => rfl
  have kwT : KwB (PySem.W.fnOf "__init__" "BadText.__init__" (defArgs sIniT) (defBody sIniT) (defScope sIniT) .none kVT dcT pmT anT cdT ctT) ["self", "line", "word"] ["word", "line"] swp swp := ⟨fun s self ws hl => match ws, hl with | [_, _], _ => .of_eq rfl, fun r => swp_rel r⟩
  have oG : OofC K c_great := ⟨⟨_, _, _, _, _, _, _, _, _, _, _, _, _, _, _, xLG, rfl⟩, saG, kCG⟩
  have xG : ExcC K c_great := ⟨hgG, hkG, eCG, hdG, haG, hn, ht, hmG⟩
  have RG : Row K A c_great false false false false false true := ⟨xG, kit_ref ic_house ty_house sG_house sG_great, kit_ref ic_stand ty_stand sG_stand sG_great, kit_ref ic_choices ty_choices sG_choices sG_great, kit_ref ic_band ty_band sG_band sG_great, kit_ref ic_number ty_number sG_number sG_great, kit_ref ic_paper ty_paper sG_paper sG_great, kit_ref ic_wide ty_wide sG_wide sG_great, kit_ref ic_seen ty_seen sG_seen sG_great, kit_ref ic_phases ty_phases sG_phases sG_great, kit_ref ic_text ty_text sG_text sG_great, kit_ref ic_seat ty_seat sG_seat sG_great, kit_type (by decide +kernel) sG_ValueError, kit_ref ic_great ty_great sG_great sG_great⟩
  have FG := fun_mk (st := sIniG) lG cd_G kIG
  have bG := FG.binds (ps := ["self", "most"]) fun _ _ _ _ _ _ us hl => match us, hl with | [_, _], _ => rfl
  have F_mixed := fun_mk (st := sMixed) l_mixed cd_of_mixed k_mixed
  have b_mixed := F_mixed.binds (ps := ["cell", "n"]) fun _ _ _ _ _ _ us hl => match us, hl with | [_, _], _ => rfl
  have g_mixed := PySem.W.mg_of X G a_mixed
  have F_folded := fun_mk (st := sFolded) l_folded cd_of_folded k_folded
  have b_folded := F_folded.binds (ps := ["script"]) fun _ _ _ _ _ _ us hl => match us, hl with | [_], _ => rfl
  have g_folded := PySem.W.mg_of X G a_folded
  have F_draw := fun_mk (st := sDraw) l_draw cd_of_draw k_draw
  have b_draw := F_draw.binds (ps := ["m", "limit"]) fun _ _ _ _ _ _ us hl => match us, hl with | [_, _], _ => rfl
  have g_draw := PySem.W.mg_of X G a_draw
  have F_begun := fun_mk (st := sBegun) l_begun cd_of_begun k_begun
  have b_begun := F_begun.binds (ps := ["script"]) fun _ _ _ _ _ _ us hl => match us, hl with | [_], _ => rfl
  have g_begun := PySem.W.mg_of X G a_begun
  have F_like := fun_mk (st := sLike) l_like cd_of_like k_like
  have b_like := F_like.binds (ps := ["answer", "due"]) fun _ _ _ _ _ _ us hl => match us, hl with | [_, _], _ => rfl
  have g_like := PySem.W.mg_of X G a_like
  have F_classes := fun_mk (st := sClasses) l_classes cd_of_classes k_classes
  have b_classes := F_classes.binds (ps := ["error"]) fun _ _ _ _ _ _ us hl => match us, hl with | [_], _ => rfl
  have g_classes := PySem.W.mg_of X G a_classes
  have F_law := fun_mk (st := sLaw) l_law cd_of_law k_law
  have b_law := F_law.binds (ps := ["script"]) fun _ _ _ _ _ _ us hl => match us, hl with | [_], _ => rfl
  have g_law := PySem.W.mg_of X G a_law
  refine ⟨PySem.W.fnOf "law" "law" (defArgs sLaw) (defBody sLaw) (defScope sLaw) .none kV_law dc_law pm_law an_law cd_law ct_law, fun s v => .of_eq rfl, fun base _ _ => ?_⟩
  have XW : Xc l.prog w K mg base "BadWide" "place" A.wide i_W _ := ⟨oW, xW, iCW, tIW, ok_iniW FW oW noW_place, bW, kwW, T.gBadWide, noW_place⟩
  have XS : Xc l.prog w K mg base "BadSeen" "place" A.seen i_S _ := ⟨oS, xS, iCS, tIS, ok_iniS FS oS noS_place, bS, kwS, T.gBadSeen, noS_place⟩
  have XP : Xc l.prog w K mg base "BadPhases" "value" A.phases i_P _ := ⟨oP, xP, iCP, tIP, ok_iniP FP oP noP_value, bP, kwP, T.gBadPhases, noP_value⟩
  have XT : Xt l.prog w K mg base "BadText" "line" "word" A.text i_T _ := ⟨oT, xT, iCT, tIT, ok_iniT FT oT noT_line noT_word, bT, kwT, T.gBadText, noT_line, noT_word⟩
  have XG : Xo l.prog w K mg base "TooGreat" "most" A.great i_G _ := ⟨oG, xG, iCG, tIG, ok_iniG FG oG noG_most, bG, T.gTooGreat, noG_most⟩
  have d1 : Dok l.prog w K mg base 2 "_law_begun" ["script"] (spBegun K) f_begun _ := ⟨ok_begun F_begun B F_folded g_folded b_folded, g_begun, k_begun, b_begun⟩
  have d2 : Dok l.prog w K mg base 2 "_law_draw" ["m", "limit"] spDraw f_draw _ := ⟨ok_draw F_draw B F_mixed g_mixed b_mixed, g_draw, k_draw, b_draw⟩
  have d3 : Dok l.prog w K mg base 1 "_law_classes" ["error"] (spClasses K A) f_classes _ := ⟨ok_classes F_classes B T, g_classes, k_classes, b_classes⟩
  have d4 : DoG l.prog w K mg base 1 "_law_like" ["answer", "due"] (spLike K) f_like _ := ⟨ok_like F_like B, g_like, k_like, b_like⟩
  exact ok_law F_law B hmin d1 d2 d3 d4 XW XS XP XT XG RW RS RP RT RG
end TSx
open PySem PySem.W PyProof.Rows
set_option maxRecDepth 100000 in
set_option maxHeartbeats 0 in
theorem PySem.Challenge.cw_termseats_k80_errors_of_the_third_part_holds : PySem.Challenge.rw_termseats_k80_errors_of_the_third_part.Holds := by
  w_on; o_law; k_head; (case hw => w_witness2)
  k_fill
  refine TSx.walkG (l := PySem.Challenge.rw_termseats_k80_errors_of_the_third_part) (n := 63) (k := 3) (x := "script") (sp := TSx.spLaw) rfl (by decide) rfl ⟨rfl, by decide, by decide⟩ (fun w h Y => PySem.W.kIn_of Y) ?F (fun w H a ns hl _ hS => ⟨a, ns, rfl, hS, hl, fun _ => rfl⟩)
  case F =>
    intro w mg fa h KX G hmg
    refine' TSx.all_mk KX G hmg ?a_house ?ic_house ?ty_house ?a_stand ?ic_stand ?ty_stand ?a_choices ?ic_choices ?ty_choices ?a_band ?ic_band ?ty_band ?a_number ?ic_number ?ty_number ?a_paper ?ic_paper ?ty_paper ?a_wide ?ic_wide ?ty_wide ?a_seen ?ic_seen ?ty_seen ?a_phases ?ic_phases ?ty_phases ?a_text ?ic_text ?ty_text ?a_seat ?ic_seat ?ty_seat ?a_great ?ic_great ?ty_great ?hn ?ht ?xLW ?saW ?eCW ?kCW ?hgW ?hkW ?hdW ?haW ?hmW ?noW_place ?iCW ?tIW ?lW ?cd_W ?kIW ?sW_house ?sW_stand ?sW_choices ?sW_band ?sW_number ?sW_paper ?sW_wide ?sW_seen ?sW_phases ?sW_text ?sW_seat ?sW_great ?sW_ValueError ?xLS ?saS ?eCS ?kCS ?hgS ?hkS ?hdS ?haS ?hmS ?noS_place ?iCS ?tIS ?lS ?cd_S ?kIS ?sS_house ?sS_stand ?sS_choices ?sS_band ?sS_number ?sS_paper ?sS_wide ?sS_seen ?sS_phases ?sS_text ?sS_seat ?sS_great ?sS_ValueError ?xLP ?saP ?eCP ?kCP ?hgP ?hkP ?hdP ?haP ?hmP ?noP_value ?iCP ?tIP ?lP ?cd_P ?kIP ?sP_house ?sP_stand ?sP_choices ?sP_band ?sP_number ?sP_paper ?sP_wide ?sP_seen ?sP_phases ?sP_text ?sP_seat ?sP_great ?sP_ValueError ?xLT ?saT ?eCT ?kCT ?hgT ?hkT ?hdT ?haT ?hmT ?noT_line ?noT_word ?iCT ?tIT ?lT ?cd_T ?kIT ?sT_house ?sT_stand ?sT_choices ?sT_band ?sT_number ?sT_paper ?sT_wide ?sT_seen ?sT_phases ?sT_text ?sT_seat ?sT_great ?sT_ValueError ?xLG ?saG ?eCG ?kCG ?hgG ?hkG ?hdG ?haG ?hmG ?noG_most ?iCG ?tIG ?lG ?cd_G ?kIG ?sG_house ?sG_stand ?sG_choices ?sG_band ?sG_number ?sG_paper ?sG_wide ?sG_seen ?sG_phases ?sG_text ?sG_seat ?sG_great ?sG_ValueError ?a_mixed ?l_mixed ?cd_of_mixed ?k_mixed ?a_folded ?l_folded ?cd_of_folded ?k_folded ?a_draw ?l_draw ?cd_of_draw ?k_draw ?a_begun ?l_begun ?cd_of_begun ?k_begun ?a_like ?l_like ?cd_of_like ?k_like ?a_classes ?l_classes ?cd_of_classes ?k_classes ?a_law ?l_law ?cd_of_law ?k_law ?z_int ?z_len ?z_range ?z_enumerate ?z_repr ?z_isinstance ?z_list ?z_min ?z_ValueError
    (case a_house => k_is)
    (case ic_house => k_is)
    (case ty_house => k_is)
    (case a_stand => k_is)
    (case ic_stand => k_is)
    (case ty_stand => k_is)
    (case a_choices => k_is)
    (case ic_choices => k_is)
    (case ty_choices => k_is)
    (case a_band => k_is)
    (case ic_band => k_is)
    (case ty_band => k_is)
    (case a_number => k_is)
    (case ic_number => k_is)
    (case ty_number => k_is)
    (case a_paper => k_is)
    (case ic_paper => k_is)
    (case ty_paper => k_is)
    (case a_wide => k_is)
    (case ic_wide => k_is)
    (case ty_wide => k_is)
    (case a_seen => k_is)
    (case ic_seen => k_is)
    (case ty_seen => k_is)
    (case a_phases => k_is)
    (case ic_phases => k_is)
    (case ty_phases => k_is)
    (case a_text => k_is)
    (case ic_text => k_is)
    (case ty_text => k_is)
    (case a_seat => k_is)
    (case ic_seat => k_is)
    (case ty_seat => k_is)
    (case a_great => k_is)
    (case ic_great => k_is)
    (case ty_great => k_is)
    (case hn => k_is)
    (case ht => k_is)
    (case xLW => k_is)
    (case saW => k_is)
    (case eCW => k_is)
    (case kCW => k_is)
    (case hgW => k_is)
    (case hkW => k_is)
    (case hdW => k_is)
    (case haW => k_is)
    (case hmW => k_is)
    (case noW_place => k_is)
    (case iCW => k_is)
    (case tIW => k_is)
    (case lW => k_is)
    (case cd_W => k_is)
    (case kIW => k_is)
    (case sW_house => k_is)
    (case sW_stand => k_is)
    (case sW_choices => k_is)
    (case sW_band => k_is)
    (case sW_number => k_is)
    (case sW_paper => k_is)
    (case sW_wide => k_is)
    (case sW_seen => k_is)
    (case sW_phases => k_is)
    (case sW_text => k_is)
    (case sW_seat => k_is)
    (case sW_great => k_is)
    (case sW_ValueError => k_is)
    (case xLS => k_is)
    (case saS => k_is)
    (case eCS => k_is)
    (case kCS => k_is)
    (case hgS => k_is)
    (case hkS => k_is)
    (case hdS => k_is)
    (case haS => k_is)
    (case hmS => k_is)
    (case noS_place => k_is)
    (case iCS => k_is)
    (case tIS => k_is)
    (case lS => k_is)
    (case cd_S => k_is)
    (case kIS => k_is)
    (case sS_house => k_is)
    (case sS_stand => k_is)
    (case sS_choices => k_is)
    (case sS_band => k_is)
    (case sS_number => k_is)
    (case sS_paper => k_is)
    (case sS_wide => k_is)
    (case sS_seen => k_is)
    (case sS_phases => k_is)
    (case sS_text => k_is)
    (case sS_seat => k_is)
    (case sS_great => k_is)
    (case sS_ValueError => k_is)
    (case xLP => k_is)
    (case saP => k_is)
    (case eCP => k_is)
    (case kCP => k_is)
    (case hgP => k_is)
    (case hkP => k_is)
    (case hdP => k_is)
    (case haP => k_is)
    (case hmP => k_is)
    (case noP_value => k_is)
    (case iCP => k_is)
    (case tIP => k_is)
    (case lP => k_is)
    (case cd_P => k_is)
    (case kIP => k_is)
    (case sP_house => k_is)
    (case sP_stand => k_is)
    (case sP_choices => k_is)
    (case sP_band => k_is)
    (case sP_number => k_is)
    (case sP_paper => k_is)
    (case sP_wide => k_is)
    (case sP_seen => k_is)
    (case sP_phases => k_is)
    (case sP_text => k_is)
    (case sP_seat => k_is)
    (case sP_great => k_is)
    (case sP_ValueError => k_is)
    (case xLT => k_is)
    (case saT => k_is)
    (case eCT => k_is)
    (case kCT => k_is)
    (case hgT => k_is)
    (case hkT => k_is)
    (case hdT => k_is)
    (case haT => k_is)
    (case hmT => k_is)
    (case noT_line => k_is)
    (case noT_word => k_is)
    (case iCT => k_is)
    (case tIT => k_is)
    (case lT => k_is)
    (case cd_T => k_is)
    (case kIT => k_is)
    (case sT_house => k_is)
    (case sT_stand => k_is)
    (case sT_choices => k_is)
    (case sT_band => k_is)
    (case sT_number => k_is)
    (case sT_paper => k_is)
    (case sT_wide => k_is)
    (case sT_seen => k_is)
    (case sT_phases => k_is)
    (case sT_text => k_is)
    (case sT_seat => k_is)
    (case sT_great => k_is)
    (case sT_ValueError => k_is)
    (case xLG => k_is)
    (case saG => k_is)
    (case eCG => k_is)
    (case kCG => k_is)
    (case hgG => k_is)
    (case hkG => k_is)
    (case hdG => k_is)
    (case haG => k_is)
    (case hmG => k_is)
    (case noG_most => k_is)
    (case iCG => k_is)
    (case tIG => k_is)
    (case lG => k_is)
    (case cd_G => k_is)
    (case kIG => k_is)
    (case sG_house => k_is)
    (case sG_stand => k_is)
    (case sG_choices => k_is)
    (case sG_band => k_is)
    (case sG_number => k_is)
    (case sG_paper => k_is)
    (case sG_wide => k_is)
    (case sG_seen => k_is)
    (case sG_phases => k_is)
    (case sG_text => k_is)
    (case sG_seat => k_is)
    (case sG_great => k_is)
    (case sG_ValueError => k_is)
    (case a_mixed => k_is)
    (case l_mixed => k_is)
    (case cd_of_mixed => k_is)
    (case k_mixed => k_is)
    (case a_folded => k_is)
    (case l_folded => k_is)
    (case cd_of_folded => k_is)
    (case k_folded => k_is)
    (case a_draw => k_is)
    (case l_draw => k_is)
    (case cd_of_draw => k_is)
    (case k_draw => k_is)
    (case a_begun => k_is)
    (case l_begun => k_is)
    (case cd_of_begun => k_is)
    (case k_begun => k_is)
    (case a_like => k_is)
    (case l_like => k_is)
    (case cd_of_like => k_is)
    (case k_like => k_is)
    (case a_classes => k_is)
    (case l_classes => k_is)
    (case cd_of_classes => k_is)
    (case k_classes => k_is)
    (case a_law => k_is)
    (case l_law => k_is)
    (case cd_of_law => k_is)
    (case k_law => k_is)
    (case z_int => k_is)
    (case z_len => k_is)
    (case z_range => k_is)
    (case z_enumerate => k_is)
    (case z_repr => k_is)
    (case z_isinstance => k_is)
    (case z_list => k_is)
    (case z_min => k_is)
    (case z_ValueError => k_is)
#print axioms PySem.Challenge.cw_termseats_k80_errors_of_the_third_part_holds

